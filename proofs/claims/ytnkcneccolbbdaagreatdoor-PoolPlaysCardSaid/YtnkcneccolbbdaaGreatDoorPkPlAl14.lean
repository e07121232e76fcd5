/-
  PoolPlays' walk.
-/
import Derived.Deep.RegionHeld3
import Derived.Test.YtnkcneccolbbdaaGreatDoorPkPlAl13
set_option linter.unusedVariables false
set_option linter.unusedSimpArgs false

namespace Go.Proofs.YtnkcneccolbbdaaGreatDoor
open Go.RowKit

theorem zB_cells : madeCells #[Value.int .u8 0] 504 = (bs zB).toArray := by
  apply Array.toList_inj.1
  rw [toList_madeCells_one]
  show List.replicate 504 (Value.int .u8 0) = bs zB
  unfold bs zB
  rw [List.map_replicate]
  rfl
theorem run_make504 (W : World) : (Instr.makeSlice 32 (.int .i64 504) (.int .i64 504)).run Tryz.prog W = .ok (.slice (some ⟨W.heap.size, 0, none⟩) 504 504) (W.alloc (.cells (bs zB).toArray 5)) := by
  obtain ⟨i0, hi, hz0, hz1, hz2⟩ := info_parts info_u8
  have h := run_make (P := Tryz.prog) W 32 5 i0 (.int .u8 0) Tryz.underlying32 hi hz0 .i64 .i64 504 504 (by omega) (by omega) (by rw [hz2]; omega) (by omega)
  rw [← zB_cells]
  simpa [hz1, Value.cells] using h
theorem build_page (g : Nat) (W : World) : (Instr.buildSlice 25 1 #[(0, .slice (some ⟨g, 0, none⟩) 504 504)]).run Tryz.prog W = .ok (.slice (some ⟨W.heap.size, 0, none⟩) 1 1) (W.alloc (.cells #[.slice (some ⟨g, 0, none⟩) 504 504] 32)) := by
  obtain ⟨i0, hi, hz0, hz1, hz2⟩ := info_out info_slice8
  refine run_buildSlice W 25 32 1 #[(0, .slice (some ⟨g, 0, none⟩) 504 504)] #[.slice (some ⟨g, 0, none⟩) 504 504] i0 _ Tryz.underlying25 hi hz0 (by rw [hz1]; decide) (by rw [hz1]; decide) ?_
  rw [hz1]
  have h := Great.fill_whole (s := 1) (by decide) [Value.slice (some ⟨g, 0, none⟩) 504 504] ((Array.range (1 * 1)).map ((Value.slice none 0 0).cells[· % (Value.slice none 0 0).cells.size]!)) (by intro v hv; rw [List.mem_singleton.1 hv]; rfl) (by rw [Array.size_map, Array.size_range]; rfl)
  exact h
theorem build_u64 (W : World) : (Instr.buildSlice 26 1 #[(0, .int .u64 0)]).run Tryz.prog W = .ok (.slice (some ⟨W.heap.size, 0, none⟩) 1 1) (W.alloc (.cells #[.int .u64 0] 33)) := by
  obtain ⟨i0, hi, hz0, hz1, hz2⟩ := info_out info_u64n
  refine run_buildSlice W 26 33 1 #[(0, .int .u64 0)] #[.int .u64 0] i0 _ Tryz.underlying26 hi hz0 (by rw [hz1]; decide) (by rw [hz1]; decide) ?_
  rw [hz1]
  have h := Great.fill_whole (s := 1) (by decide) [Value.int .u64 0] ((Array.range (1 * 1)).map ((Value.int .u64 0).cells[· % (Value.int .u64 0).cells.size]!)) (by intro v hv; rw [List.mem_singleton.1 hv]; rfl) (by rw [Array.size_map, Array.size_range]; rfl)
  exact h
theorem build_i64 (W : World) : (Instr.buildSlice 27 1 #[(0, .int .i64 0)]).run Tryz.prog W = .ok (.slice (some ⟨W.heap.size, 0, none⟩) 1 1) (W.alloc (.cells #[.int .i64 0] 3)) := by
  obtain ⟨i0, hi, hz0, hz1, hz2⟩ := info_out info_int64
  refine run_buildSlice W 27 3 1 #[(0, .int .i64 0)] #[.int .i64 0] i0 _ Tryz.underlying27 hi hz0 (by rw [hz1]; decide) (by rw [hz1]; decide) ?_
  rw [hz1]
  have h := Great.fill_whole (s := 1) (by decide) [Value.int .i64 0] ((Array.range (1 * 1)).map ((Value.int .i64 0).cells[· % (Value.int .i64 0).cells.size]!)) (by intro v hv; rw [List.mem_singleton.1 hv]; rfl) (by rw [Array.size_map, Array.size_range]; rfl)
  exact h
section
variable {w0 w : World} {b g q p c n most : Nat} {m : Mb} {l : Nat → List UInt8 × Nat} {pins : Nat → Nat} {S : St}
theorem ml_sure (h : Ml w0 w b g q p m n most l pins S) (pv : Pv S n most l pins c) (hn : n ≤ 8) : Calls Tryz.prog 8 #[.pointer (some ⟨b, 0, none⟩), .int .i64 (n : Int)] w (fun e w' => e = .returned (.bool true) ∧ Ext w w') := by
  obtain ⟨K, h1, h2, h3⟩ := h
  exact wksure_any h1 pv.good pv.fit pv.at_ pv.pages hn
theorem ml_len (h : Ml w0 w b g q p m n most l pins S) : Calls Tryz.prog 9 #[.pointer (some ⟨p, 0, none⟩)] w (Same w (.int .i64 (S.P.n : Int))) := by
  obtain ⟨K, h1, h2, h3⟩ := h
  exact wk_len h1
end
section
variable {w : World}
set_option maxRecDepth 20000 in
set_option maxHeartbeats 12800000 in
theorem poolPlays_walk (pgs frs : Nat) (A : Option Addr) (L : List Ap) (nL cc : Nat) (h1 : pgs < 256) (h2 : frs < 256) (hA : RdAp w A L) (hL : L.length = nL) (hnl : nL ≤ 4398046511104) (hy : ∀ y ∈ L, ApOk w y) (hT : Tab w) : Calls Tryz.prog 3 #[.int .u8 (pgs : Int), .int .u8 (frs : Int), .slice A nL cc] w (Ret w (Is (.bool true))) := by
  have KA := hide (pawake_any w hT)
  obtain ⟨n, HNE⟩ : ∃ n, Hid (1 + pgs % 8 = n) := ⟨_, hide rfl⟩
  have HN : Hid (1 ≤ n ∧ n ≤ 8) := hide (by have := HNE.out; omega)
  have hn1 : (1 : Int) + (pgs : Int) % 8 = (n : Int) := by have := HNE.out; omega
  have hn0 : IntKind.i64.wrap (pgs : Int) = (pgs : Int) := by rw [IntKind.wrap_i64]; omega
  have hnw : IntKind.i64.wrap (n : Int) = (n : Int) := by rw [IntKind.wrap_i64]; have := HN.out; omega
  obtain ⟨F, HFE⟩ : ∃ F, Hid (1 + frs % 5 = F) := ⟨_, hide rfl⟩
  have HF : Hid (1 ≤ F ∧ F ≤ 5) := hide (by have := HFE.out; omega)
  have hf1 : (1 : Int) + (frs : Int) % 5 = (F : Int) := by have := HFE.out; omega
  have hf0 : IntKind.i64.wrap (frs : Int) = (frs : Int) := by rw [IntKind.wrap_i64]; omega
  have hfw : IntKind.i64.wrap (F : Int) = (F : Int) := by rw [IntKind.wrap_i64]; have := HF.out; omega
  have HT := hide hT
  have HA := hide hA
  have HL := hide hL
  have HNL := hide hnl
  have HY := hide hy
  have KF : Hid (∀ W, Ext w W → Calls Tryz.prog 6 #[.int .i64 (n : Int), .int .i64 (F : Int)] W (fun e w' => ∃ b g q p, e = .returned (.pointer (some ⟨b, 0, none⟩)) ∧ Hid (W.heap.size ≤ b) ∧ Hid (Wd W w' b g q p (fS n F)))) := hide (fun W hW => wd_fresh HN.out.1 (by have := HN.out; omega) ⟨HF.out.1, by have := HF.out; omega⟩ (HT.out.ext hW))
  obtain ⟨hs1, hs2⟩ := pv_start HN.out.1 HN.out.2 ⟨HF.out.1, HF.out.2⟩
  have HS1 := hide hs1
  have HS2 := hide hs2
  obtain ⟨s0, HS0⟩ : ∃ s0, Hid (fS n F = s0) := ⟨_, hide rfl⟩
  rw [HS0.out] at KF HS1 HS2
  clear hT hA hL hnl hy h1 h2 hs1 hs2
  go_enter Tryz.func3, Tryz.ntmps3
  go_upto_region 5 with (go_at_call 5; (with_reducible refine KA.out.mono ?_); rintro e w1 ⟨rfl, hx1⟩; have HX1 := hide hx1; clear hx1)
  obtain ⟨gm, HGM⟩ : ∃ gm, Hid (w1.heap.size = gm) := ⟨_, hide rfl⟩
  obtain ⟨w2, HW2⟩ : ∃ w2, Hid (w1.alloc (.cells #[.slice none 0 0, .slice none 0 0, .slice none 0 0, .slice none 0 0, .int .i64 (F : Int)] 29) = w2) := ⟨_, hide rfl⟩
  have HR2 : Hid (Rw w2 gm 29 [.slice none 0 0, .slice none 0 0, .slice none 0 0, .slice none 0 0, .int .i64 (F : Int)]) := hide (by
    rw [← HW2.out, ← HGM.out]
    exact Rw.new w1 29 [.slice none 0 0, .slice none 0 0, .slice none 0 0, .slice none 0 0, .int .i64 (F : Int)])
  have HX2 : Hid (Ext w1 w2) := hide (by rw [← HW2.out]; exact Ext.alloc _ _)
  rw [HGM.out, HW2.out]
  have c4 := HR2.out.cell (i := 4) rfl
  clear hn0 hf0
  go_upto_region 9 with (go_at_call 6; (with_reducible refine (KF.out w2 (HX1.out.trans HX2.out)).mono ?_); rintro e w3 ⟨b, g, q, p, rfl, HB, HW3⟩)
  clear c4
  have HM3 : Hid (Mw w1 w3 b g q p gm F 0 0 0 0 (.slice none 0 0) (.slice none 0 0) (.slice none 0 0) (.slice none 0 0) s0) := hide (mw_start HX2.out HR2.out (by rw [HGM.out]; exact Nat.le_refl _) HB.out HW3.out)
  go_loopw [10] (fun x wr => ∃ (i : Nat) (vl vs vp vz : Value), x = .int .i64 (i : Int) ∧ Hid (i ≤ n) ∧ Hid (Mw w1 wr b g q p gm F i i i i vl vs vp vz s0)) (fun x _ => n - (intOf x).toNat)
  case atStart => exact ⟨0, _, _, _, _, rfl, hide (Nat.zero_le _), HM3⟩
  case round =>
    obtain ⟨i, vl, vs, vp, vz, rfl, HI, HM⟩ := hrel
    clear HM3
    by_cases hi : i < n
    · have hii : (i : Int) < (n : Int) := by omega
      obtain ⟨i1, HI1⟩ : ∃ i1, Hid (i + 1 = i1) := ⟨_, hide rfl⟩
      have hiw : IntKind.i64.wrap ((i : Int) + 1) = (i1 : Int) := by rw [IntKind.wrap_i64]; have := HI1.out; have := HN.out; omega
      have HII := hide hi
      clear hi
      have hi1k : i ≤ 1000 := by have := HII.out; have := HN.out; omega
      have HMD := hide (HM.out.ext_ (Ext.drew wr))
      have HMA := hide HMD.out.page
      obtain ⟨va, wa, hruna, hca, hfa, hma⟩ := Mw.pushL HMA.out 25 hi1k
      obtain ⟨ga, da, hva⟩ := (mw_shape hma).1 (Nat.le_add_left _ _)
      subst hva
      have HRUN := hide hruna
      have HMB := hide hma
      have c0 := HM.out.blk.cell (i := 0) rfl
      have c0d := HMD.out.blk.cell (i := 0) rfl
      have c0a := (HMD.out.ext_ (Ext.alloc _ (.cells (bs zB).toArray 5))).blk.cell (i := 0) rfl
      have hmk : (Instr.makeSlice 32 (.int .i64 504) (.int .i64 504)).run Tryz.prog wr.drew = .ok (.slice (some ⟨wr.heap.size, 0, none⟩) 504 504) (wr.drew.alloc (.cells (bs zB).toArray 5)) := run_make504 wr.drew
      obtain ⟨wp, HWP⟩ : ∃ wp, Hid (wr.drew.alloc (.cells (bs zB).toArray 5) = wp) := ⟨_, hide rfl⟩
      rw [HWP.out] at hmk c0a hruna
      obtain ⟨gp, HGP⟩ : ∃ gp, Hid (wr.heap.size = gp) := ⟨_, hide rfl⟩
      have hbp := build_page gp wp
      have hruna : (Builtin.append_ #[25, 25] 25 #[vl, .slice (some ⟨wp.heap.size, 0, none⟩) 1 1]).run Tryz.prog (wp.alloc (.cells #[.slice (some ⟨wr.heap.size, 0, none⟩) 504 504] 32)) = .ok (.slice (some ⟨ga, 0, none⟩) (i + 1) da) wa := hruna
      rw [HGP.out] at hruna hmk
      have HRUN2 := hide hruna
      have c0q : (wp.alloc (.cells #[.slice (some ⟨gp, 0, none⟩) 504 504] 32)).cell? ⟨gm, 0, none⟩ = some vl := xcell (Ext.alloc _ _) c0a
      clear hruna
      clear hma hi1k HRUN
      go_upto_region 11 with fail
      go_cut [] from 37 to 46 (fun wx => Hid (wx = wa.setCell ⟨gm, 0, none⟩ (.slice (some ⟨ga, 0, none⟩) (i + 1) da)))
      case first =>
        go_region_law ((refine step_givesV (gives_append (s := .tmp 41) (x := .tmp 43) rfl (by rfl) (by rfl) HRUN2.out ⟨rfl, rfl⟩) rfl ?_))
        all_goals (go_wp2_with fail; go_meet)
        all_goals exact hide rfl
      case rest =>
      have HM5 : Hid (Mw w1 wc b g q p gm F (i + 1) i i i (.slice (some ⟨ga, 0, none⟩) (i + 1) da) vs vp vz s0) := hide (by rw [hcut.out]; exact HMB.out)
      obtain ⟨w5, HW5E⟩ : ∃ w5, w5 = wc := ⟨_, rfl⟩
      subst HW5E
      clear hcut c0 c0d c0a c0q hmk hbp hca hfa
      go_upto_region 12 with fail
      have hks : i ≤ 1000 := by have := HII.out; have := HN.out; omega
      obtain ⟨vsn, wsn, hruns, hcs, hfs, hms⟩ := Mw.pushS HM5.out 26 hks
      obtain ⟨gs, ds, hvs⟩ := (mw_shape hms).2.1 (Nat.le_add_left _ _)
      subst hvs
      have HRUs := hide hruns
      have HM60 := hide hms
      have cs := HM5.out.blk.cell (i := 1) rfl
      clear hruns hms hks
      go_upto_region 13 with (first
        | ((with_reducible show wpList _ _ _ (⟨some 52, _, _, _, _, _⟩ :: _) _ _); refine wpList_gives (gives_buildSlice rfl [(0, .int .u64 0)] rfl (build_u64 w5) ⟨rfl, rfl⟩) rfl ?_)
        | ((with_reducible show wpList _ _ _ (⟨some 53, _, _, _, _, _⟩ :: _) _ _); refine wpList_gives (gives_append (s := .tmp 51) (x := .tmp 52) rfl rfl rfl HRUs.out ⟨rfl, rfl⟩) rfl ?_))
      obtain ⟨w6, HWw6⟩ : ∃ w6, Hid (wsn.setCell ⟨gm, 1, none⟩ (.slice (some ⟨gs, 0, none⟩) (i + 1) ds) = w6) := ⟨_, hide rfl⟩
      have HM6 := HM60
      rw [HWw6.out] at HM6
      rw [HWw6.out]
      clear cs hcs hfs
      have hkp : i ≤ 1000 := by have := HII.out; have := HN.out; omega
      obtain ⟨vpn, wpn, hrunp, hcp, hfp, hmp⟩ := Mw.pushP HM6.out 27 hkp
      obtain ⟨gp, dp, hvp⟩ := (mw_shape hmp).2.2.1 (Nat.le_add_left _ _)
      subst hvp
      have HRUp := hide hrunp
      have HM70 := hide hmp
      have cp := HM6.out.blk.cell (i := 2) rfl
      clear hrunp hmp hkp
      go_upto_region 14 with (first
        | ((with_reducible show wpList _ _ _ (⟨some 61, _, _, _, _, _⟩ :: _) _ _); refine wpList_gives (gives_buildSlice rfl [(0, .int .i64 0)] rfl (build_i64 w6) ⟨rfl, rfl⟩) rfl ?_)
        | ((with_reducible show wpList _ _ _ (⟨some 62, _, _, _, _, _⟩ :: _) _ _); refine wpList_gives (gives_append (s := .tmp 60) (x := .tmp 61) rfl rfl rfl HRUp.out ⟨rfl, rfl⟩) rfl ?_))
      obtain ⟨w7, HWw7⟩ : ∃ w7, Hid (wpn.setCell ⟨gm, 2, none⟩ (.slice (some ⟨gp, 0, none⟩) (i + 1) dp) = w7) := ⟨_, hide rfl⟩
      have HM7 := HM70
      rw [HWw7.out] at HM7
      rw [HWw7.out]
      clear cp hcp hfp
      have hkz : i ≤ 1000 := by have := HII.out; have := HN.out; omega
      obtain ⟨vzn, wzn, hrunz, hcz, hfz, hmz⟩ := Mw.pushZ HM7.out 26 hkz
      obtain ⟨gz, dz, hvz⟩ := (mw_shape hmz).2.2.2 (Nat.le_add_left _ _)
      subst hvz
      have HRUz := hide hrunz
      have HM80 := hide hmz
      have cz := HM7.out.blk.cell (i := 3) rfl
      clear hrunz hmz hkz
      go_upto_region 10 with (first
        | ((with_reducible show wpList _ _ _ (⟨some 70, _, _, _, _, _⟩ :: _) _ _); refine wpList_gives (gives_buildSlice rfl [(0, .int .u64 0)] rfl (build_u64 w7) ⟨rfl, rfl⟩) rfl ?_)
        | ((with_reducible show wpList _ _ _ (⟨some 71, _, _, _, _, _⟩ :: _) _ _); refine wpList_gives (gives_append (s := .tmp 69) (x := .tmp 70) rfl rfl rfl HRUz.out ⟨rfl, rfl⟩) rfl ?_))
      obtain ⟨w8, HWw8⟩ : ∃ w8, Hid (wzn.setCell ⟨gm, 3, none⟩ (.slice (some ⟨gz, 0, none⟩) (i + 1) dz) = w8) := ⟨_, hide rfl⟩
      have HM8 := HM80
      rw [HWw8.out] at HM8
      rw [HWw8.out]
      clear cz hcz hfz
      go_wp2
      refine ⟨⟨i1, _, _, _, _, rfl, hide (by have := HII.out; have := HI1.out; omega), hide (by rw [← HI1.out]; exact HM8.out)⟩, ?_⟩
      show n - ((i1 : Int)).toNat < n - ((i : Int)).toNat
      have := HII.out; have := HI1.out; omega
    · obtain rfl : i = n := by have := HI.out; omega
      clear hi
      obtain ⟨m, hmg, hml⟩ := ml_of_mw HM.out HN.out.1
      have HMG := hide hmg
      have HM0 := hide hml
      have HTW : Hid (Tab w1) := hide (HT.out.ext HX1.out)
      clear hmg hml HM KF KA HW3 HR2
      go_upto_region 16 with fail
      go_loopw [11] (fun x wr => ∃ (k : Nat) (l : Nat → List UInt8 × Nat) (pins : Nat → Nat) (S : St), x = .int .i64 (k : Int) ∧ Hid (k ≤ 50 ∧ k ≤ nL) ∧ Hid (Ml w1 wr b g q p m i F l pins S) ∧ Hid (Pv S i F l pins (10 + 300 * k)) ∧ Hid (endOf S.L ≤ 480 + 3 * k) ∧ Hid (∀ j, j < i → pins j ≤ k)) (fun x _ => 51 - (intOf x).toNat)
      case atStart => exact ⟨0, _, _, s0, rfl, hide ⟨Nat.zero_le _, Nat.zero_le _⟩, HM0, HS1, hide (by rw [HS2.out]; exact Nat.le_refl _), hide (fun j hj => Nat.zero_le _)⟩
      case round =>
        obtain ⟨k, l, pins, S, rfl, HK, HM, HP, HE, HPB⟩ := hrel
        clear HM0
        by_cases hkn : k < nL
        · have hkni : (k : Int) < (nL : Int) := by omega
          by_cases hk5 : k < 50
          · have hk5i : (k : Int) < 50 := by omega
            obtain ⟨y, hyk⟩ : ∃ y, L[k]? = some y := ⟨_, List.getElem?_eq_getElem (by rw [HL.out]; exact hkn)⟩
            have HYK := hide (HY.out y (List.mem_of_getElem? hyk))
            obtain ⟨ab, ao, rfl, hcell⟩ := HA.out (by intro e; rw [e] at hyk; cases hyk)
            have hc4 := hcell k y hyk
            obtain ⟨yk, yg, yo, yP, ycp, yp⟩ := y
            obtain ⟨yn, HYN⟩ : ∃ yn, Hid (yp.length = yn) := ⟨_, hide rfl⟩
            have HAC : Hid (∀ W, Ext w W → W.cell? ⟨ab, ao + k * 4, none⟩ = some (.int .u8 (yk : Int)) ∧ W.cell? ⟨ab, ao + k * 4 + 1, none⟩ = some (.int .u8 (yg : Int)) ∧ W.cell? ⟨ab, ao + k * 4 + 2, none⟩ = some (.int .u16 (yo : Int)) ∧ W.cell? ⟨ab, ao + k * 4 + 3, none⟩ = some (.slice yP yn ycp)) := hide (fun W hW => ⟨xcell hW (hc4 0 _ rfl), xcell hW (hc4 1 _ rfl), xcell hW (hc4 2 _ rfl), xcell hW (by have h0 := hc4 3 _ rfl; rw [← HYN.out]; exact h0)⟩)
            obtain ⟨en, HEN⟩ : ∃ en, Hid (endOf S.L = en) := ⟨_, hide rfl⟩
            have KDO : Hid (∀ W, Ext wr W → Calls Tryz.prog 7 #[.pointer (some ⟨gm, 0, none⟩), .pointer (some ⟨b, 0, none⟩), .agg #[.int .u8 (yk : Int), .int .u8 (yg : Int), .int .u16 (yo : Int), .slice yP yn ycp], .int .i64 (i : Int)] W (fun e w' => e = .returned (.bool true) ∧ Dn w1 w' b g q p m i F (10 + 300 * k) en pins)) := hide (fun W hW => by
              have k0 := mdo_any (HM.out.ext_ hW) HP.out (by omega) HN.out.2 HF.out.2 HTW.out (by have := HE.out; omega) (fun j hj => by have := HPB.out j hj; omega) yk yg yo yP yn ycp HYK.out.k HYK.out.g HYK.out.o (HYK.out.p.ext HX1.out) HYN.out (by have h0 := HYK.out.n; rw [← HYN.out]; exact Nat.le_trans h0 (by decide))
              rw [HMG.out, HEN.out] at k0
              exact k0)
            obtain ⟨k1, HK1⟩ : ∃ k1, Hid (k + 1 = k1) := ⟨_, hide rfl⟩
            have hkw : IntKind.i64.wrap ((k : Int) + 1) = (k1 : Int) := by rw [IntKind.wrap_i64]; have := HK1.out; omega
            have HKK := hide (And.intro hkn hk5)
            have c4r : wr.cell? ⟨gm, 4, none⟩ = some (.int .i64 (F : Int)) := by
              obtain ⟨K5, mo5⟩ := HM.out.mo
              have h0 := mo5.c4
              rw [HMG.out] at h0
              exact h0
            have d2r := HM.out.v2
            obtain ⟨a0, a1, a2, a3⟩ := HAC.out wr (HX1.out.trans HM.out.ext)
            clear hyk hcell hc4 hkn hk5
            go_upto_region 18 with fail
            go_cut [116] from 84 to 116 (fun v wx => v = .bool false ∧ ∃ (l' : Nat → List UInt8 × Nat) (pins' : Nat → Nat) (S' : St), Hid (Ml w1 wx b g q p m i F l' pins' S') ∧ Hid (Pv S' i F l' pins' (10 + 300 * k + 300)) ∧ Hid (endOf S'.L ≤ en + 3) ∧ Hid (∀ j, j < i → pins' j ≤ pins j + 1))
            case first =>
              have hb18 : ∀ W, Ml w1 W b g q p m i F l pins S → W.cell? ⟨gm, 4, none⟩ = some (.int .i64 (F : Int)) ∧ W.cell? ⟨b, 2, none⟩ = some (.pointer (some ⟨p, 0, none⟩)) := fun W hW => by
                obtain ⟨K5, mo5⟩ := hW.mo
                have h0 := mo5.c4
                rw [HMG.out] at h0
                exact ⟨h0, hW.v2⟩
              clear hb18
              go_region_held3 (fun w' => w'.cell? ⟨ab, ao + k * 4, none⟩ = some (.int .u8 (yk : Int)) ∧ w'.cell? ⟨ab, ao + k * 4 + 1, none⟩ = some (.int .u8 (yg : Int)) ∧ w'.cell? ⟨ab, ao + k * 4 + 2, none⟩ = some (.int .u16 (yo : Int)) ∧ w'.cell? ⟨ab, ao + k * 4 + 3, none⟩ = some (.slice yP yn ycp) ∧ w'.cell? ⟨gm, 4, none⟩ = some (.int .i64 (F : Int)) ∧ w'.cell? ⟨b, 2, none⟩ = some (.pointer (some ⟨p, 0, none⟩))) (first | exact ⟨a0, a1, a2, a3, c4r, d2r⟩ | exact ⟨a05, a15, a25, a35, c45, d25⟩ | exact ⟨a06, a16, a26, a36, c46, d26⟩ | exact ⟨a07, a17, a27, a37, c47, d27⟩) (first
                | (go_at_call 7; (with_reducible refine (KDO.out _ (Ext.drew _)).mono ?_); rintro e w5 ⟨rfl, l5, pins5, S5, hm5, hp5, he5, hpb5⟩; have HM5 := hide hm5; have HP5 := hide hp5; have HE5 := hide he5; have HPB5 := hide hpb5; have KSU5 := hide (ml_sure hm5 hp5 HN.out.2); obtain ⟨a05, a15, a25, a35⟩ := HAC.out w5 (HX1.out.trans hm5.ext); have c45 : w5.cell? ⟨gm, 4, none⟩ = some (.int .i64 (F : Int)) := (by obtain ⟨K5, mo5⟩ := HM5.out.mo; have h0 := mo5.c4; rw [HMG.out] at h0; exact h0); have d25 := hm5.v2; clear hm5 hp5 he5 hpb5)
                | (go_at_call 8; (with_reducible refine KSU5.out.mono ?_); rintro e w6 ⟨rfl, hx6⟩; have HX6 := hide hx6; have HM6 := hide (HM5.out.ext_ hx6); obtain ⟨a06, a16, a26, a36⟩ := HAC.out w6 (HX1.out.trans HM6.out.ext); have c46 := xcell hx6 c45; have d26 := xcell hx6 d25; obtain ⟨pn, HPN⟩ : ∃ pn, Hid (S5.P.n = pn) := ⟨_, hide rfl⟩; have KLN6 := hide (ml_len HM6.out); rw [HPN.out] at KLN6; have KDI6 := hide (mdirty_any HM6.out HP5.out HN.out.2 (by omega) sortC); rw [HMG.out] at KDI6; have hpl : ¬ (F : Int) < (pn : Int) := (by have h1 := HP5.out.fit.pool.cnt; rw [HP5.out.frames, HPN.out] at h1; omega); have hpd : decide ((F : Int) < (pn : Int)) = false := decide_eq_false hpl; have hpg : decide ((pn : Int) > (F : Int)) = false := decide_eq_false hpl; have hpn2 : decide (F < pn) = false := decide_eq_false (by omega); clear hx6)
                | (go_at_call 9; (with_reducible refine KLN6.out.mono ?_); rintro e w9 ⟨rfl, hw9⟩; subst hw9)
                | (go_at_call 10; (with_reducible refine KDI6.out.mono ?_); rintro e w7 ⟨rfl, hm7⟩; have HM7 := hide hm7; obtain ⟨a07, a17, a27, a37⟩ := HAC.out w7 (HX1.out.trans hm7.ext); have c47 : w7.cell? ⟨gm, 4, none⟩ = some (.int .i64 (F : Int)) := (by obtain ⟨K5, mo5⟩ := HM7.out.mo; have h0 := mo5.c4; rw [HMG.out] at h0; exact h0); have d27 := hm7.v2; clear hm7))
              all_goals (go_wp2_with fail; go_meet)
              all_goals exact ⟨rfl, l5, pins5, _, HM7, hide HP5.out.settle, HE5, HPB5⟩
            case rest =>
              obtain ⟨rfl, l5, pins5, S5, HM5, HP5, HE5, HPB5⟩ := hcut
              clear a0 a1 a2 a3 c4r d2r
              go_wp2
              go_roundw
              case rel => exact ⟨k1, l5, pins5, S5, rfl, hide (by have := HKK.out; have := HK1.out; omega), HM5, hide (HP5.out.mono (by have := HK1.out; omega)), hide (by have := HE5.out; have := HE.out; have := HEN.out; have := HK1.out; omega), hide (fun j hj => by have := HPB5.out j hj; have := HPB.out j hj; have := HK1.out; omega)⟩
              case measure =>
                show 51 - ((k1 : Int)).toNat < 51 - ((k : Int)).toNat
                have := HKK.out; have := HK1.out; omega
          · have hk5i : ¬ (k : Int) < 50 := by omega
            clear hkn hk5
            have d2 := HM.out.v2
            have KFL := hide (ml_flush HM.out HP.out (by have := HK.out; omega) HF.out.2 HTW.out)
            go_wp2_with (first
              | (go_at_call 11; (with_reducible refine KFL.out.mono ?_); rintro e w5 ⟨rfl, S5, hm5, hp5, -, hcl5, hpn5⟩; have HM5 := hide hm5; have HPN5 := hide hpn5; have KDI5 := hide (ml_dirty hm5 hp5 (by have := HK.out; omega) hcl5); clear d2; have d25 := hm5.v2; clear hm5 hp5 hcl5 hpn5)
              | (go_at_call 12; (with_reducible refine KDI5.out.mono ?_); rintro e w6 ⟨A6, c6, rfl, S6, hm6, hp6, -, hcl6, hd6⟩; have KLA6 := hide (mlasts_any hm6 hp6 HN.out.2 hcl6 (by rw [hd6]; exact HPN5.out)); rw [HMG.out] at KLA6; clear hm6 hp6 hcl6 hd6 d25)
              | (go_at_call 13; (with_reducible refine KLA6.out.mono ?_); rintro e w7 ⟨rfl, hm7⟩; have HM7 := hide hm7; clear hm7))
            go_ret
            exact Ret.mk (HX1.out.trans HM7.out.ext) rfl
        · have hkni : ¬ (k : Int) < (nL : Int) := by omega
          clear hkn
          have d2 := HM.out.v2
          have KFL := hide (ml_flush HM.out HP.out (by have := HK.out; omega) HF.out.2 HTW.out)
          go_wp2_with (first
            | (go_at_call 11; (with_reducible refine KFL.out.mono ?_); rintro e w5 ⟨rfl, S5, hm5, hp5, -, hcl5, hpn5⟩; have HM5 := hide hm5; have HPN5 := hide hpn5; have KDI5 := hide (ml_dirty hm5 hp5 (by have := HK.out; omega) hcl5); clear d2; have d25 := hm5.v2; clear hm5 hp5 hcl5 hpn5)
            | (go_at_call 12; (with_reducible refine KDI5.out.mono ?_); rintro e w6 ⟨A6, c6, rfl, S6, hm6, hp6, -, hcl6, hd6⟩; have KLA6 := hide (mlasts_any hm6 hp6 HN.out.2 hcl6 (by rw [hd6]; exact HPN5.out)); rw [HMG.out] at KLA6; clear hm6 hp6 hcl6 hd6 d25)
            | (go_at_call 13; (with_reducible refine KLA6.out.mono ?_); rintro e w7 ⟨rfl, hm7⟩; have HM7 := hide hm7; clear hm7))
          go_ret
          exact Ret.mk (HX1.out.trans HM7.out.ext) rfl
end
end Go.Proofs.YtnkcneccolbbdaaGreatDoor
