/-
  The walk of CodecEncodes.
  CodecEncodes: for all values, as many as the form reaches, the law answers true and leaves them as they were; utf8.first and utf8.acceptRanges hold what the program's text lays.
  CodecCuts: for all values, as many as the form reaches, every cut and every byte more, the law answers true and leaves the values as they were; utf8.first and utf8.acceptRanges hold what the program's text lays.
  ReadKey of any bytes.
-/
import Derived.Deep.CutRange
import Derived.RegionTactic
import Derived.Deep.RegionLaw
import Derived.Test.YtpdikmcaihlbaaaDoorPkCdE30
import Derived.Test.YtpdikmcaihlbaaaDoorPkCdE32
import Derived.Test.YtpdikmcaihlbaaaDoorPkCdE33
import Derived.Test.YtpdikmcaihlbaaaDoorPkCdE36
set_option linter.unusedVariables false
set_option linter.unusedSimpArgs false

namespace Go.Proofs.YtpdikmcaihlbaaaDoor
open Go.RowKit

theorem gives_indexP {P : Program} {o : Oper} {a : Act} {w : World} {R : Value → World → Prop} {x y : Operand} {t : TypeId} {u z v : Value} (h : o.op = .indexAddr t x y) (hx : a.eval x = u) (hy : a.eval y = z) (hrun : (Instr.indexAt t u z).run P w = .ok v w) (hR : R v w) : gives P o a w R := by
  refine gives_of_run (w' := w) (v := v) ?_ hR
  unfold execOp
  simp only [h, hx, hy, Sem.run_bind, hrun, Result.andThen_ok, Sem.run_pure]
theorem run_indexV (b off n c i : Nat) (h : i < n) (w : World) : (Instr.indexAt 22 (.slice (some ⟨b, off, none⟩) n c) (.int .i64 (i : Int))).run Tryd.prog w = .ok (.pointer (some ⟨b, off + i * 3, none⟩)) w := by
  have hi : (i : Int) < (n : Int) := by omega
  have h0 : (0 : Int) ≤ (i : Int) := by omega
  simp [go_sem, Tryd.underlying22, hi, h0, add_flat]
theorem bytes_nil (w : World) : Bytes [] w (.slice none 0 0) := ⟨none, 0, rfl, Nat.le_refl _, Rd.nil _ _⟩
set_option maxRecDepth 20000 in
set_option maxHeartbeats 6400000 in
theorem encodes_no (A : Option Addr) (L : List Vl) (n c : Nat) (w : World) (hr : RdV w A L) (hn : L.length = n) (hnc : n ≤ c) (hl : n ≤ 140737488355328) (hb : ∀ x ∈ L, VlIn x) (hT : Tabs w) (k : Int) (hk : encT L = (k, none)) (hk0 : (k == 0) = false) (hk1 : (k != 0) = true) :
    Calls Tryd.prog 3 #[.slice A n c] w (RetB w true) := by
  have KA := hide (fun (W : World) (hW : Ext w W) => awake_any W (hT.ext hW))
  have KE := hide (fun (W : World) (hW : Ext w W) => encode_any A L n c W (hr.ext hW) hn hnc hl hb (hT.ext hW))
  have KG := hide (fun (W : World) (hW : Ext w W) => rencode_any A L n c W (hr.ext hW) hn hnc hl hb (hT.ext hW))
  rw [hk] at KE KG
  have HR := hide hr
  have HN := hide hn
  have HB := hide hb
  have HT := hide hT
  have hnI : (n : Int) ≤ 140737488355328 := by omega
  clear hr hn hb hT hnc hl hk
  go_enter Tryd.func3, Tryd.ntmps3
  go_upto_region 4 with (go_at_call 11; (with_reducible refine (KA.out _ (Ext.refl _)).mono ?_); rintro e w1 ⟨rfl, hx1⟩; have X1 := hide hx1)
  go_loopw [3] (fun iv wr => ∃ i : Nat, i ≤ n ∧ i ≤ 30 ∧ iv = .int .i64 (i : Int) ∧ Hid (Ext w wr)) (fun iv _ => n - (intOf iv).toNat)
  case atStart => exact ⟨0, Nat.zero_le _, Nat.zero_le _, rfl, X1⟩
  case round =>
    obtain ⟨i, hi, hi30, rfl, HX⟩ := hrel
    obtain ⟨wr, HWR⟩ := worldOf HX
    subst HWR
    by_cases hlt : i < n
    · have hii : (i : Int) < (n : Int) := by omega
      by_cases h30 : i < 30
      · have h30i : (i : Int) < 30 := by omega
        obtain ⟨x, hx⟩ : ∃ x, L[i]? = some x := ⟨_, List.getElem?_eq_getElem (by rw [HN.out]; exact hlt)⟩
        obtain ⟨b, off, hA, hc⟩ := HR.out (by intro h; rw [h] at hx; cases hx)
        subst hA
        have VI := HB.out x (List.mem_of_getElem? hx)
        obtain ⟨vb, HVB⟩ : ∃ vb, Hid (vOk x = vb) := ⟨_, hide rfl⟩
        have KF1 := hide (fun (W : World) (hW : Ext wr W) => form_any x W VI (HT.out.ext (HX.out.trans hW)))
        have KF2 := hide (fun (W : World) (hW : Ext wr W) => rform_any x W VI (HT.out.ext (HX.out.trans hW)))
        rw [HVB.out] at KF1 KF2
        have HCC : Hid (∀ j v, [Value.int .u8 x.1, .int .i64 x.2.1, .string x.2.2][j]? = some v → wr.cell? ⟨b, off + i * 3 + j, none⟩ = some v) := hide (fun j v hj => by
          match j, hj with
          | 0, hj => injection hj with hj; subst hj; exact HX.out.keeps.cell (hc i x hx).1
          | 1, hj => injection hj with hj; subst hj; exact HX.out.keeps.cell (hc i x hx).2.1
          | 2, hj => injection hj with hj; subst hj; exact HX.out.keeps.cell (hc i x hx).2.2
          | j + 3, hj => cases hj)
        clear hc hx VI
        go_upto_region 6 with fail
        rename_i hK
        refine wp_region_sp (Nat.le_refl _) [
            Sp.is (.slice (some ⟨b, off, none⟩) n c),
            Sp.is (.int .i64 (i : Int)),
            Sp.is (.pointer (some ⟨b, off + i * 3, none⟩)),
            Sp.is (.agg #[.int .u8 x.1, .int .i64 x.2.1, .string x.2.2]),
            Sp.is (.bool vb),
            Sp.is (.slice (some ⟨b, off, none⟩) n c),
            Sp.is (.int .i64 (i : Int)),
            Sp.is (.pointer (some ⟨b, off + i * 3, none⟩)),
            Sp.is (.agg #[.int .u8 x.1, .int .i64 x.2.1, .string x.2.2]),
            Sp.is (.bool vb),
            Sp.is (.bool false)] (by kernel_rfl) (by kernel_rfl) ?_ ?_
        · refine ⟨?_, ?_, ?_, ?_, ?_, ?_, ?_, ?_, ?_, ?_, ?_, trivial⟩
          · intro az wz hx hB hk H
            refine .inl ⟨wanted_none rfl, ?_⟩
            refine gives_move rfl ?_
            rw [(ev (show az.tmps[0]? = some (.slice (some ⟨b, off, none⟩) n c) from hk 0 rfl))]
            exact ⟨Grw.refl _ _, rfl⟩
          · intro az wz hx hB hk H
            refine .inl ⟨wanted_none rfl, ?_⟩
            refine gives_move rfl ?_
            rw [(ev (show az.tmps[3]? = some (.int .i64 (i : Int)) from hk 3 rfl))]
            exact ⟨Grw.refl _ _, rfl⟩
          · intro az wz hx hB hk H
            obtain ⟨v26, h26, s26⟩ := H 0 rfl _ rfl 26 rfl
            obtain ⟨v27, h27, s27⟩ := H 1 rfl _ rfl 27 rfl
            refine .inl ⟨wanted_none rfl, ?_⟩
            exact gives_indexP rfl (ev (show az.tmps[26]? = some (.slice (some ⟨b, off, none⟩) n c) from by rw [h26, s26])) (ev (show az.tmps[27]? = some (.int .i64 (i : Int)) from by rw [h27, s27])) (run_indexV b off n c i hlt _) ⟨Grw.refl _ _, rfl⟩
          · intro az wz hx hB hk H
            obtain ⟨v28, h28, s28⟩ := H 2 rfl _ rfl 28 rfl
            refine .inl ⟨wanted_none rfl, ?_⟩
            refine gives_load_at 26 (.tmp 28) rfl b (off + i * 3) (ev (show az.tmps[28]? = some (.pointer (some ⟨b, off + i * 3, none⟩)) from by rw [h28, s28])) [.int .u8 x.1, .int .i64 x.2.1, .string x.2.2] 3 (agg_struct Tryd.underlying26 wz) (by kernel_rfl) rfl (fun j v hj => hx.keeps.cell (HCC.out j v hj)) ⟨Grw.refl _ _, rfl⟩
          · intro az wz hx hB hk H
            obtain ⟨v29, h29, s29⟩ := H 3 rfl _ rfl 29 rfl
            refine .inl ⟨wanted_none rfl, ?_⟩
            refine gives_call rfl Tryd.call12 (by simp only [List.map_toArray, List.map_cons, List.map_nil, ev h29]; rw [s29]) ?_
            exact (KF1.out wz ((Ext.refl wr).grw hx)).mono fun e w' ⟨he, hx'⟩ => Ret.grw (⟨_, he, hx', rfl⟩ : Ret wz (Is (.bool vb)) e w') hB
          · intro az wz hx hB hk H
            refine .inl ⟨wanted_none rfl, ?_⟩
            refine gives_move rfl ?_
            rw [(ev (show az.tmps[0]? = some (.slice (some ⟨b, off, none⟩) n c) from hk 0 rfl))]
            exact ⟨Grw.refl _ _, rfl⟩
          · intro az wz hx hB hk H
            refine .inl ⟨wanted_none rfl, ?_⟩
            refine gives_move rfl ?_
            rw [(ev (show az.tmps[3]? = some (.int .i64 (i : Int)) from hk 3 rfl))]
            exact ⟨Grw.refl _ _, rfl⟩
          · intro az wz hx hB hk H
            obtain ⟨v31, h31, s31⟩ := H 5 rfl _ rfl 31 rfl
            obtain ⟨v32, h32, s32⟩ := H 6 rfl _ rfl 32 rfl
            refine .inl ⟨wanted_none rfl, ?_⟩
            exact gives_indexP rfl (ev (show az.tmps[31]? = some (.slice (some ⟨b, off, none⟩) n c) from by rw [h31, s31])) (ev (show az.tmps[32]? = some (.int .i64 (i : Int)) from by rw [h32, s32])) (run_indexV b off n c i hlt _) ⟨Grw.refl _ _, rfl⟩
          · intro az wz hx hB hk H
            obtain ⟨v33, h33, s33⟩ := H 7 rfl _ rfl 33 rfl
            refine .inl ⟨wanted_none rfl, ?_⟩
            refine gives_load_at 26 (.tmp 33) rfl b (off + i * 3) (ev (show az.tmps[33]? = some (.pointer (some ⟨b, off + i * 3, none⟩)) from by rw [h33, s33])) [.int .u8 x.1, .int .i64 x.2.1, .string x.2.2] 3 (agg_struct Tryd.underlying26 wz) (by kernel_rfl) rfl (fun j v hj => hx.keeps.cell (HCC.out j v hj)) ⟨Grw.refl _ _, rfl⟩
          · intro az wz hx hB hk H
            obtain ⟨v34, h34, s34⟩ := H 8 rfl _ rfl 34 rfl
            refine .inl ⟨wanted_none rfl, ?_⟩
            refine gives_call rfl Tryd.call13 (by simp only [List.map_toArray, List.map_cons, List.map_nil, ev h34]; rw [s34]) ?_
            exact (KF2.out wz ((Ext.refl wr).grw hx)).mono fun e w' ⟨he, hx'⟩ => Ret.grw (⟨_, he, hx', rfl⟩ : Ret wz (Is (.bool vb)) e w') hB
          · intro az wz hx hB hk H
            obtain ⟨v30, h30, s30⟩ := H 4 rfl _ rfl 30 rfl
            obtain ⟨v35, h35, s35⟩ := H 9 rfl _ rfl 35 rfl
            refine .inl ⟨wanted_none rfl, ?_⟩
            refine gives_of_run (w' := wz) (v := .bool false) ?_ ⟨Grw.refl _ _, rfl⟩
            rw [s30] at h30
            rw [s35] at h35
            simp [execOp, go_sem, h30, h35]
        · intro az wz hx hd hs hv hsame
          obtain ⟨v26, h26, s26⟩ := hv 0 _ 26 rfl rfl
          obtain rfl : v26 = (.slice (some ⟨b, off, none⟩) n c) := s26
          obtain ⟨v27, h27, s27⟩ := hv 1 _ 27 rfl rfl
          obtain rfl : v27 = (.int .i64 (i : Int)) := s27
          obtain ⟨v28, h28, s28⟩ := hv 2 _ 28 rfl rfl
          obtain rfl : v28 = (.pointer (some ⟨b, off + i * 3, none⟩)) := s28
          obtain ⟨v29, h29, s29⟩ := hv 3 _ 29 rfl rfl
          obtain rfl : v29 = (.agg #[.int .u8 x.1, .int .i64 x.2.1, .string x.2.2]) := s29
          obtain ⟨v30, h30, s30⟩ := hv 4 _ 30 rfl rfl
          obtain rfl : v30 = (.bool vb) := s30
          obtain ⟨v31, h31, s31⟩ := hv 5 _ 31 rfl rfl
          obtain rfl : v31 = (.slice (some ⟨b, off, none⟩) n c) := s31
          obtain ⟨v32, h32, s32⟩ := hv 6 _ 32 rfl rfl
          obtain rfl : v32 = (.int .i64 (i : Int)) := s32
          obtain ⟨v33, h33, s33⟩ := hv 7 _ 33 rfl rfl
          obtain rfl : v33 = (.pointer (some ⟨b, off + i * 3, none⟩)) := s33
          obtain ⟨v34, h34, s34⟩ := hv 8 _ 34 rfl rfl
          obtain rfl : v34 = (.agg #[.int .u8 x.1, .int .i64 x.2.1, .string x.2.2]) := s34
          obtain ⟨v35, h35, s35⟩ := hv 9 _ 35 rfl rfl
          obtain rfl : v35 = (.bool vb) := s35
          obtain ⟨v36, h36, s36⟩ := hv 10 _ 36 rfl rfl
          obtain rfl : v36 = (.bool false) := s36
          have hfr := frame_last (k := 11) [(26, (.slice (some ⟨b, off, none⟩) n c)), (27, (.int .i64 (i : Int))), (28, (.pointer (some ⟨b, off + i * 3, none⟩))), (29, (.agg #[.int .u8 x.1, .int .i64 x.2.1, .string x.2.2])), (30, (.bool vb)), (31, (.slice (some ⟨b, off, none⟩) n c)), (32, (.int .i64 (i : Int))), (33, (.pointer (some ⟨b, off + i * 3, none⟩))), (34, (.agg #[.int .u8 x.1, .int .i64 x.2.1, .string x.2.2])), (35, (.bool vb)), (36, (.bool false))] hs (by kernel_rfl) (by simp only [List.forall_mem_cons, List.not_mem_nil, false_implies, implies_true, and_true]; exact ⟨h26, h27, h28, h29, h30, h31, h32, h33, h34, h35, h36⟩) (fun t' h => hsame t' fun i o ho => h i o (by intro e; subst e; cases ho) ho)
          simp only [List.foldl_cons, List.foldl_nil, List.setIfInBounds_toArray, List.set_cons_succ, List.set_cons_zero] at hfr
          obtain ⟨tm, df⟩ := az
          simp only [] at hfr hd
          subst hfr hd
          clear hv hsame hs h26 h27 h28 h29 h30 h31 h32 h33 h34 h35 h36
          refine hK _ _ ?_
          have X7 := hide (HX.out.trans ((Ext.refl wr).grw hx))
          go_wp2
          exact ⟨⟨i + 1, by omega, by omega, by go_num, X7⟩, by simp [intOf]; omega⟩
      · have h30i : ¬ (i : Int) < 30 := by omega
        go_upto_region 10 with (first
          | (go_at_call 14; (with_reducible refine (KE.out _ HX.out).mono ?_); rintro e w2 ⟨hx2, rfl⟩; have X2 := hide (HX.out.trans hx2))
          | (go_at_call 15; (with_reducible refine (KG.out _ X2.out).mono ?_); rintro e w3 ⟨hx3, rfl⟩; have X3 := hide (X2.out.trans hx3)))
        go_wp2_with (first
          | (refine wpList_str (by rfl) (.tmp 47) rfl [] (bytes_nil _) ?_)
          | (refine wpList_str (by rfl) (.tmp 49) rfl [] (bytes_nil _) ?_))
        go_ret
        exact ⟨rfl, X3.out⟩
    · have hii : ¬ (i : Int) < (n : Int) := by omega
      go_upto_region 10 with (first
        | (go_at_call 14; (with_reducible refine (KE.out _ HX.out).mono ?_); rintro e w2 ⟨hx2, rfl⟩; have X2 := hide (HX.out.trans hx2))
        | (go_at_call 15; (with_reducible refine (KG.out _ X2.out).mono ?_); rintro e w3 ⟨hx3, rfl⟩; have X3 := hide (X2.out.trans hx3)))
      go_wp2_with (first
        | (refine wpList_str (by rfl) (.tmp 47) rfl [] (bytes_nil _) ?_)
        | (refine wpList_str (by rfl) (.tmp 49) rfl [] (bytes_nil _) ?_))
      go_ret
      exact ⟨rfl, X3.out⟩
set_option maxRecDepth 20000 in
set_option maxHeartbeats 6400000 in
theorem encodes_yes (A : Option Addr) (L : List Vl) (n c : Nat) (w : World) (hr : RdV w A L) (hn : L.length = n) (hnc : n ≤ c) (hl : n ≤ 140737488355328) (hb : ∀ x ∈ L, VlIn x) (hT : Tabs w) (h12 : L.length ≤ 12) (hall : L.all vOk = true) (hE : encT L = (0, some (encB L))) :
    Calls Tryd.prog 3 #[.slice A n c] w (RetB w true) := by
  have KA := hide (fun (W : World) (hW : Ext w W) => awake_any W (hT.ext hW))
  have KE := hide (fun (W : World) (hW : Ext w W) => encode_any A L n c W (hr.ext hW) hn hnc hl hb (hT.ext hW))
  have KG := hide (fun (W : World) (hW : Ext w W) => rencode_any A L n c W (hr.ext hW) hn hnc hl hb (hT.ext hW))
  rw [hE] at KE KG
  have hlen := encB_len L h12 hall hb
  obtain ⟨FL, HFL⟩ : ∃ l, Hid (encB L = l) := ⟨_, hide rfl⟩
  obtain ⟨NL, HNL⟩ : ∃ n, Hid (FL.length = n) := ⟨_, hide rfl⟩
  rw [HFL.out, HNL.out] at hlen
  rw [HFL.out] at KE KG
  have HC : Hid (rowAt FL = some L) := hide (by rw [← HFL.out]; exact row_read L h12 hall hb)
  have KD := hide (fun (W : World) (hW : Ext w W) (AP : Option Addr) (cp : Nat) (hR : Rd W AP FL) (hc : NL ≤ cp) => (show Calls Tryd.prog 16 #[.slice AP NL cp] W (DecC W (some L)) from by
    have h := decode_any AP FL NL cp W hR HNL.out hc (by omega) (hT.ext hW)
    rw [HC.out] at h
    exact h))
  have HR := hide hr
  have HN := hide hn
  have HB := hide hb
  have HT := hide hT
  have hnI : (n : Int) ≤ 140737488355328 := by omega
  clear hr hn hb hT hnc hl hE hall h12
  go_enter Tryd.func3, Tryd.ntmps3
  go_upto_region 4 with (go_at_call 11; (with_reducible refine (KA.out _ (Ext.refl _)).mono ?_); rintro e w1 ⟨rfl, hx1⟩; have X1 := hide hx1)
  go_loopw [3] (fun iv wr => ∃ i : Nat, i ≤ n ∧ i ≤ 30 ∧ iv = .int .i64 (i : Int) ∧ Hid (Ext w wr)) (fun iv _ => n - (intOf iv).toNat)
  case atStart => exact ⟨0, Nat.zero_le _, Nat.zero_le _, rfl, X1⟩
  case round =>
    obtain ⟨i, hi, hi30, rfl, HX⟩ := hrel
    obtain ⟨wr, HWR⟩ := worldOf HX
    subst HWR
    by_cases hlt : i < n
    · have hii : (i : Int) < (n : Int) := by omega
      by_cases h30 : i < 30
      · have h30i : (i : Int) < 30 := by omega
        obtain ⟨x, hx⟩ : ∃ x, L[i]? = some x := ⟨_, List.getElem?_eq_getElem (by rw [HN.out]; exact hlt)⟩
        obtain ⟨b, off, hA, hc⟩ := HR.out (by intro h; rw [h] at hx; cases hx)
        subst hA
        have VI := HB.out x (List.mem_of_getElem? hx)
        obtain ⟨vb, HVB⟩ : ∃ vb, Hid (vOk x = vb) := ⟨_, hide rfl⟩
        have KF1 := hide (fun (W : World) (hW : Ext wr W) => form_any x W VI (HT.out.ext (HX.out.trans hW)))
        have KF2 := hide (fun (W : World) (hW : Ext wr W) => rform_any x W VI (HT.out.ext (HX.out.trans hW)))
        rw [HVB.out] at KF1 KF2
        have HCC : Hid (∀ j v, [Value.int .u8 x.1, .int .i64 x.2.1, .string x.2.2][j]? = some v → wr.cell? ⟨b, off + i * 3 + j, none⟩ = some v) := hide (fun j v hj => by
          match j, hj with
          | 0, hj => injection hj with hj; subst hj; exact HX.out.keeps.cell (hc i x hx).1
          | 1, hj => injection hj with hj; subst hj; exact HX.out.keeps.cell (hc i x hx).2.1
          | 2, hj => injection hj with hj; subst hj; exact HX.out.keeps.cell (hc i x hx).2.2
          | j + 3, hj => cases hj)
        clear hc hx VI
        go_upto_region 6 with fail
        rename_i hK
        refine wp_region_sp (Nat.le_refl _) [
            Sp.is (.slice (some ⟨b, off, none⟩) n c),
            Sp.is (.int .i64 (i : Int)),
            Sp.is (.pointer (some ⟨b, off + i * 3, none⟩)),
            Sp.is (.agg #[.int .u8 x.1, .int .i64 x.2.1, .string x.2.2]),
            Sp.is (.bool vb),
            Sp.is (.slice (some ⟨b, off, none⟩) n c),
            Sp.is (.int .i64 (i : Int)),
            Sp.is (.pointer (some ⟨b, off + i * 3, none⟩)),
            Sp.is (.agg #[.int .u8 x.1, .int .i64 x.2.1, .string x.2.2]),
            Sp.is (.bool vb),
            Sp.is (.bool false)] (by kernel_rfl) (by kernel_rfl) ?_ ?_
        · refine ⟨?_, ?_, ?_, ?_, ?_, ?_, ?_, ?_, ?_, ?_, ?_, trivial⟩
          · intro az wz hx hB hk H
            refine .inl ⟨wanted_none rfl, ?_⟩
            refine gives_move rfl ?_
            rw [(ev (show az.tmps[0]? = some (.slice (some ⟨b, off, none⟩) n c) from hk 0 rfl))]
            exact ⟨Grw.refl _ _, rfl⟩
          · intro az wz hx hB hk H
            refine .inl ⟨wanted_none rfl, ?_⟩
            refine gives_move rfl ?_
            rw [(ev (show az.tmps[3]? = some (.int .i64 (i : Int)) from hk 3 rfl))]
            exact ⟨Grw.refl _ _, rfl⟩
          · intro az wz hx hB hk H
            obtain ⟨v26, h26, s26⟩ := H 0 rfl _ rfl 26 rfl
            obtain ⟨v27, h27, s27⟩ := H 1 rfl _ rfl 27 rfl
            refine .inl ⟨wanted_none rfl, ?_⟩
            exact gives_indexP rfl (ev (show az.tmps[26]? = some (.slice (some ⟨b, off, none⟩) n c) from by rw [h26, s26])) (ev (show az.tmps[27]? = some (.int .i64 (i : Int)) from by rw [h27, s27])) (run_indexV b off n c i hlt _) ⟨Grw.refl _ _, rfl⟩
          · intro az wz hx hB hk H
            obtain ⟨v28, h28, s28⟩ := H 2 rfl _ rfl 28 rfl
            refine .inl ⟨wanted_none rfl, ?_⟩
            refine gives_load_at 26 (.tmp 28) rfl b (off + i * 3) (ev (show az.tmps[28]? = some (.pointer (some ⟨b, off + i * 3, none⟩)) from by rw [h28, s28])) [.int .u8 x.1, .int .i64 x.2.1, .string x.2.2] 3 (agg_struct Tryd.underlying26 wz) (by kernel_rfl) rfl (fun j v hj => hx.keeps.cell (HCC.out j v hj)) ⟨Grw.refl _ _, rfl⟩
          · intro az wz hx hB hk H
            obtain ⟨v29, h29, s29⟩ := H 3 rfl _ rfl 29 rfl
            refine .inl ⟨wanted_none rfl, ?_⟩
            refine gives_call rfl Tryd.call12 (by simp only [List.map_toArray, List.map_cons, List.map_nil, ev h29]; rw [s29]) ?_
            exact (KF1.out wz ((Ext.refl wr).grw hx)).mono fun e w' ⟨he, hx'⟩ => Ret.grw (⟨_, he, hx', rfl⟩ : Ret wz (Is (.bool vb)) e w') hB
          · intro az wz hx hB hk H
            refine .inl ⟨wanted_none rfl, ?_⟩
            refine gives_move rfl ?_
            rw [(ev (show az.tmps[0]? = some (.slice (some ⟨b, off, none⟩) n c) from hk 0 rfl))]
            exact ⟨Grw.refl _ _, rfl⟩
          · intro az wz hx hB hk H
            refine .inl ⟨wanted_none rfl, ?_⟩
            refine gives_move rfl ?_
            rw [(ev (show az.tmps[3]? = some (.int .i64 (i : Int)) from hk 3 rfl))]
            exact ⟨Grw.refl _ _, rfl⟩
          · intro az wz hx hB hk H
            obtain ⟨v31, h31, s31⟩ := H 5 rfl _ rfl 31 rfl
            obtain ⟨v32, h32, s32⟩ := H 6 rfl _ rfl 32 rfl
            refine .inl ⟨wanted_none rfl, ?_⟩
            exact gives_indexP rfl (ev (show az.tmps[31]? = some (.slice (some ⟨b, off, none⟩) n c) from by rw [h31, s31])) (ev (show az.tmps[32]? = some (.int .i64 (i : Int)) from by rw [h32, s32])) (run_indexV b off n c i hlt _) ⟨Grw.refl _ _, rfl⟩
          · intro az wz hx hB hk H
            obtain ⟨v33, h33, s33⟩ := H 7 rfl _ rfl 33 rfl
            refine .inl ⟨wanted_none rfl, ?_⟩
            refine gives_load_at 26 (.tmp 33) rfl b (off + i * 3) (ev (show az.tmps[33]? = some (.pointer (some ⟨b, off + i * 3, none⟩)) from by rw [h33, s33])) [.int .u8 x.1, .int .i64 x.2.1, .string x.2.2] 3 (agg_struct Tryd.underlying26 wz) (by kernel_rfl) rfl (fun j v hj => hx.keeps.cell (HCC.out j v hj)) ⟨Grw.refl _ _, rfl⟩
          · intro az wz hx hB hk H
            obtain ⟨v34, h34, s34⟩ := H 8 rfl _ rfl 34 rfl
            refine .inl ⟨wanted_none rfl, ?_⟩
            refine gives_call rfl Tryd.call13 (by simp only [List.map_toArray, List.map_cons, List.map_nil, ev h34]; rw [s34]) ?_
            exact (KF2.out wz ((Ext.refl wr).grw hx)).mono fun e w' ⟨he, hx'⟩ => Ret.grw (⟨_, he, hx', rfl⟩ : Ret wz (Is (.bool vb)) e w') hB
          · intro az wz hx hB hk H
            obtain ⟨v30, h30, s30⟩ := H 4 rfl _ rfl 30 rfl
            obtain ⟨v35, h35, s35⟩ := H 9 rfl _ rfl 35 rfl
            refine .inl ⟨wanted_none rfl, ?_⟩
            refine gives_of_run (w' := wz) (v := .bool false) ?_ ⟨Grw.refl _ _, rfl⟩
            rw [s30] at h30
            rw [s35] at h35
            simp [execOp, go_sem, h30, h35]
        · intro az wz hx hd hs hv hsame
          obtain ⟨v26, h26, s26⟩ := hv 0 _ 26 rfl rfl
          obtain rfl : v26 = (.slice (some ⟨b, off, none⟩) n c) := s26
          obtain ⟨v27, h27, s27⟩ := hv 1 _ 27 rfl rfl
          obtain rfl : v27 = (.int .i64 (i : Int)) := s27
          obtain ⟨v28, h28, s28⟩ := hv 2 _ 28 rfl rfl
          obtain rfl : v28 = (.pointer (some ⟨b, off + i * 3, none⟩)) := s28
          obtain ⟨v29, h29, s29⟩ := hv 3 _ 29 rfl rfl
          obtain rfl : v29 = (.agg #[.int .u8 x.1, .int .i64 x.2.1, .string x.2.2]) := s29
          obtain ⟨v30, h30, s30⟩ := hv 4 _ 30 rfl rfl
          obtain rfl : v30 = (.bool vb) := s30
          obtain ⟨v31, h31, s31⟩ := hv 5 _ 31 rfl rfl
          obtain rfl : v31 = (.slice (some ⟨b, off, none⟩) n c) := s31
          obtain ⟨v32, h32, s32⟩ := hv 6 _ 32 rfl rfl
          obtain rfl : v32 = (.int .i64 (i : Int)) := s32
          obtain ⟨v33, h33, s33⟩ := hv 7 _ 33 rfl rfl
          obtain rfl : v33 = (.pointer (some ⟨b, off + i * 3, none⟩)) := s33
          obtain ⟨v34, h34, s34⟩ := hv 8 _ 34 rfl rfl
          obtain rfl : v34 = (.agg #[.int .u8 x.1, .int .i64 x.2.1, .string x.2.2]) := s34
          obtain ⟨v35, h35, s35⟩ := hv 9 _ 35 rfl rfl
          obtain rfl : v35 = (.bool vb) := s35
          obtain ⟨v36, h36, s36⟩ := hv 10 _ 36 rfl rfl
          obtain rfl : v36 = (.bool false) := s36
          have hfr := frame_last (k := 11) [(26, (.slice (some ⟨b, off, none⟩) n c)), (27, (.int .i64 (i : Int))), (28, (.pointer (some ⟨b, off + i * 3, none⟩))), (29, (.agg #[.int .u8 x.1, .int .i64 x.2.1, .string x.2.2])), (30, (.bool vb)), (31, (.slice (some ⟨b, off, none⟩) n c)), (32, (.int .i64 (i : Int))), (33, (.pointer (some ⟨b, off + i * 3, none⟩))), (34, (.agg #[.int .u8 x.1, .int .i64 x.2.1, .string x.2.2])), (35, (.bool vb)), (36, (.bool false))] hs (by kernel_rfl) (by simp only [List.forall_mem_cons, List.not_mem_nil, false_implies, implies_true, and_true]; exact ⟨h26, h27, h28, h29, h30, h31, h32, h33, h34, h35, h36⟩) (fun t' h => hsame t' fun i o ho => h i o (by intro e; subst e; cases ho) ho)
          simp only [List.foldl_cons, List.foldl_nil, List.setIfInBounds_toArray, List.set_cons_succ, List.set_cons_zero] at hfr
          obtain ⟨tm, df⟩ := az
          simp only [] at hfr hd
          subst hfr hd
          clear hv hsame hs h26 h27 h28 h29 h30 h31 h32 h33 h34 h35 h36
          refine hK _ _ ?_
          have X7 := hide (HX.out.trans ((Ext.refl wr).grw hx))
          go_wp2
          exact ⟨⟨i + 1, by omega, by omega, by go_num, X7⟩, by simp [intOf]; omega⟩
      · have h30i : ¬ (i : Int) < 30 := by omega
        go_upto_region 10 with (first
          | (go_at_call 14; (with_reducible refine (KE.out _ HX.out).mono ?_); rintro e w2 ⟨hx2, v2, rfl, ho2⟩; obtain ⟨AP, cp, hv2, hcp, hrp⟩ := ho2.bytes; rw [HNL.out] at hv2 hcp; subst hv2; have RP := hide hrp; have HCP := hide hcp; have X2 := hide (HX.out.trans hx2); clear hx2 ho2 hrp hcp)
          | (go_at_call 15; (with_reducible refine (KG.out _ X2.out).mono ?_); rintro e w3 ⟨hx3, v3, rfl, ho3⟩; have B3 := hide ho3.bytes; have RP3 := hide (RP.out.ext hx3); have X3 := hide (X2.out.trans hx3); clear hx3 ho3))
        go_upto_region 14 with (first
          | (refine wpList_str (by rfl) (.tmp 47) rfl FL ⟨AP, cp, (by rw [HNL.out]; rfl), (by rw [HNL.out]; exact HCP.out), RP3.out⟩ ?_)
          | (refine wpList_str (by rfl) (.tmp 49) rfl FL B3.out ?_))
        go_upto_region 15 with (go_at_call 16; (with_reducible refine (KD.out _ X3.out _ _ RP3.out HCP.out).mono ?_); rintro e w4 ⟨hx4, v4, rfl, ho4⟩; obtain ⟨AM, cm, hv4, hcm, hrm⟩ := ho4.slice; rw [HN.out] at hv4 hcm; subst hv4; have RM := hide hrm; have X4 := hide (X3.out.trans hx4); clear hx4 ho4 hrm)
        have KS := hide (same_yes AM A L n cm c w4 RM.out (HR.out.ext X4.out) HN.out (by omega))
        go_wp2_with (go_at_call 17; (with_reducible refine KS.out.mono ?_); rintro e w5 ⟨rfl, hx5⟩; have X5 := hide (X4.out.trans hx5))
        go_ret
        exact ⟨rfl, X5.out⟩
    · have hii : ¬ (i : Int) < (n : Int) := by omega
      go_upto_region 10 with (first
        | (go_at_call 14; (with_reducible refine (KE.out _ HX.out).mono ?_); rintro e w2 ⟨hx2, v2, rfl, ho2⟩; obtain ⟨AP, cp, hv2, hcp, hrp⟩ := ho2.bytes; rw [HNL.out] at hv2 hcp; subst hv2; have RP := hide hrp; have HCP := hide hcp; have X2 := hide (HX.out.trans hx2); clear hx2 ho2 hrp hcp)
        | (go_at_call 15; (with_reducible refine (KG.out _ X2.out).mono ?_); rintro e w3 ⟨hx3, v3, rfl, ho3⟩; have B3 := hide ho3.bytes; have RP3 := hide (RP.out.ext hx3); have X3 := hide (X2.out.trans hx3); clear hx3 ho3))
      go_upto_region 14 with (first
        | (refine wpList_str (by rfl) (.tmp 47) rfl FL ⟨AP, cp, (by rw [HNL.out]; rfl), (by rw [HNL.out]; exact HCP.out), RP3.out⟩ ?_)
        | (refine wpList_str (by rfl) (.tmp 49) rfl FL B3.out ?_))
      go_upto_region 15 with (go_at_call 16; (with_reducible refine (KD.out _ X3.out _ _ RP3.out HCP.out).mono ?_); rintro e w4 ⟨hx4, v4, rfl, ho4⟩; obtain ⟨AM, cm, hv4, hcm, hrm⟩ := ho4.slice; rw [HN.out] at hv4 hcm; subst hv4; have RM := hide hrm; have X4 := hide (X3.out.trans hx4); clear hx4 ho4 hrm)
      have KS := hide (same_yes AM A L n cm c w4 RM.out (HR.out.ext X4.out) HN.out (by omega))
      go_wp2_with (go_at_call 17; (with_reducible refine KS.out.mono ?_); rintro e w5 ⟨rfl, hx5⟩; have X5 := hide (X4.out.trans hx5))
      go_ret
      exact ⟨rfl, X5.out⟩
theorem codecEncodes_walk (A : Option Addr) (L : List Vl) (n c : Nat) (w : World) (hr : RdV w A L) (hn : L.length = n) (hnc : n ≤ c) (hl : n ≤ 140737488355328) (hb : ∀ x ∈ L, VlIn x) (hT : Tabs w) :
    Calls Tryd.prog 3 #[.slice A n c] w (RetB w true) := by
  rcases encT_cases L with ⟨k, hk, hk0, hk1⟩ | ⟨h12, hall, hE⟩
  · exact encodes_no A L n c w hr hn hnc hl hb hT k hk hk0 hk1
  · exact encodes_yes A L n c w hr hn hnc hl hb hT h12 hall hE
end Go.Proofs.YtpdikmcaihlbaaaDoor
namespace Go.Proofs.YtpdikmcaihlbaaaDoor.lawCodecEncodes
open Go.ChangeShapes Go.WideShapes Go.ChangeAt Go.RowKit
open Go.ChangeMaps (open_string)

set_option maxRecDepth 100000 in
theorem contract (H : Type) (enc : TypeId × Value → H) (W : World) (base : Nat) (args : Array Value) (ds gs : List (DataW H)) (before : List MemPlace)
    (hval : ∀ (j : Nat) t v, Tryd.f3.params[j]? = some t → args[j]? = some v → Value.okWide Tryd.prog W .any base t v)
    (hW : DataW.Whole enc Tryd.prog Tryd.f3.params.toList Rows.codecEncodesSpec.vars false W args.toList ds gs before) (hz : (DataW.weightsEach Tryd.prog (Tryd.f3.params.toList ++ (OpenSpec.ofChange Rows.codecEncodesSpec).bare.plain.varTypes Tryd.prog) (ds ++ gs)).all (· ≤ reachBytes) = true) (hL : laidMetH Tryd.prog Rows.codecEncodesRow.laid W) :
    Calls Tryd.prog 3 args W fun e W' => ∃ v, e = .returned v ∧ Rows.codecEncodesSpec.post enc Tryd.prog Tryd.f3 false true false false W args v W' := by
  have hW' := hW
  obtain ⟨p, q, hA0, hV, hbe, hfz, hnd⟩ := hW
  have hA : DataW.TrodAll enc Tryd.prog W 0 (fun _ => true) true Tryd.f3.params.toList args.toList ds p := hA0
  obtain ⟨rfl, rfl⟩ := trodVars_none hV
  rw [Tryd.params3] at hA hval
  obtain ⟨v0, vs0, d0, ds0, p0, q0, hg0, hd0, hp0, h0, r0⟩ := trodAll_cons hA
  obtain ⟨e1, e2, e3⟩ := trodAll_nil r0
  have hds : ds = [d0] := by simp [hd0, e2]
  obtain rfl : args = #[v0] := by
    have : args.toList = [v0] := by simp [hg0, e1]
    exact Array.toList_inj.1 this
  subst hds
  obtain ⟨A0, c0, l0, rfl, hc0, hr0, iv0, hd0⟩ := open_values (hval 0 22 v0 rfl rfl) h0
  have hm0 := vals_many hd0 (arg_small hz (j := 0) rfl rfl)
  have ht := tabs_of_laid hL
  refine (((codecEncodes_walk A0 l0 l0.length c0 W hr0 rfl hc0 (by omega) iv0 ht).mono fun e w' ⟨he, hx⟩ => (⟨_, he, hx, rfl⟩ : Ret W (Is (.bool true)) e w'))).mono fun e W' ⟨v, he, hx, hv⟩ => ?_
  subst he
  have hv' : v = .bool true := hv
  subst hv'
  exact ⟨_, rfl, law_post laidOut hW' rfl (by rw [Tryd.params3]; exact readable_all _ (by kernel_rfl)) (by kernel_rfl) Tryd.underlying4 rfl hx⟩

theorem laid_met (os : Os) : laidMet Tryd.prog Rows.codecEncodesRow.laid ((laidWorld os).forCall (fun _ _ => 0) ⟨#[], #[Value.slice none 0 0], []⟩).memory :=
  laidWorld_met os _
theorem reads (os : Os) {H : Type} (enc : TypeId × Value → H) : ∃ places, DataW.whole enc Tryd.prog ((laidWorld os).forCall (fun _ _ => 0) ⟨#[], #[Value.slice none 0 0], []⟩).memory Tryd.f3.params.toList Rows.codecEncodesSpec.vars false (#[Value.slice none 0 0]).toList 8 = some ([.nil], [], places) :=
  ⟨[], by kernel_rfl⟩

set_option maxRecDepth 100000 in
theorem lifted (os : Os) (started : os.Started) (H : Type) (enc : TypeId × Value → H) (F : Stop.Interp) :
    ReturnsInHanded {} Tryd.checked os 3 .any ((OpenSpec.ofChange Rows.codecEncodesSpec).preRow enc Tryd.prog Tryd.f3 Rows.codecEncodesRow.domain false Rows.codecEncodesRow.laid) (((OpenSpec.ofChange Rows.codecEncodesSpec).at F).post enc Tryd.prog Tryd.f3 false true false false) := by
  obtain ⟨places, hx⟩ := reads os enc
  refine returnsInHanded_of_row (C := Tryd.checked) (s := (OpenSpec.ofChange Rows.codecEncodesSpec)) own started (by kernel_rfl) Tryd.func3
    (witness_row_at (enc := enc) (C := Tryd.checked) false (laidWorld os) #[Value.slice none 0 0] (laidWorld_os os) (by kernel_rfl) (by kernel_rfl) (by kernel_rfl)
      (OpenSpec.preRow_of_cond 8 hx (by kernel_rfl) (fun k hk => by cases hk) (by kernel_rfl) (laid_met os))) ?_
  intro W base args ds gs before hval hW _ hcond hz hL _ _
  exact contract H enc W base args ds gs before hval hW hz hL

theorem said : Rows.CodecEncodesSaid :=
  OpenClaim.holds_of_cond 3 Tryd.f3 rfl rfl rfl rfl rfl rfl rfl ⟨rfl, rfl, rfl, rfl, rfl⟩ rfl rfl rfl rfl rfl (by kernel_rfl) Tryd.func3 (by kernel_rfl)
    (of_decide_eq_true (by kernel_rfl)) (by unfold Func.isWrapper; first | (rw [if_pos (by decide +kernel)]; kernel_rfl) | (rw [if_neg (by decide +kernel)]; exact ⟨rfl, rfl⟩))
    (fun os started H enc _ F => by rw [OpenClaim.pre_eq_preRow]; exact lifted os started H enc F)

theorem plain (f : FuncId) (fn : Func) (hf : Tryd.pinned.checked.prog.funcNamed "muniment/munimentlaw04.CodecEncodes" = some f) (hfn : Tryd.pinned.checked.prog.funcs[f]? = some fn) :
    Rows.codecEncodesCard.stood.looks = Tryd.pinned.checked.prog.looks [] ∧ ∀ (j : Nat) t, fn.params[j]? = some t → Tryd.pinned.checked.prog.wantsStandIn t = false := by
  obtain rfl : f = 3 := Option.some.inj ((show Tryd.prog.funcNamed "muniment/munimentlaw04.CodecEncodes" = some 3 by kernel_rfl).symm.trans hf) |>.symm
  obtain rfl : fn = Tryd.f3 := (Option.some.inj (Tryd.func3.symm.trans hfn)).symm
  refine ⟨by kernel_rfl, fun j t ht => ?_⟩
  have h := (show (Tryd.f3.params.toList.all fun t => !Tryd.prog.wantsStandIn t) = true by kernel_rfl)
  have h2 := List.all_eq_true.1 h t (by simpa using Array.mem_of_getElem? ht)
  have h3 : Tryd.prog.wantsStandIn t = false := by simpa using h2
  exact h3

/-- The card. -/
theorem card : Rows.CodecEncodesCardSaid :=
  Claim7.holds_tied_plain_at .later [] _ _ _ _ said (fun _ h => by cases h) (by kernel_rfl) (fun _ h => by cases h) codecEncodes_row_tie rfl ⟨rfl, rfl⟩ (by kernel_rfl) rfl plain (by kernel_rfl)
end Go.Proofs.YtpdikmcaihlbaaaDoor.lawCodecEncodes
namespace Go.Proofs.YtpdikmcaihlbaaaDoor.lawCodecCuts
open Go.ChangeShapes Go.WideShapes Go.ChangeAt Go.RowKit
open Go.ChangeMaps (open_string)

set_option maxRecDepth 100000 in
theorem contract (H : Type) (enc : TypeId × Value → H) (W : World) (base : Nat) (args : Array Value) (ds gs : List (DataW H)) (before : List MemPlace)
    (hval : ∀ (j : Nat) t v, Tryd.f5.params[j]? = some t → args[j]? = some v → Value.okWide Tryd.prog W .any base t v)
    (hW : DataW.Whole enc Tryd.prog Tryd.f5.params.toList Rows.codecCutsSpec.vars false W args.toList ds gs before) (hz : (DataW.weightsEach Tryd.prog (Tryd.f5.params.toList ++ (OpenSpec.ofChange Rows.codecCutsSpec).bare.plain.varTypes Tryd.prog) (ds ++ gs)).all (· ≤ reachBytes) = true) (hL : laidMetH Tryd.prog Rows.codecCutsRow.laid W) :
    Calls Tryd.prog 5 args W fun e W' => ∃ v, e = .returned v ∧ Rows.codecCutsSpec.post enc Tryd.prog Tryd.f5 false true false false W args v W' := by
  have hW' := hW
  obtain ⟨p, q, hA0, hV, hbe, hfz, hnd⟩ := hW
  have hA : DataW.TrodAll enc Tryd.prog W 0 (fun _ => true) true Tryd.f5.params.toList args.toList ds p := hA0
  obtain ⟨rfl, rfl⟩ := trodVars_none hV
  rw [Tryd.params5] at hA hval
  obtain ⟨v0, vs0, d0, ds0, p0, q0, hg0, hd0, hp0, h0, r0⟩ := trodAll_cons hA
  obtain ⟨v1, vs1, d1, ds1, p1, q1, hg1, hd1, hp1, h1, r1⟩ := trodAll_cons r0
  obtain ⟨v2, vs2, d2, ds2, p2, q2, hg2, hd2, hp2, h2, r2⟩ := trodAll_cons r1
  obtain ⟨e1, e2, e3⟩ := trodAll_nil r2
  have hds : ds = [d0, d1, d2] := by simp [hd0, hd1, hd2, e2]
  obtain rfl : args = #[v0, v1, v2] := by
    have : args.toList = [v0, v1, v2] := by simp [hg0, hg1, hg2, e1]
    exact Array.toList_inj.1 this
  subst hds
  obtain ⟨A0, c0, l0, rfl, hc0, hr0, iv0, hd0⟩ := open_values (hval 0 22 v0 rfl rfl) h0
  have hm0 := vals_many hd0 (arg_small hz (j := 0) rfl rfl)
  obtain ⟨n1, rfl, hd1, -, wf1⟩ := open_int Tryd.underlying40 (hval 1 40 v1 rfl rfl) h1
  have hb1 := bounds_u16 wf1
  obtain ⟨n2, rfl, hd2, -, wf2⟩ := open_int Tryd.underlying5 (hval 2 5 v2 rfl rfl) h2
  have hb2 := bounds_u8 wf2
  have ht := tabs_of_laid hL
  refine (((codecCuts_walk' A0 l0 l0.length c0 n1 n2 W hr0 rfl hc0 (by omega) iv0 hb1 hb2 ht).mono fun e w' ⟨he, hx⟩ => (⟨_, he, hx, rfl⟩ : Ret W (Is (.bool true)) e w'))).mono fun e W' ⟨v, he, hx, hv⟩ => ?_
  subst he
  have hv' : v = .bool true := hv
  subst hv'
  exact ⟨_, rfl, law_post laidOut hW' rfl (by rw [Tryd.params5]; exact readable_all _ (by kernel_rfl)) (by kernel_rfl) Tryd.underlying4 rfl hx⟩

theorem laid_met (os : Os) : laidMet Tryd.prog Rows.codecCutsRow.laid ((laidWorld os).forCall (fun _ _ => 0) ⟨#[], #[Value.slice none 0 0, Value.int .u16 0, Value.int .u8 0], []⟩).memory :=
  laidWorld_met os _
theorem reads (os : Os) {H : Type} (enc : TypeId × Value → H) : ∃ places, DataW.whole enc Tryd.prog ((laidWorld os).forCall (fun _ _ => 0) ⟨#[], #[Value.slice none 0 0, Value.int .u16 0, Value.int .u8 0], []⟩).memory Tryd.f5.params.toList Rows.codecCutsSpec.vars false (#[Value.slice none 0 0, Value.int .u16 0, Value.int .u8 0]).toList 8 = some ([.nil, .lit (.int .u16 0), .lit (.int .u8 0)], [], places) :=
  ⟨[], by kernel_rfl⟩

set_option maxRecDepth 100000 in
theorem lifted (os : Os) (started : os.Started) (H : Type) (enc : TypeId × Value → H) (F : Stop.Interp) :
    ReturnsInHanded {} Tryd.checked os 5 .any ((OpenSpec.ofChange Rows.codecCutsSpec).preRow enc Tryd.prog Tryd.f5 Rows.codecCutsRow.domain false Rows.codecCutsRow.laid) (((OpenSpec.ofChange Rows.codecCutsSpec).at F).post enc Tryd.prog Tryd.f5 false true false false) := by
  obtain ⟨places, hx⟩ := reads os enc
  refine returnsInHanded_of_row (C := Tryd.checked) (s := (OpenSpec.ofChange Rows.codecCutsSpec)) own started (by kernel_rfl) Tryd.func5
    (witness_row_at (enc := enc) (C := Tryd.checked) false (laidWorld os) #[Value.slice none 0 0, Value.int .u16 0, Value.int .u8 0] (laidWorld_os os) (by kernel_rfl) (by kernel_rfl) (by kernel_rfl)
      (OpenSpec.preRow_of_cond 8 hx (by kernel_rfl) (fun k hk => by cases hk) (by kernel_rfl) (laid_met os))) ?_
  intro W base args ds gs before hval hW _ hcond hz hL _ _
  exact contract H enc W base args ds gs before hval hW hz hL

theorem said : Rows.CodecCutsSaid :=
  OpenClaim.holds_of_cond 5 Tryd.f5 rfl rfl rfl rfl rfl rfl rfl ⟨rfl, rfl, rfl, rfl, rfl⟩ rfl rfl rfl rfl rfl (by kernel_rfl) Tryd.func5 (by kernel_rfl)
    (of_decide_eq_true (by kernel_rfl)) (by unfold Func.isWrapper; first | (rw [if_pos (by decide +kernel)]; kernel_rfl) | (rw [if_neg (by decide +kernel)]; exact ⟨rfl, rfl⟩))
    (fun os started H enc _ F => by rw [OpenClaim.pre_eq_preRow]; exact lifted os started H enc F)

theorem plain (f : FuncId) (fn : Func) (hf : Tryd.pinned.checked.prog.funcNamed "muniment/munimentlaw04.CodecCuts" = some f) (hfn : Tryd.pinned.checked.prog.funcs[f]? = some fn) :
    Rows.codecCutsCard.stood.looks = Tryd.pinned.checked.prog.looks [] ∧ ∀ (j : Nat) t, fn.params[j]? = some t → Tryd.pinned.checked.prog.wantsStandIn t = false := by
  obtain rfl : f = 5 := Option.some.inj ((show Tryd.prog.funcNamed "muniment/munimentlaw04.CodecCuts" = some 5 by kernel_rfl).symm.trans hf) |>.symm
  obtain rfl : fn = Tryd.f5 := (Option.some.inj (Tryd.func5.symm.trans hfn)).symm
  refine ⟨by kernel_rfl, fun j t ht => ?_⟩
  have h := (show (Tryd.f5.params.toList.all fun t => !Tryd.prog.wantsStandIn t) = true by kernel_rfl)
  have h2 := List.all_eq_true.1 h t (by simpa using Array.mem_of_getElem? ht)
  have h3 : Tryd.prog.wantsStandIn t = false := by simpa using h2
  exact h3

/-- The card. -/
theorem card : Rows.CodecCutsCardSaid :=
  Claim7.holds_tied_plain_at .later [] _ _ _ _ said (fun _ h => by cases h) (by kernel_rfl) (fun _ h => by cases h) codecCuts_row_tie rfl ⟨rfl, rfl⟩ (by kernel_rfl) rfl plain (by kernel_rfl)
end Go.Proofs.YtpdikmcaihlbaaaDoor.lawCodecCuts
namespace Go.Proofs.YtpdikmcaihlbaaaDoor
open Go.RowKit

theorem ext_set {w0 w : World} {b i : Nat} {v : Value} (h : Ext w0 w) (hb : w0.heap.size ≤ b) : Ext w0 (w.setCell ⟨b, i, none⟩ v) :=
  ⟨h.os, h.tape, h.output, Nat.le_trans h.size (by simp [World.setCell]), fun j hj => (Below.heap_setCell w ⟨b, i, none⟩ v j (fun e => by simp only at e; omega)).trans (h.block j hj)⟩
theorem ext_set3 {w0 w : World} {b : Nat} (h : Ext w0 w) (hb : w0.heap.size ≤ b) (u v x : Value) : Ext w0 (((w.setCell ⟨b, 0, none⟩ u).setCell ⟨b, 1, none⟩ v).setCell ⟨b, 2, none⟩ x) := ext_set (ext_set (ext_set h hb) hb) hb
theorem rw_far3 {w : World} {g b : Nat} {t : TypeId} {vs : List Value} (h : Rw w g t vs) (hb : g ≠ b) (u v x : Value) : Rw (((w.setCell ⟨b, 0, none⟩ u).setCell ⟨b, 1, none⟩ v).setCell ⟨b, 2, none⟩ x) g t vs := ((h.far (p := ⟨b, 0, none⟩) hb u).far (p := ⟨b, 1, none⟩) hb v).far (p := ⟨b, 2, none⟩) hb x
theorem size_set3 {w : World} {b : Nat} (u v x : Value) : (((w.setCell ⟨b, 0, none⟩ u).setCell ⟨b, 1, none⟩ v).setCell ⟨b, 2, none⟩ x).heap.size = w.heap.size := by simp [World.setCell]
/-- What the reading of a key leaves: what was there ahead of it stays, and the value and the place, if there are any. -/
def ReadK (w0 : World) (B b4 b2 b7 g : Nat) (A : Option Addr) (n c : Nat) (r : Option (Vl × Nat)) (w' : World) : Prop := Ext w0 w' ∧ B ≤ w'.heap.size ∧ Rw w' b4 26 [.int .u8 0, .int .i64 0, .string ⟨#[]⟩] ∧ Rw w' b2 60 [.pointer (some ⟨g, 0, none⟩)] ∧ match r with
  | none => True
  | some q => Rw w' b7 26 [.int .u8 q.1.1, .int .i64 q.1.2.1, .string q.1.2.2] ∧ RdrC w' g A n c q.2
set_option maxRecDepth 20000 in
set_option maxHeartbeats 1600000 in
theorem readKey1 (g b2 b0 e4 b4 : Nat) (A : Option Addr) (l : List UInt8) (n c a : Nat) (w0 w : World) (hr0 : Rd w0 A l) (hx : Ext w0 w) (hg : w0.heap.size ≤ g) (hgw : g < w.heap.size) (hb0 : w0.heap.size ≤ b0) (hb0g : b0 ≠ g) (he : e4 < w.heap.size) (heg : e4 ≠ g) (heb : e4 ≠ b0) (hn : l.length = n) (hnc : n ≤ c) (hl : n ≤ 140737488351232) (han : a ≤ n) (hR : RdrC w g A n c a) (hT : Tabs w0)
    (h2 : Rw w b2 60 [.pointer (some ⟨g, 0, none⟩)]) (h0 : Rw w b0 26 [.int .u8 0, .int .i64 0, .string ⟨#[]⟩]) (h4 : Rw w e4 28 [.int .i64 0]) (h5 : Rw w b4 26 [.int .u8 0, .int .i64 0, .string ⟨#[]⟩]) (h5n : b4 ≠ g ∧ b4 ≠ b0 ∧ b2 ≠ g ∧ b2 ≠ b0) :
    Calls Tryd.prog 37 #[.pointer (some ⟨b2, 0, none⟩), .pointer (some ⟨b0, 0, none⟩)] w (fun e w' => (e = if (valAt keyAt l a).isSome = true then .returned (.tuple #[]) else .panicked [{ v := gaveUp, recovered := false }]) ∧ Rw w' e4 28 [.int .i64 0] ∧ ReadK w0 w.heap.size b4 b2 b0 g A n c (valAt keyAt l a) w') := by
  have hmf : ∀ (fn : Fn) (first cap : Array Value) (w : World), (Instr.makeFunc fn first cap).run Tryd.prog w = .ok (.func fn first cap) w := fun _ _ _ _ => rfl
  have KR := hide (value_keys g A l n c a w0 w hr0 hx hg hgw hn hnc hl han hR hT)
  obtain ⟨r, HR⟩ : ∃ r, Hid (valAt keyAt l a = r) := ⟨_, hide rfl⟩
  rw [HR.out] at KR ⊢
  have c2 := h2.cell (i := 0) rfl
  have H0 := hide h0
  have H4 := hide h4
  have H5 := hide h5
  have H5N := hide h5n
  have H2 := hide h2
  have HS := hide (show Ext w0 w ∧ w0.heap.size ≤ g ∧ w0.heap.size ≤ b0 ∧ b0 ≠ g ∧ e4 ≠ g ∧ e4 ≠ b0 ∧ e4 < w.heap.size ∧ b0 < w.heap.size from ⟨hx, hg, hb0, hb0g, heg, heb, he, h0.lt⟩)
  clear h0 h4 hx hg hb0 hb0g heg heb he hR hr0 hT h2 h5 h5n
  cases r with
  | none =>
    have KR2 := hide (show Calls Tryd.prog 38 #[.pointer (some ⟨g, 0, none⟩), .func (.func 39) #[.pointer (some ⟨g, 0, none⟩)] #[]] w (OneC w g A n c none) from KR.out)
    clear KR
    go_enter Tryd.func37, Tryd.ntmps37
    go_wp2_with (go_at_call 38; (with_reducible refine KR2.out.mono ?_); rintro e w2 ⟨hg2, rfl⟩)
    refine ⟨rfl, rfl, ?_, ext_of_grown HS.out.1 hg2 HS.out.2.1, hg2.size, (hg2.block b4 H5.out.lt (fun e => by injection e with e; exact H5N.out.1 e)).trans H5.out, (hg2.block b2 H2.out.lt (fun e => by injection e with e; exact H5N.out.2.2.1 e)).trans H2.out, trivial⟩
    exact (hg2.block e4 H4.out.lt (fun e => by injection e with e; exact HS.out.2.2.2.2.1 e)).trans H4.out
  | some q =>
    obtain ⟨x, k⟩ := q
    have KR2 := hide (show Calls Tryd.prog 38 #[.pointer (some ⟨g, 0, none⟩), .func (.func 39) #[.pointer (some ⟨g, 0, none⟩)] #[]] w (OneC w g A n c (some (.agg #[.int .u8 x.1, .int .i64 x.2.1, .string x.2.2], k))) from KR.out)
    clear KR
    go_enter Tryd.func37, Tryd.ntmps37
    go_wp2_with (go_at_call 38; (with_reducible refine KR2.out.mono ?_); rintro e w2 ⟨hg2, rfl, hr2⟩; have R2 := hide (show Rw w2 g 62 [.slice A n c, .int .i64 ((k : Nat) : Int)] from hr2); have B2 := hide (show Rw w2 b0 26 [.int .u8 0, .int .i64 0, .string ⟨#[]⟩] from (hg2.block b0 H0.out.lt (fun e => HS.out.2.2.2.1 (by injection e))).trans H0.out); have d0 := B2.out.cell (i := 0) rfl; have d1 := B2.out.cell (i := 1) rfl; have d2 := B2.out.cell (i := 2) rfl; have f0 := B2.out.frozen 0; have f1 := B2.out.frozen 1; have f2 := B2.out.frozen 2)
    go_end0
    have h4 := (hg2.block e4 H4.out.lt (fun e => by injection e with e; exact HS.out.2.2.2.2.1 e)).trans H4.out
    have hx2 := ext_of_grown HS.out.1 hg2 HS.out.2.1
    refine ⟨rfl, rw_far3 h4 HS.out.2.2.2.2.2.1 _ _ _, ext_set3 hx2 HS.out.2.2.1 _ _ _, by rw [size_set3]; exact hg2.size, rw_far3 ((hg2.block b4 H5.out.lt (fun e => by injection e with e; exact H5N.out.1 e)).trans H5.out) H5N.out.2.1 _ _ _, rw_far3 ((hg2.block b2 H2.out.lt (fun e => by injection e with e; exact H5N.out.2.2.1 e)).trans H2.out) H5N.out.2.2.2 _ _ _, ((B2.out.set 0 _).set 1 _).set 2 _, rw_far3 R2.out (fun e => HS.out.2.2.2.1 e.symm) _ _ _⟩
/-- What ReadKey tells: the value, the place behind it, the error's number. -/
def rdKey (l : List UInt8) (at_ : Int) : Vl × Int × Int :=
  if at_ < 0 ∨ (l.length : Int) < at_ then ((0, 0, noS), 0, 1) else match valAt keyAt l at_.toNat with
    | some r => (r.1, (r.2 : Int), 0)
    | none => ((0, 0, noS), 0, 3)
def RkC (w : World) (x : Vl × Int × Int) (e : Ending) (w' : World) : Prop := Ext w w' ∧ e = .returned (.tuple #[.agg #[.int .u8 x.1.1, .int .i64 x.1.2.1, .string x.1.2.2], .int .i64 x.2.1, .int .i64 x.2.2])
set_option maxRecDepth 20000 in
set_option maxHeartbeats 1600000 in
theorem readKey_any (A : Option Addr) (l : List UInt8) (n c : Nat) (at_ : Int) (w : World) (hr : Rd w A l) (hn : l.length = n) (hnc : n ≤ c) (hl : n ≤ 140737488351232) (hlo : -9223372036854775808 ≤ at_) (hhi : at_ < 9223372036854775808) (hT : Tabs w) :
    Calls Tryd.prog 20 #[.slice A n c, .int .i64 at_] w (RkC w (rdKey l at_)) := by
  have hmf : ∀ (fn : Fn) (first cap : Array Value) (w : World), (Instr.makeFunc fn first cap).run Tryd.prog w = .ok (.func fn first cap) w := fun _ _ _ _ => rfl
  by_cases hlt : at_ < 0
  · have HR : Hid (rdKey l at_ = ((0, 0, noS), 0, 1)) := hide (by unfold rdKey; rw [if_pos (.inl hlt)])
    rw [HR.out]
    clear hr hT hhi hlo hl
    go_enter Tryd.func20, Tryd.ntmps20
    have y0 := (Rw.new w 26 [.int .u8 0, .int .i64 0, .string ⟨#[]⟩]).cell (i := 0) rfl
    have y1 := (Rw.new w 26 [.int .u8 0, .int .i64 0, .string ⟨#[]⟩]).cell (i := 1) rfl
    have y2 := (Rw.new w 26 [.int .u8 0, .int .i64 0, .string ⟨#[]⟩]).cell (i := 2) rfl
    go_wp2
    refine bodyPost_ret (v := .tuple #[.agg #[.int .u8 0, .int .i64 0, .string ⟨#[]⟩], .int .i64 0, .int .i64 1]) (by simp [results, Tryd.results20, go_sem, y0, y1, y2]; try rfl) rfl ⟨Ext.alloc _ _, rfl⟩
  · by_cases hgt : (n : Int) < at_
    · have HR : Hid (rdKey l at_ = ((0, 0, noS), 0, 1)) := hide (by unfold rdKey; rw [if_pos (.inr (by omega))])
      rw [HR.out]
      clear hr hT hhi hlo hl
      have y0 := (Rw.new w 26 [.int .u8 0, .int .i64 0, .string ⟨#[]⟩]).cell (i := 0) rfl
      have y1 := (Rw.new w 26 [.int .u8 0, .int .i64 0, .string ⟨#[]⟩]).cell (i := 1) rfl
      have y2 := (Rw.new w 26 [.int .u8 0, .int .i64 0, .string ⟨#[]⟩]).cell (i := 2) rfl
      go_enter Tryd.func20, Tryd.ntmps20
      go_wp2
      refine bodyPost_ret (v := .tuple #[.agg #[.int .u8 0, .int .i64 0, .string ⟨#[]⟩], .int .i64 0, .int .i64 1]) (by simp [results, Tryd.results20, go_sem, y0, y1, y2]; try rfl) rfl ⟨Ext.alloc _ _, rfl⟩
    · obtain ⟨a, rfl⟩ : ∃ a : Nat, at_ = (a : Int) := ⟨at_.toNat, by omega⟩
      have han : a ≤ n := by omega
      obtain ⟨r, HR⟩ : ∃ r, Hid (valAt keyAt l a = r) := ⟨_, hide rfl⟩
      obtain ⟨z, HZ⟩ : ∃ z, Hid (rdKey l (a : Int) = z) := ⟨_, hide rfl⟩
      rw [HZ.out]
      go_enter Tryd.func20, Tryd.ntmps20
      go_upto_region 5 with fail
      obtain ⟨W3, hX3, h5, h0, hg, h2, hsz, hgg⟩ : ∃ W3, Ext w W3 ∧ Rw W3 w.heap.size 26 [.int .u8 0, .int .i64 0, .string ⟨#[]⟩] ∧ Rw W3 (w.heap.size + 1) 26 [.int .u8 0, .int .i64 0, .string ⟨#[]⟩] ∧ RdrC W3 (w.heap.size + 1 + 1) A n c a ∧ Rw W3 (w.heap.size + 1 + 1 + 1) 60 [.pointer (some ⟨w.heap.size + 1 + 1, 0, none⟩)] ∧ W3.heap.size = w.heap.size + 4 ∧ (((w.alloc (.cells #[.int .u8 0, .int .i64 0, .string ⟨#[]⟩] 26)).alloc (.cells #[.int .u8 0, .int .i64 0, .string ⟨#[]⟩] 26)).alloc (.cells #[.slice A n c, .int .i64 (a : Int)] 62)).alloc (.cells #[.pointer (some ⟨w.heap.size + 1 + 1, 0, none⟩)] 60) = W3 := by
        have e1 : (w.alloc (.cells #[.int .u8 0, .int .i64 0, .string ⟨#[]⟩] 26)).heap.size = w.heap.size + 1 := by simp
        have e2 : ((w.alloc (.cells #[.int .u8 0, .int .i64 0, .string ⟨#[]⟩] 26)).alloc (.cells #[.int .u8 0, .int .i64 0, .string ⟨#[]⟩] 26)).heap.size = w.heap.size + 1 + 1 := by simp
        have e3 : (((w.alloc (.cells #[.int .u8 0, .int .i64 0, .string ⟨#[]⟩] 26)).alloc (.cells #[.int .u8 0, .int .i64 0, .string ⟨#[]⟩] 26)).alloc (.cells #[.slice A n c, .int .i64 (a : Int)] 62)).heap.size = w.heap.size + 1 + 1 + 1 := by simp
        refine ⟨_, (((Ext.alloc _ _).trans (Ext.alloc _ _)).trans (Ext.alloc _ _)).trans (Ext.alloc _ _), (((Rw.new w 26 [.int .u8 0, .int .i64 0, .string ⟨#[]⟩]).alloc _).alloc _).alloc _, ?_, ?_, ?_, by simp, rfl⟩
        · have h := Rw.new (w.alloc (.cells #[.int .u8 0, .int .i64 0, .string ⟨#[]⟩] 26)) 26 [.int .u8 0, .int .i64 0, .string ⟨#[]⟩]
          rw [e1] at h
          exact (h.alloc _).alloc _
        · have h := Rw.new ((w.alloc (.cells #[.int .u8 0, .int .i64 0, .string ⟨#[]⟩] 26)).alloc (.cells #[.int .u8 0, .int .i64 0, .string ⟨#[]⟩] 26)) 62 [.slice A n c, .int .i64 (a : Int)]
          rw [e2] at h
          exact h.alloc _
        · have h := Rw.new (((w.alloc (.cells #[.int .u8 0, .int .i64 0, .string ⟨#[]⟩] 26)).alloc (.cells #[.int .u8 0, .int .i64 0, .string ⟨#[]⟩] 26)).alloc (.cells #[.slice A n c, .int .i64 (a : Int)] 62)) 60 [.pointer (some ⟨w.heap.size + 1 + 1, 0, none⟩)]
          rw [e3] at h
          exact h
      rw [hgg]
      clear hgg
      have hX4 : Ext W3 (W3.alloc (.cells #[.int .i64 0] 28)) := Ext.alloc _ _
      have hz4 : (W3.alloc (.cells #[.int .i64 0] 28)).heap.size = w.heap.size + 5 := by simp [hsz]
      have K1 := readKey1 (w.heap.size + 1 + 1) (w.heap.size + 1 + 1 + 1) (w.heap.size + 1) W3.heap.size w.heap.size A l n c a w (W3.alloc (.cells #[.int .i64 0] 28)) hr (hX3.trans hX4) (by omega) (by omega) (by omega) (by omega) (by omega) (by omega) (by omega) hn hnc hl han (Rw.ext hg hX4) hT (h2.ext hX4) (h0.ext hX4) (Rw.new _ _ _) (h5.ext hX4) ⟨by omega, by omega, by omega, by omega⟩
      have KC := hide (caught_key #[.pointer (some ⟨w.heap.size + 1 + 1 + 1, 0, none⟩), .pointer (some ⟨w.heap.size + 1, 0, none⟩)] (valAt keyAt l a).isSome (ReadK w (w.heap.size + 5) w.heap.size (w.heap.size + 1 + 1 + 1) (w.heap.size + 1) (w.heap.size + 1 + 1) A n c (valAt keyAt l a)) W3 (by rw [hz4] at K1; exact K1))
      rw [HR.out] at KC
      have HSZ := hide hsz
      have HAL := hide (show (a : Int) ≤ (l.length : Int) from by omega)
      clear hr hT hX3 h0 hg h2 hsz hX4 hz4 K1 h5
      have KE : Hid (Calls Tryd.prog 32 #[.func (.func 37) #[] #[.pointer (some ⟨w.heap.size + 1 + 1 + 1, 0, none⟩), .pointer (some ⟨w.heap.size + 1, 0, none⟩)]] W3 (fun e w' => e = .returned (.int .i64 (if r.isSome = true then 0 else 3)) ∧ ReadK w (w.heap.size + 5) w.heap.size (w.heap.size + 1 + 1 + 1) (w.heap.size + 1) (w.heap.size + 1 + 1) A n c r w')) := hide (KC.out.mono fun e w' ⟨he, w1, hR1, hg1⟩ => ⟨he, by
        obtain ⟨x1, x2, x3, x4, x5⟩ := hR1
        have kp : ∀ {b : Nat} {t : TypeId} {vs : List Value}, Rw w1 b t vs → b ≠ W3.heap.size → Rw w' b t vs := fun {b t vs} hb hne => (hg1.block b hb.lt (fun e => by injection e with e; exact hne e)).trans hb
        refine ⟨⟨hg1.os.trans x1.os, hg1.tape.trans x1.tape, hg1.output.trans x1.output, Nat.le_trans x1.size hg1.size, fun j hj => (hg1.block j (Nat.lt_of_lt_of_le hj x1.size) (fun e => by injection e with e; have := HSZ.out; omega)).trans (x1.block j hj)⟩, Nat.le_trans x2 hg1.size, kp x3 (by have := HSZ.out; omega), kp x4 (by have := HSZ.out; omega), ?_⟩
        cases r with
        | none => trivial
        | some q => exact ⟨kp x5.1 (by have := HSZ.out; omega), kp x5.2 (by have := HSZ.out; omega)⟩⟩)
      clear KC
      cases r with
      | none =>
        obtain rfl : z = ((0, 0, noS), 0, 3) := by
          rw [← HZ.out]
          unfold rdKey
          have := HAL.out
          rw [if_neg (by omega), Int.toNat_natCast, HR.out]
        have KE2 := hide (show Calls Tryd.prog 32 #[.func (.func 37) #[] #[.pointer (some ⟨w.heap.size + 1 + 1 + 1, 0, none⟩), .pointer (some ⟨w.heap.size + 1, 0, none⟩)]] W3 (fun e w' => e = .returned (.int .i64 3) ∧ ReadK w (w.heap.size + 5) w.heap.size (w.heap.size + 1 + 1 + 1) (w.heap.size + 1) (w.heap.size + 1 + 1) A n c none w') from KE.out)
        clear KE
        go_wp2_with (go_at_call 32; (with_reducible refine KE2.out.mono ?_); rintro e w5 ⟨rfl, x1, x2, x3, x4, -⟩; have d0 := x3.cell (i := 0) rfl; have d1 := x3.cell (i := 1) rfl; have d2 := x3.cell (i := 2) rfl; have f0 := x3.frozen 0; have f1 := x3.frozen 1; have f2 := x3.frozen 2)
        have ZS := ((x3.set 0 (.int .u8 0)).set 1 (.int .i64 0)).set 2 (.string ⟨#[]⟩)
        have XS := ext_set3 x1 (Nat.le_refl _) (.int .u8 0) (.int .i64 0) (.string ⟨#[]⟩)
        have y0 := ZS.cell (i := 0) rfl
        have y1 := ZS.cell (i := 1) rfl
        have y2 := ZS.cell (i := 2) rfl
        refine bodyPost_ret (v := .tuple #[.agg #[.int .u8 0, .int .i64 0, .string ⟨#[]⟩], .int .i64 0, .int .i64 3]) (by simp [results, Tryd.results20, go_sem, y0, y1, y2]; try rfl) rfl ⟨XS, rfl⟩
      | some q =>
        obtain ⟨x, k⟩ := q
        obtain rfl : z = (x, (k : Int), 0) := by
          rw [← HZ.out]
          unfold rdKey
          have := HAL.out
          rw [if_neg (by omega), Int.toNat_natCast, HR.out]
        have KE2 := hide (show Calls Tryd.prog 32 #[.func (.func 37) #[] #[.pointer (some ⟨w.heap.size + 1 + 1 + 1, 0, none⟩), .pointer (some ⟨w.heap.size + 1, 0, none⟩)]] W3 (fun e w' => e = .returned (.int .i64 0) ∧ ReadK w (w.heap.size + 5) w.heap.size (w.heap.size + 1 + 1 + 1) (w.heap.size + 1) (w.heap.size + 1 + 1) A n c (some (x, k)) w') from KE.out)
        clear KE
        go_upto_region 8 with (go_at_call 32; (with_reducible refine KE2.out.mono ?_); rintro e w5 ⟨rfl, x1, x2, x3, x4, x5, x6⟩; have X1 := hide x1; have X3 := hide x3; have d0 := x3.cell (i := 0) rfl; have d1 := x3.cell (i := 1) rfl; have d2 := x3.cell (i := 2) rfl; have f0 := x3.frozen 0; have f1 := x3.frozen 1; have f2 := x3.frozen 2; have p0 := x4.cell (i := 0) rfl; have v0 := x5.cell (i := 0) rfl; have v1 := x5.cell (i := 1) rfl; have v2 := x5.cell (i := 2) rfl; have r1 := Rw.cell x6 (i := 1) rfl; clear x1 x2 x3 x4 x5 x6)
        go_region
        go_wp2
        have ZS := (((X3.out.set 0 (.int .u8 x.1)).set 1 (.int .i64 x.2.1)).set 2 (.string x.2.2)).ext (Ext.drew _)
        have XS := (ext_set3 X1.out (Nat.le_refl _) (.int .u8 x.1) (.int .i64 x.2.1) (.string x.2.2)).trans (Ext.drew _)
        have y0 := ZS.cell (i := 0) rfl
        have y1 := ZS.cell (i := 1) rfl
        have y2 := ZS.cell (i := 2) rfl
        refine bodyPost_ret (v := .tuple #[.agg #[.int .u8 x.1, .int .i64 x.2.1, .string x.2.2], .int .i64 (k : Int), .int .i64 0]) (by simp [results, Tryd.results20, go_sem, y0, y1, y2]; try rfl) rfl ⟨XS, rfl⟩
end Go.Proofs.YtpdikmcaihlbaaaDoor
