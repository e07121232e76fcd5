/-
  DigestKeeps: the walk.
-/
import Derived.Test.YtkkdljjdniacnaaDoorShaX
namespace Go.Proofs.YtkkdljjdniacnaaDoor
open Go.RowKit

theorem run_make_spare (n c : Nat) (hn : n ≤ c) (hc : c ≤ 281474976710656) (W : World) : (Instr.makeSlice 22 (.int .i64 (n : Int)) (.int .i64 (c : Int))).run Tryd.prog W =
    .ok (.slice (some ⟨W.heap.size, 0, none⟩) n c) (W.alloc (.cells (madeCells #[.int .u8 0] c) 5)) := by
  obtain ⟨i0, hi, hz0, hz1, hz2⟩ := info_parts info_u8
  have h := run_make (P := Tryd.prog) W 22 5 i0 (.int .u8 0) Tryd.underlying22 hi hz0 .i64 .i64 (n : Int) (c : Int) (by omega) (by omega) (by rw [hz2]; omega) (by omega)
  simpa [hz1, Value.cells] using h
theorem Blk.front {w : World} {g : Nat} {l m : List UInt8} (h : Blk w g (l ++ m)) {n c : Nat} (hn : n = l.length) (hc : n ≤ c) : Bytes l w (.slice (some ⟨g, 0, none⟩) n c) := by
  subst hn
  refine ⟨_, _, rfl, hc, ?_⟩
  have := (Blk.rd h).take l.length
  rwa [List.take_left] at this
theorem Blk.frontRd {w : World} {g : Nat} {l m : List UInt8} (h : Blk w g (l ++ m)) : Rd w (some ⟨g, 0, none⟩) l := by
  have := (Blk.rd h).take l.length
  rwa [List.take_left] at this
theorem zero_at (l : List UInt8) (k : Nat) (h1 : l.length ≤ k) (h2 : k < l.length + 40) : (l ++ List.replicate 40 0)[k]? = some 0 := by
  rw [List.getElem?_append_right h1, List.getElem?_replicate, if_pos (by omega)]

set_option maxRecDepth 20000 in
set_option maxHeartbeats 3200000 in
theorem keeps_walk (A B : Option Addr) (c d : Nat) (key p : List UInt8) (w : World) (hA : Rd w A key) (hB2 : Rd w B p) (hac : key.length ≤ c) (hbd : p.length ≤ d) (hal : key.length ≤ 140737488355328) (hbl : p.length ≤ 140737488355328) (ht : Tab w) :
    Calls Tryd.prog 9 #[.slice A key.length c, .slice B p.length d] w (Ret w (Is (.bool true))) := by
  have KA := hide fun W (h : Ext w W) => awake_any W (ht.ext h)
  by_cases hbig : 3000 < key.length + p.length
  · have hbi : (3000 : Int) < (key.length : Int) + (p.length : Int) := by omega
    clear hbig
    go_enter Tryd.func9, Tryd.ntmps9
    go_wp2_with (first
      | (go_at_call 10; (with_reducible refine (KA.out _ hx1).mono ?_); rintro e w2 ⟨v2, rfl, hw2, rfl⟩; have hx2 := hx1.trans hw2)
      | (go_at_call 10; (with_reducible refine (KA.out _ (Ext.refl w)).mono ?_); rintro e w1 ⟨v1, rfl, hx1, rfl⟩))
    go_ret
    exact Ret.mk hx2 rfl
  · have hbi : (key.length : Int) + (p.length : Int) ≤ 3000 := by omega
    have HAC := hide hac
    have HBD := hide hbd
    obtain ⟨n, HN⟩ : ∃ n, Hid (key.length = n) := ⟨_, rfl⟩
    obtain ⟨m, HM⟩ : ∃ m, Hid (p.length = m) := ⟨_, rfl⟩
    rw [HN.out, HM.out] at hbi
    rw [HN.out] at HAC ⊢
    rw [HM.out] at HBD ⊢
    have hmk1 := fun W => run_make_spare n (n + 40) (by omega) (by omega) W
    rw [show ((n + 40 : Nat) : Int) = (n : Int) + 40 from by omega] at hmk1
    have hmk2 := fun W => run_make_spare m (m + 40) (by omega) (by omega) W
    rw [show ((m + 40 : Nat) : Int) = (m : Int) + 40 from by omega] at hmk2
    have OV : Hid (∀ (l : List UInt8) (k : Nat), l.length = k → over (List.replicate (k + 40) 0) 0 (l.take k) = l ++ List.replicate 40 0) := by
      intro l k hk
      have e : l.take k = l := List.take_of_length_le (by omega)
      rw [e]
      unfold over
      rw [List.take_zero, List.nil_append, List.drop_replicate, hk, Nat.zero_add, Nat.add_sub_cancel_left]
    have KS := hide fun W (h : Ext w W) (C : Option Addr) (e : Nat) (hC : Rd W C p) (he : m ≤ e) => (show Calls Tryd.prog 11 #[.slice C m e] W (Ret W (Is (.agg (bs (sha p)).toArray))) from HM.out ▸ sum_any C e p W hC (by rw [HM.out]; exact he) hbl (ht.ext h))
    have KT := hide fun W (h : Ext w W) (C D : Option Addr) (e f : Nat) (hC : Rd W C key) (hD : Rd W D p) (he : n ≤ e) (hf : m ≤ f) => (show Calls Tryd.prog 14 #[.slice C n e, .slice D m f] W (Ret W (Is (.agg (bs (tagK key p)).toArray))) from HM.out ▸ HN.out ▸ tagOf_any C D e f key p W hC hD (by rw [HN.out]; exact he) (by rw [HM.out]; exact hf) hal hbl (ht.ext h))
    have KR := hide fun W (h : Ext w W) (C D : Option Addr) (e f : Nat) (hC : Rd W C key) (hD : Rd W D p) (he : n ≤ e) (hf : m ≤ f) => (show Calls Tryd.prog 16 #[.slice C n e, .slice D m f, .int .i64 2] W (Ret W (Is (.tuple #[.agg (bs (stretchS key p 1).2).toArray, .int .i64 0]))) from HM.out ▸ HN.out ▸ stretch_any C D e f key p 1 W hC hD (by rw [HN.out]; exact he) (by rw [HM.out]; exact hf) (by rw [HN.out]; omega) (by rw [HM.out]; omega) (by decide) (ht.ext h))
    have KH := hide fun W (h : Ext w W) (C : Option Addr) (e : Nat) (hC : Rd W C p) => (show Calls Tryd.prog 18 #[.slice C m e] W (Ret W (Is (.string ⟨(hexL p).toArray⟩))) from HM.out ▸ hex_any C e p W hC (by rw [HM.out]; omega))
    clear hbig hac hbd hal hbl
    generalize sha p = o1 at *
    generalize tagK key p = o2 at *
    generalize (stretchS key p 1).2 = o3 at *
    generalize hexL p = o4 at *
    go_enter Tryd.func9, Tryd.ntmps9
    go_wp2_with (first
      | (go_at_call 10; refine (KA.out _ (Ext.refl w)).mono ?_; rintro e w1 ⟨v1, rfl, hx1, rfl⟩)
      | (refine wpList_copy rfl (.tmp 26) (.tmp 27) rfl w1.heap.size 0 n (n + 40) A n c rfl rfl (List.replicate (n + 40) 0) key HN.out.symm (Blk.made w1 (n + 40)) (hA.ext (hx1.trans (Ext.alloc _ _))) (by rw [List.length_replicate]; omega) w1.heap.size (Nat.le_refl _) ?_; intro w2 hg2 hb2; rw [OV.out _ _ HN.out] at hg2; have hx2 : Ext w w2 := Below.trans hx1 (Below.mono (Below.trans (Ext.alloc w1 _) hb2) hx1.size); have HG2 := hide hg2; clear hg2)
      | (refine wpList_copy rfl (.tmp 35) (.tmp 36) rfl w2.heap.size 0 m (m + 40) B m d rfl rfl (List.replicate (m + 40) 0) p HM.out.symm (Blk.made w2 (m + 40)) (hB2.ext (hx2.trans (Ext.alloc _ _))) (by rw [List.length_replicate]; omega) w2.heap.size (Nat.le_refl _) ?_; intro w3 hg3 hb3; rw [OV.out _ _ HM.out] at hg3; have hx23 : Ext w2 w3 := Below.trans (Ext.alloc w2 _) hb3; have hx3 := hx2.trans hx23; have HG3 := hide hg3; have HA3 := hide (Blk.ext HG2.out hx23); clear hg3)
      | (go_at_call 11; refine (KS.out _ hx3 _ _ (Blk.frontRd HG3.out) (by omega)).mono ?_; rintro e w4 ⟨v4, rfl, hw4, rfl⟩; have hx4 := hx3.trans hw4)
      | (go_at_call 14; refine (KT.out _ hx4 _ _ _ _ (Blk.frontRd (Blk.ext HA3.out hw4)) (Blk.frontRd (Blk.ext HG3.out hw4)) (by omega) (by omega)).mono ?_; rintro e w5 ⟨v5, rfl, hw5, rfl⟩; have hx5 := hx4.trans hw5; have hw35 := hw4.trans hw5)
      | (go_at_call 16; refine (KR.out _ hx5 _ _ _ _ (Blk.frontRd (Blk.ext HA3.out hw35)) (Blk.frontRd (Blk.ext HG3.out hw35)) (by omega) (by omega)).mono ?_; rintro e w6 ⟨v6, rfl, hw6, rfl⟩; have hx6 := hx5.trans hw6; have hw36 := hw35.trans hw6)
      | (go_at_call 18; refine (KH.out _ hx6 _ _ (Blk.frontRd (Blk.ext HG3.out hw36))).mono ?_; rintro e w7 ⟨v7, rfl, hw7, rfl⟩; have hx7 := hx6.trans hw7; have HA7 := hide (Blk.ext HA3.out (hw36.trans hw7)); have HB7 := hide (Blk.ext HG3.out (hw36.trans hw7)); have hl7 := hB2.ext hx7; have hk7 := hA.ext hx7)
      | ((with_reducible show wpList _ _ _ (⟨some 49, .convert _ _ _, _, _, _, _⟩ :: _) _ _); refine wpList_str rfl (.tmp 48) rfl key (Blk.front HA7.out HN.out.symm (by omega)) ?_)
      | ((with_reducible show wpList _ _ _ (⟨some 51, .convert _ _ _, _, _, _, _⟩ :: _) _ _); refine wpList_str rfl (.tmp 50) rfl key ⟨A, c, by rw [HN.out]; rfl, by rw [HN.out]; exact HAC.out, hk7⟩ ?_)
      | ((with_reducible show wpList _ _ _ (⟨some 55, .convert _ _ _, _, _, _, _⟩ :: _) _ _); refine wpList_str rfl (.tmp 54) rfl p (Blk.front HB7.out HM.out.symm (by omega)) ?_)
      | ((with_reducible show wpList _ _ _ (⟨some 57, .convert _ _ _, _, _, _, _⟩ :: _) _ _); refine wpList_str rfl (.tmp 56) rfl p ⟨B, d, by rw [HM.out]; rfl, by rw [HM.out]; exact HBD.out, hl7⟩ ?_))
    clear KS KT KR KH OV hmk1 hmk2 HG2 HG3 HA3 hx2 hx3 hx4 hx5 hx6 hw35 hw36 hw4 hw5 hw6 hw7 hx23 hb2 hb3 hx1 hl7 hk7
    generalize w1.heap.size = g1 at *
    generalize w2.heap.size = g2 at *
    go_loop [7] (fun i => ∃ k : Nat, n ≤ k ∧ k ≤ n + 40 ∧ i = .int .i64 k) (fun i => n + 40 - (intOf i).toNat)
    case atStart => exact ⟨n, Nat.le_refl _, by omega, rfl⟩
    case round =>
      obtain ⟨k, hk0, hk, rfl⟩ := hrel
      by_cases hlt : k < n + 40
      · have hki : (k : Int) < (n : Int) + 40 := by omega
        have hki0 : (0 : Int) ≤ (k : Int) := by omega
        have hcx := Blk.cell HA7.out (i := k) (x := 0) (zero_at key k (by rw [HN.out]; exact hk0) (by rw [HN.out]; exact hlt))
        go_wp2
        exact ⟨⟨k + 1, by omega, by omega, by go_num⟩, by simp [intOf]; omega⟩
      · have hki : (n : Int) + 40 ≤ (k : Int) := by omega
        clear hlt
        go_wp2
        go_loop [8] (fun i => ∃ j : Nat, m ≤ j ∧ j ≤ m + 40 ∧ i = .int .i64 j) (fun i => m + 40 - (intOf i).toNat)
        case atStart => exact ⟨m, Nat.le_refl _, by omega, rfl⟩
        case round =>
          obtain ⟨j, hj0, hj, rfl⟩ := hrel
          by_cases hlt2 : j < m + 40
          · have hji : (j : Int) < (m : Int) + 40 := by omega
            have hji0 : (0 : Int) ≤ (j : Int) := by omega
            have hcx := Blk.cell HB7.out (i := j) (x := 0) (zero_at p j (by rw [HM.out]; exact hj0) (by rw [HM.out]; exact hlt2))
            go_wp2
            exact ⟨⟨j + 1, by omega, by omega, by go_num⟩, by simp [intOf]; omega⟩
          · have hji : (m : Int) + 40 ≤ (j : Int) := by omega
            clear hlt2
            go_wp2
            go_ret
            exact Ret.mk hx7 rfl
end Go.Proofs.YtkkdljjdniacnaaDoor
