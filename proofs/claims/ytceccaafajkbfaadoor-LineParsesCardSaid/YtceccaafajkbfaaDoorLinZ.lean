/-
  Lines: the document's own request of a line; when two requests are alike.
-/
import Derived.Test.YtceccaafajkbfaaDoorLinY
namespace Go.Proofs.YtceccaafajkbfaaDoor
open Go.RowKit

theorem rwords_is {s : ByteArray} {W : List (List UInt8)} {p e : Nat} (h : wordsS s.data.toList = (W, p, e)) (w : World) (hT : Tabs w) (hz : s.size ≤ 140737488355328) :
    Calls Tryd.prog 11 #[.string s] w (Ret w fun w' v => ∃ v0, v = .tuple #[v0, .int .i64 (p : Int), .int .i64 (e : Int)] ∧ Txs W w' v0) :=
  (rwords_any s w hT hz).mono fun _ _ ⟨v, he, hx, hv⟩ => ⟨v, he, hx, wordsV_of h hv⟩
theorem vtab_pos : ∀ r ∈ vtab, r.1 ≠ 0 := by decide
theorem verbS_pos {x : List UInt8} {n : Int} {wd : List UInt8} {a : Int} (h : verbS x = some (n, wd, a)) : n ≠ 0 := vtab_pos _ (List.mem_of_find?_eq_some h)

set_option maxRecDepth 20000 in
set_option maxHeartbeats 4000000 in
theorem rparse_any (s : ByteArray) (w : World) (hs : s.size ≤ 140737488355328) (hT : Tabs w) :
    Calls Tryd.prog 13 #[.string s] w (Ret w (ParseV s.data.toList)) := by
  obtain ⟨W, p, e, HWS⟩ : ∃ W p e, Hid (wordsS s.data.toList = (W, p, e)) := ⟨_, _, _, hide rfl⟩
  have K := hide fun V (h : Ext w V) => rwords_is HWS.out V (hT.ext h) hs
  have hnw := wordsS_count HWS.out
  have HRW := hide (Rw.new w 31 [.int .u8 0, .slice none 0 0])
  have HXA := hide (Ext.alloc w (.cells #[.int .u8 0, .slice none 0 0] 31))
  by_cases he : e = 0
  · subst he
    cases W with
    | nil =>
      have HP : Hid (parseS s.data.toList = (0, [], 0, 4)) := by unfold parseS; rw [HWS.out]; exact hide rfl
      go_enter Tryd.func13, Tryd.ntmps13
      go_wp2_with (go_at_call 11; refine (K.out _ HXA.out).mono ?_; rintro e w2 ⟨v2, rfl, hx2, v20, rfl, A2, c2, rfl, hc2, hr2⟩; have hx3 := HXA.out.trans hx2; have r0 := HRW.out.ext hx2; have c0 := r0.cell (i := 0) rfl; have f0 := r0.frozen 0; have r1 := r0.set 0 (.int .u8 0); have c1 := r1.cell (i := 1) rfl; have f1 := r1.frozen 1; have r2 := r1.set 1 (.slice none 0 0); have d0 := r1.cell (i := 0) rfl; have d1 := r2.cell (i := 1) rfl; have hxb : Ext w ((w2.setCell ⟨w.heap.size, 0, none⟩ (.int .u8 0)).setCell ⟨w.heap.size, 1, none⟩ (.slice none 0 0)) := Below.set (Below.set hx3 (Nat.le_refl _) _) (Nat.le_refl _) _; clear r0 r1 r2)
      refine bodyPost_ret (by simp [results, Tryd.results13, go_sem, d0, d1]; try rfl) rfl ?_
      refine Ret.mk hxb ?_
      unfold ParseV ReqV
      rw [HP.out]
      exact ⟨_, rfl, _, rfl, Txs.nil _⟩
    | cons x t =>
      have KV := hide fun V => rverb_any ⟨x.toArray⟩ V
      rw [show (⟨x.toArray⟩ : ByteArray).toList = x from ByteArray.toList_mk x] at KV
      obtain ⟨n, HN⟩ : ∃ n, Hid ((x :: t).length = n) := ⟨_, rfl⟩
      rw [HN.out] at hnw
      have hn1 : 1 ≤ n := by rw [← HN.out]; simp
      have hn0 : ((n : Int) == 0) = false := i64_ne (by omega)
      have htn : Hid (t.length + 1 = n) := by rw [← HN.out]; exact hide rfl
      cases hvb : verbS x with
      | none =>
        have HP : Hid (parseS s.data.toList = (0, [], 0, 6)) := by unfold parseS; rw [HWS.out]; simp only; rw [hvb]; exact hide rfl
        rw [hvb] at KV
        simp only [verbR] at KV
        clear hvb
        go_enter Tryd.func13, Tryd.ntmps13
        go_wp2_with (first
          | (go_at_call 11; refine (K.out _ HXA.out).mono ?_; rintro e w2 ⟨v2, rfl, hx2, v20, rfl, A2, c2, rfl, hc2, hr2⟩; have hx3 := HXA.out.trans hx2; obtain ⟨b, off, rfl, hcx, htl⟩ := Txs.tail hr2 hc2; rw [HN.out] at hc2 ⊢)
          | (go_at_call 22; refine (KV.out _).mono ?_; rintro e w5 ⟨v5, rfl, hx5, rfl⟩; have hx6 := hx3.trans hx5; have r0 := (HRW.out.ext hx2).ext hx5; have c0 := r0.cell (i := 0) rfl; have f0 := r0.frozen 0; have r1 := r0.set 0 (.int .u8 0); have c1 := r1.cell (i := 1) rfl; have f1 := r1.frozen 1; have r2 := r1.set 1 (.slice none 0 0); have d0 := r1.cell (i := 0) rfl; have d1 := r2.cell (i := 1) rfl; have hxb : Ext w ((w5.setCell ⟨w.heap.size, 0, none⟩ (.int .u8 0)).setCell ⟨w.heap.size, 1, none⟩ (.slice none 0 0)) := Below.set (Below.set hx6 (Nat.le_refl _) _) (Nat.le_refl _) _; clear r0 r1 r2))
        refine bodyPost_ret (by simp [results, Tryd.results13, go_sem, d0, d1]; try rfl) rfl ?_
        refine Ret.mk hxb ?_
        unfold ParseV ReqV
        rw [HP.out]
        exact ⟨_, rfl, _, rfl, Txs.nil _⟩
      | some vb =>
        obtain ⟨nn, wd, aa⟩ := vb
        rw [hvb] at KV
        simp only [verbR] at KV
        have HB : Hid (0 ≤ aa ∧ aa ≤ 4) := verbS_args hvb
        have hb := HB.out
        have hnz : (nn == 0) = false := beq_eq_false_iff_ne.2 (verbS_pos hvb)
        have hw1 : ((n : Int) - 1 != aa) = !decide ((t.length : Int) = aa) := by
          have := htn.out
          rw [Bool.eq_iff_iff]
          simp
          omega
        by_cases hta : (t.length : Int) = aa
        · have HP : Hid (parseS s.data.toList = (nn, t, 0, 0)) := by unfold parseS; rw [HWS.out]; simp only; rw [hvb]; simp only; rw [if_pos hta]; exact hide rfl
          rw [decide_eq_true hta] at hw1
          clear hvb hta
          go_enter Tryd.func13, Tryd.ntmps13
          go_wp2_with (first
            | (go_at_call 11; refine (K.out _ HXA.out).mono ?_; rintro e w2 ⟨v2, rfl, hx2, v20, rfl, A2, c2, rfl, hc2, hr2⟩; have hx3 := HXA.out.trans hx2; obtain ⟨b, off, rfl, hcx, htl⟩ := Txs.tail hr2 hc2; rw [HN.out] at hc2 ⊢)
            | (go_at_call 22; refine (KV.out _).mono ?_; rintro e w5 ⟨v5, rfl, hx5, rfl⟩; have hx6 := hx3.trans hx5; have r0 := (HRW.out.ext hx2).ext hx5; have c0 := r0.cell (i := 0) rfl; have f0 := r0.frozen 0; have r1 := r0.set 0 (.int .u8 nn); have c1 := r1.cell (i := 1) rfl; have f1 := r1.frozen 1; have r2 := r1.set 1 (.slice (some ⟨b, off + 1, none⟩) (n - 1) (c2 - 1)); have d0 := r1.cell (i := 0) rfl; have d1 := r2.cell (i := 1) rfl; have hxb : Ext w ((w5.setCell ⟨w.heap.size, 0, none⟩ (.int .u8 nn)).setCell ⟨w.heap.size, 1, none⟩ (.slice (some ⟨b, off + 1, none⟩) (n - 1) (c2 - 1))) := Below.set (Below.set hx6 (Nat.le_refl _) _) (Nat.le_refl _) _; clear r0 r1 r2; have r0 := (HRW.out.ext hx2).ext hx5; have c0' := r0.cell (i := 0) rfl; have f0' := r0.frozen 0; have r1 := r0.set 0 (.int .u8 nn); have c1' := r1.cell (i := 1) rfl; have f1' := r1.frozen 1; have r2 := r1.set 1 (.slice (some ⟨b, off, none⟩) (n - 1) 0); have e0 := r1.cell (i := 0) rfl; have e1 := r2.cell (i := 1) rfl; have hxe : Ext w ((w5.setCell ⟨w.heap.size, 0, none⟩ (.int .u8 nn)).setCell ⟨w.heap.size, 1, none⟩ (.slice (some ⟨b, off, none⟩) (n - 1) 0)) := Below.set (Below.set hx6 (Nat.le_refl _) _) (Nat.le_refl _) _; clear r0 r1 r2))
          · refine bodyPost_ret (by simp [results, Tryd.results13, go_sem, e0, e1]; try rfl) rfl ?_
            refine Ret.mk hxe ?_
            unfold ParseV ReqV
            rw [HP.out]
            refine ⟨_, rfl, _, rfl, ?_⟩
            have hc0 : c2 - 1 = 0 := by omega
            have hl : t.length = n - 1 := by have := htn.out; omega
            have ht0 : t = [] := List.length_eq_zero_iff.1 (by omega)
            show Txs t _ _
            rw [← hl, ht0]
            exact ⟨_, _, rfl, Nat.le_refl _, fun h => absurd rfl h⟩
          · refine bodyPost_ret (by simp [results, Tryd.results13, go_sem, d0, d1]; try rfl) rfl ?_
            refine Ret.mk hxb ?_
            unfold ParseV ReqV
            rw [HP.out]
            refine ⟨_, rfl, _, rfl, ?_⟩
            have hl : t.length = n - 1 := by have := htn.out; omega
            obtain ⟨A3, c3, hA3, hc3, hr3⟩ := htl.ext hx5
            injection hA3 with hA3 _ hc3'
            subst hA3
            show Txs t _ _
            rw [← hl]
            refine ⟨_, _, rfl, by rw [hc3']; exact hc3, ?_⟩
            have hbn := req_far ((HRW.out.ext hx2)) hcx
            exact (hr3.far hbn _ _).far hbn _ _
        · have HP : Hid (parseS s.data.toList = (0, [], 0, 1)) := by unfold parseS; rw [HWS.out]; simp only; rw [hvb]; simp only; rw [if_neg hta]; exact hide rfl
          rw [decide_eq_false hta] at hw1
          clear hvb hta
          go_enter Tryd.func13, Tryd.ntmps13
          go_wp2_with (first
            | (go_at_call 11; refine (K.out _ HXA.out).mono ?_; rintro e w2 ⟨v2, rfl, hx2, v20, rfl, A2, c2, rfl, hc2, hr2⟩; have hx3 := HXA.out.trans hx2; obtain ⟨b, off, rfl, hcx, htl⟩ := Txs.tail hr2 hc2; rw [HN.out] at hc2 ⊢)
            | (go_at_call 22; refine (KV.out _).mono ?_; rintro e w5 ⟨v5, rfl, hx5, rfl⟩; have hx6 := hx3.trans hx5; have r0 := (HRW.out.ext hx2).ext hx5; have c0 := r0.cell (i := 0) rfl; have f0 := r0.frozen 0; have r1 := r0.set 0 (.int .u8 0); have c1 := r1.cell (i := 1) rfl; have f1 := r1.frozen 1; have r2 := r1.set 1 (.slice none 0 0); have d0 := r1.cell (i := 0) rfl; have d1 := r2.cell (i := 1) rfl; have hxb : Ext w ((w5.setCell ⟨w.heap.size, 0, none⟩ (.int .u8 0)).setCell ⟨w.heap.size, 1, none⟩ (.slice none 0 0)) := Below.set (Below.set hx6 (Nat.le_refl _) _) (Nat.le_refl _) _; clear r0 r1 r2))
          refine bodyPost_ret (by simp [results, Tryd.results13, go_sem, d0, d1]; try rfl) rfl ?_
          refine Ret.mk hxb ?_
          unfold ParseV ReqV
          rw [HP.out]
          exact ⟨_, rfl, _, rfl, Txs.nil _⟩
  · have HP : Hid (parseS s.data.toList = (0, [], p, e)) := by unfold parseS; rw [HWS.out]; simp only; rw [if_pos he]; exact hide rfl
    have hne1 : ((e : Int) != 0) = true := by simp; omega
    clear he
    go_enter Tryd.func13, Tryd.ntmps13
    go_wp2_with (go_at_call 11; refine (K.out _ HXA.out).mono ?_; rintro e w2 ⟨v2, rfl, hx2, v20, rfl, A2, c2, rfl, hc2, hr2⟩; have hx3 := HXA.out.trans hx2; have r0 := HRW.out.ext hx2; have c0 := r0.cell (i := 0) rfl; have f0 := r0.frozen 0; have r1 := r0.set 0 (.int .u8 0); have c1 := r1.cell (i := 1) rfl; have f1 := r1.frozen 1; have r2 := r1.set 1 (.slice none 0 0); have d0 := r1.cell (i := 0) rfl; have d1 := r2.cell (i := 1) rfl; have hxb : Ext w ((w2.setCell ⟨w.heap.size, 0, none⟩ (.int .u8 0)).setCell ⟨w.heap.size, 1, none⟩ (.slice none 0 0)) := Below.set (Below.set hx3 (Nat.le_refl _) _) (Nat.le_refl _) _; clear r0 r1 r2)
    refine bodyPost_ret (by simp [results, Tryd.results13, go_sem, d0, d1]; try rfl) rfl ?_
    refine Ret.mk hxb ?_
    unfold ParseV ReqV
    rw [HP.out]
    exact ⟨_, rfl, _, rfl, Txs.nil _⟩
end Go.Proofs.YtceccaafajkbfaaDoor
