/-
  Lines: the request of a line: the program's contract.
-/
import Derived.Test.YtmanflfanoddgabDoorLinB
import Derived.Test.YtmanflfanoddgabDoorLinV
namespace Go.Proofs.YtmanflfanoddgabDoor
open Go.RowKit

/-- The request of a line: the verb, its words; the place, the error. -/
def parseS (l : List UInt8) : Int × List (List UInt8) × Nat × Nat :=
  match wordsS l with
  | (W, p, e) => if e ≠ 0 then (0, [], p, e) else match W with
    | [] => (0, [], 0, 4)
    | x :: t => match verbS x with
      | none => (0, [], 0, 6)
      | some (n, _, a) => if (t.length : Int) = a then (n, t, 0, 0) else (0, [], 0, 1)
def ReqV (q : Int × List (List UInt8)) (w : World) (v : Value) : Prop := ∃ v0, v = .agg #[.int .u8 q.1, v0] ∧ Txs q.2 w v0
def ParseV (l : List UInt8) (w : World) (v : Value) : Prop := ∃ v0, v = .tuple #[v0, .int .i64 ((parseS l).2.2.1 : Int), .int .i64 ((parseS l).2.2.2 : Int)] ∧ ReqV ((parseS l).1, (parseS l).2.1) w v0
theorem Txs.tail {x : List UInt8} {t : List (List UInt8)} {w : World} {A : Option Addr} {c : Nat} (h : RdV w A (tvs (x :: t))) (hc : (x :: t).length ≤ c) : ∃ b off, A = some ⟨b, off, none⟩ ∧ w.cell? ⟨b, off, none⟩ = some (.string ⟨x.toArray⟩) ∧ Txs t w (.slice (some ⟨b, off + 1, none⟩) t.length (c - 1)) := by
  obtain ⟨b, off, rfl, hcl⟩ := h (by simp [tvs])
  refine ⟨b, off, rfl, hcl 0 _ rfl, _, _, rfl, by simp at hc; omega, fun _ => ⟨b, off + 1, rfl, fun j u hu => ?_⟩⟩
  rw [Nat.add_assoc, Nat.add_comm 1 j]
  exact hcl (j + 1) u (by simpa [tvs] using hu)

theorem RdV.far {w : World} {b off g : Nat} {vs : List Value} (h : RdV w (some ⟨b, off, none⟩) vs) (hne : b ≠ g) (i : Nat) (u : Value) : RdV (w.setCell ⟨g, i, none⟩ u) (some ⟨b, off, none⟩) vs := fun hn => by
  obtain ⟨b', off', hA, hc⟩ := h hn
  injection hA with hA
  injection hA with h1 h2 _
  subst h1 h2
  refine ⟨_, _, rfl, fun j x hj => ?_⟩
  exact (World.cell?_of_block (Below.heap_setCell w ⟨g, i, none⟩ u b hne)).trans (hc j x hj)
theorem req_far {w : World} {g b off : Nat} {x : ByteArray} (hr : Rw w g 26 [.int .u8 0, .slice none 0 0]) (hc : w.cell? ⟨b, off, none⟩ = some (.string x)) : b ≠ g := by
  rintro rfl
  unfold Rw at hr
  rw [cell_of_row w b off _ _ (0, 0) hr] at hc
  match off, hc with
  | 0, hc => simp at hc
  | 1, hc => simp at hc
  | off + 2, hc => simp at hc
theorem req_facts (w w5 : World) (g : Nat) (o : Obj) (a b v0 v1 : Value) (hr : Rw w5 g 26 [a, b]) (hg : w.heap.size ≤ g) (hx : Ext w w5) :
    (w5.alloc o).cell? ⟨g, 0, none⟩ = some a ∧ (w5.alloc o).frozen? ⟨g, 0, none⟩ = false ∧ ((w5.setCell ⟨g, 0, none⟩ v0).alloc o).cell? ⟨g, 1, none⟩ = some b ∧ ((w5.setCell ⟨g, 0, none⟩ v0).alloc o).frozen? ⟨g, 1, none⟩ = false ∧
    (((w5.setCell ⟨g, 0, none⟩ v0).setCell ⟨g, 1, none⟩ v1).alloc o).cell? ⟨g, 0, none⟩ = some v0 ∧ (((w5.setCell ⟨g, 0, none⟩ v0).setCell ⟨g, 1, none⟩ v1).alloc o).cell? ⟨g, 1, none⟩ = some v1 ∧
    Ext w (((w5.setCell ⟨g, 0, none⟩ v0).setCell ⟨g, 1, none⟩ v1).alloc o) ∧ g < w5.heap.size ∧ ¬ g = w5.heap.size ∧ ¬ w5.heap.size = g := by
  have hlt := hr.lt
  have r1 := hr.set 0 v0
  have r2 := r1.set 1 v1
  refine ⟨(hr.alloc o).cell rfl, (hr.alloc o).frozen 0, (r1.alloc o).cell rfl, (r1.alloc o).frozen 1, (r2.alloc o).cell rfl, (r2.alloc o).cell rfl, ?_, hlt, by omega, by omega⟩
  have hs : (((w5.setCell ⟨g, 0, none⟩ v0).setCell ⟨g, 1, none⟩ v1)).heap.size = w5.heap.size := by simp
  exact Below.trans (Below.set (Below.set hx hg _) hg _) (Below.mono (Ext.alloc _ _) (by rw [hs]; exact Ext.size hx))
theorem vtab_args : ∀ r ∈ vtab, 0 ≤ r.2.2 ∧ r.2.2 ≤ 4 := by decide
theorem verbS_args {x : List UInt8} {n : Int} {wd : List UInt8} {a : Int} (h : verbS x = some (n, wd, a)) : Hid (0 ≤ a ∧ a ≤ 4) := vtab_args _ (List.mem_of_find?_eq_some h)
set_option maxRecDepth 20000 in
set_option maxHeartbeats 4000000 in
theorem parse_any (s : ByteArray) (w : World) (hs : s.size ≤ 140737488355328) (hT : Tabs w) (hV : TabV w) :
    Calls Tryd.prog 10 #[.string s] w (Ret w (ParseV s.data.toList)) := by
  obtain ⟨W, p, e, HWS⟩ : ∃ W p e, Hid (wordsS s.data.toList = (W, p, e)) := ⟨_, _, _, hide rfl⟩
  have K := hide fun V (h : Ext w V) => words_is HWS.out V (hT.ext h) hs
  have hnw := wordsS_count HWS.out
  have HRW := hide (Rw.new w 26 [.int .u8 0, .slice none 0 0])
  have HXA := hide (Ext.alloc w (.cells #[.int .u8 0, .slice none 0 0] 26))
  by_cases he : e = 0
  · subst he
    cases W with
    | nil =>
      have HP : Hid (parseS s.data.toList = (0, [], 0, 4)) := by unfold parseS; rw [HWS.out]; exact hide rfl
      go_enter Tryd.func10, Tryd.ntmps10
      go_wp2_with (go_at_call 21; refine (K.out _ HXA.out).mono ?_; rintro e w2 ⟨v2, rfl, hx2, v20, rfl, A2, c2, rfl, hc2, hr2⟩; have r0 := HRW.out.ext hx2; have c0 := r0.cell (i := 0) rfl; have f0 := r0.frozen 0; have r1 := r0.set 0 (.int .u8 0); have c1 := r1.cell (i := 1) rfl; have f1 := r1.frozen 1; have r2 := r1.set 1 (.slice none 0 0); have d0 := r1.cell (i := 0) rfl; have d1 := r2.cell (i := 1) rfl; have hx3 := HXA.out.trans hx2; have hxb : Ext w ((w2.setCell ⟨w.heap.size, 0, none⟩ (.int .u8 0)).setCell ⟨w.heap.size, 1, none⟩ (.slice none 0 0)) := Below.set (Below.set hx3 (Nat.le_refl _) _) (Nat.le_refl _) _; clear r0 r1 r2)
      refine bodyPost_ret (by simp [results, Tryd.results10, go_sem, d0, d1]; try rfl) rfl ?_
      refine Ret.mk hxb ?_
      unfold ParseV ReqV
      rw [HP.out]
      exact ⟨_, rfl, _, rfl, Txs.nil _⟩
    | cons x t =>
      have KV := hide fun V (h : Ext w V) => verbOfWord_any ⟨x.toArray⟩ V (hV.ext h)
      rw [show (⟨x.toArray⟩ : ByteArray).toList = x from ByteArray.toList_mk x] at KV
      obtain ⟨n, HN⟩ : ∃ n, Hid ((x :: t).length = n) := ⟨_, rfl⟩
      rw [HN.out] at hnw
      have hn1 : 1 ≤ n := by rw [← HN.out]; simp
      have hn0 : ((n : Int) == 0) = false := i64_ne (by omega)
      have htn : Hid (t.length + 1 = n) := by rw [← HN.out]; exact hide rfl
      cases hvb : verbS x with
      | none =>
        have HP : Hid (parseS s.data.toList = (0, [], 0, 6)) := by unfold parseS; rw [HWS.out]; simp only; rw [hvb]; exact hide rfl
        rw [hvb] at KV
        simp only [verbV] at KV
        clear hvb
        go_enter Tryd.func10, Tryd.ntmps10
        go_wp2_with (first
          | (go_at_call 21; refine (K.out _ HXA.out).mono ?_; rintro e w2 ⟨v2, rfl, hx2, v20, rfl, A2, c2, rfl, hc2, hr2⟩; have hx3 := HXA.out.trans hx2; obtain ⟨b, off, rfl, hcx, htl⟩ := Txs.tail hr2 hc2; rw [HN.out] at hc2 ⊢)
          | (go_at_call 22; refine (KV.out _ hx3).mono ?_; rintro e w5 ⟨v5, rfl, hx5, rfl⟩; have hx6 := hx3.trans hx5; obtain ⟨c0, f0, c1, f1, d0, d1, hxb, hlt', hne, hne'⟩ := req_facts w w5 w.heap.size (.cells #[.int .u8 0, .string ⟨#[]⟩, .int .i64 0] 54) _ _ (.int .u8 0) (.slice none 0 0) ((HRW.out.ext hx2).ext hx5) (Nat.le_refl _) hx6))
        refine bodyPost_ret (by simp [results, Tryd.results10, go_sem, d0, d1]; try rfl) rfl ?_
        refine Ret.mk hxb ?_
        unfold ParseV ReqV
        rw [HP.out]
        exact ⟨_, rfl, _, rfl, Txs.nil _⟩
      | some vb =>
        obtain ⟨nn, wd, aa⟩ := vb
        rw [hvb] at KV
        simp only [verbV] at KV
        have HB : Hid (0 ≤ aa ∧ aa ≤ 4) := verbS_args hvb
        have hb := HB.out
        have hw1 : ((n : Int) != 1 + aa) = !decide ((t.length : Int) = aa) := by
          have := htn.out
          rw [Bool.eq_iff_iff]
          simp
          omega
        by_cases hta : (t.length : Int) = aa
        · have HP : Hid (parseS s.data.toList = (nn, t, 0, 0)) := by unfold parseS; rw [HWS.out]; simp only; rw [hvb]; simp only; rw [if_pos hta]; exact hide rfl
          rw [decide_eq_true hta] at hw1
          clear hvb hta
          go_enter Tryd.func10, Tryd.ntmps10
          go_wp2_with (first
            | (go_at_call 21; refine (K.out _ HXA.out).mono ?_; rintro e w2 ⟨v2, rfl, hx2, v20, rfl, A2, c2, rfl, hc2, hr2⟩; have hx3 := HXA.out.trans hx2; obtain ⟨b, off, rfl, hcx, htl⟩ := Txs.tail hr2 hc2; rw [HN.out] at hc2 ⊢)
            | (go_at_call 22; refine (KV.out _ hx3).mono ?_; rintro e w5 ⟨v5, rfl, hx5, rfl⟩; have hx6 := hx3.trans hx5; obtain ⟨c0, f0, c1, f1, d0, d1, hxb, hlt', hne, hne'⟩ := req_facts w w5 w.heap.size (.cells #[.int .u8 nn, .string ⟨wd.toArray⟩, .int .i64 aa] 54) _ _ (.int .u8 nn) (.slice (some ⟨b, off + 1, none⟩) (n - 1) (c2 - 1)) ((HRW.out.ext hx2).ext hx5) (Nat.le_refl _) hx6; obtain ⟨-, -, -, -, e0, e1, hxe, -⟩ := req_facts w w5 w.heap.size (.cells #[.int .u8 nn, .string ⟨wd.toArray⟩, .int .i64 aa] 54) _ _ (.int .u8 nn) (.slice (some ⟨b, off, none⟩) (n - 1) 0) ((HRW.out.ext hx2).ext hx5) (Nat.le_refl _) hx6))
          go_region
          go_wp2
          · refine bodyPost_ret (by simp [results, Tryd.results10, go_sem, e0, e1]; try rfl) rfl ?_
            refine Ret.mk (hxe.trans (Ext.drew _)) ?_
            unfold ParseV ReqV
            rw [HP.out]
            refine ⟨_, rfl, _, rfl, ?_⟩
            have hc0 : c2 - 1 = 0 := by omega
            have hl : t.length = n - 1 := by have := htn.out; omega
            have ht0 : t = [] := List.length_eq_zero_iff.1 (by omega)
            show Txs t _ _
            rw [← hl, ht0]
            exact ⟨_, _, rfl, Nat.le_refl _, fun h => absurd rfl h⟩
          · refine bodyPost_ret (by simp [results, Tryd.results10, go_sem, d0, d1]; try rfl) rfl ?_
            refine Ret.mk (hxb.trans (Ext.drew _)) ?_
            unfold ParseV ReqV
            rw [HP.out]
            refine ⟨_, rfl, _, rfl, ?_⟩
            have hl : t.length = n - 1 := by have := htn.out; omega
            obtain ⟨A3, c3, hA3, hc3, hr3⟩ := htl.ext hx5
            injection hA3 with hA3 _ hc3'
            subst hA3
            show Txs t _ _
            rw [← hl]
            refine ⟨_, _, rfl, by rw [hc3']; exact hc3, ?_⟩
            have hbn := req_far ((HRW.out.ext hx2)) hcx
            exact (((hr3.far hbn _ _).far hbn _ _).ext (Ext.alloc _ _)).ext (Ext.drew _)
        · have HP : Hid (parseS s.data.toList = (0, [], 0, 1)) := by unfold parseS; rw [HWS.out]; simp only; rw [hvb]; simp only; rw [if_neg hta]; exact hide rfl
          rw [decide_eq_false hta] at hw1
          clear hvb hta
          go_enter Tryd.func10, Tryd.ntmps10
          go_wp2_with (first
            | (go_at_call 21; refine (K.out _ HXA.out).mono ?_; rintro e w2 ⟨v2, rfl, hx2, v20, rfl, A2, c2, rfl, hc2, hr2⟩; have hx3 := HXA.out.trans hx2; obtain ⟨b, off, rfl, hcx, htl⟩ := Txs.tail hr2 hc2; rw [HN.out] at hc2 ⊢)
            | (go_at_call 22; refine (KV.out _ hx3).mono ?_; rintro e w5 ⟨v5, rfl, hx5, rfl⟩; have hx6 := hx3.trans hx5; obtain ⟨c0, f0, c1, f1, d0, d1, hxb, hlt', hne, hne'⟩ := req_facts w w5 w.heap.size (.cells #[.int .u8 nn, .string ⟨wd.toArray⟩, .int .i64 aa] 54) _ _ (.int .u8 0) (.slice none 0 0) ((HRW.out.ext hx2).ext hx5) (Nat.le_refl _) hx6))
          refine bodyPost_ret (by simp [results, Tryd.results10, go_sem, d0, d1]; try rfl) rfl ?_
          refine Ret.mk hxb ?_
          unfold ParseV ReqV
          rw [HP.out]
          exact ⟨_, rfl, _, rfl, Txs.nil _⟩
  · have HP : Hid (parseS s.data.toList = (0, [], p, e)) := by unfold parseS; rw [HWS.out]; simp only; rw [if_pos he]; exact hide rfl
    have hne1 : ((e : Int) != 0) = true := by simp; omega
    clear he
    go_enter Tryd.func10, Tryd.ntmps10
    go_wp2_with (go_at_call 21; refine (K.out _ HXA.out).mono ?_; rintro e w2 ⟨v2, rfl, hx2, v20, rfl, A2, c2, rfl, hc2, hr2⟩; have r0 := HRW.out.ext hx2; have c0 := r0.cell (i := 0) rfl; have f0 := r0.frozen 0; have r1 := r0.set 0 (.int .u8 0); have c1 := r1.cell (i := 1) rfl; have f1 := r1.frozen 1; have r2 := r1.set 1 (.slice none 0 0); have d0 := r1.cell (i := 0) rfl; have d1 := r2.cell (i := 1) rfl; have hx3 := HXA.out.trans hx2; have hxb : Ext w ((w2.setCell ⟨w.heap.size, 0, none⟩ (.int .u8 0)).setCell ⟨w.heap.size, 1, none⟩ (.slice none 0 0)) := Below.set (Below.set hx3 (Nat.le_refl _) _) (Nat.le_refl _) _; clear r0 r1 r2)
    refine bodyPost_ret (by simp [results, Tryd.results10, go_sem, d0, d1]; try rfl) rfl ?_
    refine Ret.mk hxb ?_
    unfold ParseV ReqV
    rw [HP.out]
    exact ⟨_, rfl, _, rfl, Txs.nil _⟩
end Go.Proofs.YtmanflfanoddgabDoor
