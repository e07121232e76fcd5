/-
  The disk's settle: contracts, one for each closure that it is handed.
-/
import Derived.Test.YtmabminjmcjafaaDskW
namespace Go.Proofs.Ytmabminjmcjafaa
open Go.RowKit

/-- The sectors behind so many writes, those that are kept. -/
def durK (kept : Nat → Bool) (dur : List (List UInt8)) (pen : List (Nat × List UInt8)) (k : Nat) : List (List UInt8) := (pen.take k).zipIdx.foldl (fun d x => if kept x.2 then d.set x.1.1 x.1.2 else d) dur
theorem durK_zero (kept : Nat → Bool) (dur : List (List UInt8)) (pen : List (Nat × List UInt8)) : durK kept dur pen 0 = dur := rfl
theorem durK_succ (kept : Nat → Bool) (dur : List (List UInt8)) (pen : List (Nat × List UInt8)) (k : Nat) (x : Nat × List UInt8) (h : pen[k]? = some x) : durK kept dur pen (k + 1) = if kept k then (durK kept dur pen k).set x.1 x.2 else durK kept dur pen k := by
  unfold durK
  have hl : (pen.take k).length = k := by rw [List.length_take]; have := (List.getElem?_eq_some_iff.1 h).1; omega
  rw [List.take_add_one, h, Option.toList_some, List.zipIdx_append, List.foldl_append, hl]
  simp
theorem durK_len (kept : Nat → Bool) (dur : List (List UInt8)) (pen : List (Nat × List UInt8)) (k : Nat) : (durK kept dur pen k).length = dur.length := by
  induction k with
  | zero => rfl
  | succ k ih =>
    cases h : pen[k]? with
    | none =>
      have hk := List.getElem?_eq_none_iff.1 h
      unfold durK at ih ⊢
      rw [List.take_of_length_le (by omega)]
      rw [List.take_of_length_le (by omega)] at ih
      exact ih
    | some x =>
      rw [durK_succ _ _ _ _ _ h]
      split
      · rw [List.length_set]; exact ih
      · exact ih
theorem durK_lens {kept : Nat → Bool} {dur : List (List UInt8)} {pen : List (Nat × List UInt8)} (hd : ∀ s ∈ dur, s.length = 512) (hp : ∀ x ∈ pen, x.2.length = 512) (k : Nat) : ∀ s ∈ durK kept dur pen k, s.length = 512 := by
  induction k with
  | zero => exact hd
  | succ k ih =>
    cases h : pen[k]? with
    | none =>
      have hk := List.getElem?_eq_none_iff.1 h
      unfold durK at ih ⊢
      rw [List.take_of_length_le (by omega)]
      rw [List.take_of_length_le (by omega)] at ih
      exact ih
    | some x =>
      rw [durK_succ _ _ _ _ _ h]
      split
      · intro s hs
        rcases List.mem_or_eq_of_mem_set hs with h1 | h1
        · exact ih s h1
        · rw [h1]; exact hp x (List.mem_of_getElem? h)
      · exact ih
/-- 'newest' behind so many writes. -/
def newK (n : Nat) (pen : List (Nat × List UInt8)) (k : Nat) : List Value := (List.range n).map fun i => .int .i64 (if (pen.take k).any (fun x => x.1 == i) then 0 else (lastP pen i : Int))
theorem newK_zero (n : Nat) (pen : List (Nat × List UInt8)) : newK n pen 0 = newL n pen := by simp [newK, newL]
theorem newK_get (n : Nat) (pen : List (Nat × List UInt8)) (k i : Nat) (h : i < n) : (newK n pen k)[i]? = some (.int .i64 (if (pen.take k).any (fun x => x.1 == i) then 0 else (lastP pen i : Int))) := by
  unfold newK
  rw [List.getElem?_map, List.getElem?_range h]
  rfl
theorem newK_succ (n : Nat) (pen : List (Nat × List UInt8)) (k : Nat) (x : Nat × List UInt8) (h : pen[k]? = some x) (hx : x.1 < n) : newK n pen (k + 1) = (newK n pen k).set x.1 (.int .i64 0) := by
  apply List.ext_getElem?
  intro i
  by_cases hi : i < n
  · rw [newK_get _ _ _ _ hi, List.getElem?_set, List.take_add_one, h, Option.toList_some, List.any_append]
    by_cases he : x.1 = i
    · subst he
      rw [if_pos rfl, if_pos (show x.1 < (newK n pen k).length by simp [newK]; exact hi)]
      simp
    · rw [if_neg he, newK_get _ _ _ _ hi]
      have h2 : (x.1 == i) = false := by simpa using he
      rw [show ([x].any fun x => x.1 == i) = (x.1 == i) by simp, h2, Bool.or_false]
  · rw [List.getElem?_eq_none (by simp [newK]; omega), List.getElem?_eq_none (by simp [newK]; omega)]
theorem newK_all (n : Nat) (pen : List (Nat × List UInt8)) (k : Nat) (hk : pen.length ≤ k) : newK n pen k = newL n [] := by
  unfold newK newL
  rw [List.take_of_length_le hk]
  apply List.map_congr_left
  intro i _
  split
  · rfl
  · rename_i hn
    rcases lastP_at _ pen i rfl with h0 | ⟨s, h1, _⟩
    · rw [h0]; rfl
    · exfalso
      apply hn
      rw [List.any_eq_true]
      exact ⟨_, List.mem_of_getElem? h1, by simp⟩
theorem newK_value (n : Nat) (pen : List (Nat × List UInt8)) (k i : Nat) (h : i < n) : ∃ z : Int, (newK n pen k)[i]? = some (.int .i64 z) := ⟨_, newK_get _ _ _ _ h⟩
/-- What is left when all is settled. -/
def Dk.settled (D : Dk) (kept : Nat → Bool) : Dk := { D with dur := durK kept D.dur D.pen D.pen.length, pen := [] }
theorem run_fieldW (g i : Nat) (hi : i = 0 ∨ i = 1) (w : World) : (Instr.fieldAt 69 (.pointer (some ⟨g, 0, none⟩)) i).run Try.prog w = .ok (.pointer (some ⟨g, i, none⟩)) w := by
  rcases hi with rfl | rfl <;> simp [go_sem]
theorem run_fieldD0 (g : Nat) (w : World) : (Instr.fieldAt 60 (.pointer (some ⟨g, 0, none⟩)) 0).run Try.prog w = .ok (.pointer (some ⟨g, 0, none⟩)) w := by
  simp [go_sem]
theorem gives_load_int {P : Program} {o : Oper} {a : Act} {w : World} {R : Value → World → Prop} {x : Operand} {ty : TypeId} {ad : Addr} {v : Value} {k : IntKind} (h : o.op = .load ty x) (hx : a.eval x = .pointer (some ad)) (hu : P.underlying ty = some (.int k)) (hc : w.cell? ad = some v) (hR : R v w) : gives P o a w R := by
  have hl : (loadVar ty ad).run P w = .ok v w := by simp [loadVar, isAgg, run_underlying hu, go_sem, hc]
  unfold gives execOp
  simp only [h, hx, Instr.loadAt, Instr.sureAddr, Sem.run_bind, Sem.run_pure, Result.andThen_ok, hl]
  exact hR
theorem gives_indexP {P : Program} {o : Oper} {a : Act} {w : World} {R : Value → World → Prop} {x y : Operand} {t : TypeId} {u z v : Value} (h : o.op = .indexAddr t x y) (hx : a.eval x = u) (hy : a.eval y = z) (hrun : (Instr.indexAt t u z).run P w = .ok v w) (hR : R v w) : gives P o a w R := by
  refine gives_of_run (w' := w) (v := v) ?_ hR
  unfold execOp
  simp only [h, hx, hy, Sem.run_bind, hrun, Result.andThen_ok, Sem.run_pure]
theorem run_indexS (gd n i : Nat) (h : i < n) (w : World) : (Instr.indexAt 56 (.slice (some ⟨gd, 0, none⟩) n n) (.int .i64 (i : Int))).run Try.prog w = .ok (.pointer (some ⟨gd, i * 512, none⟩)) w := by
  have hi : (i : Int) < (n : Int) := by omega
  have h0 : (0 : Int) ≤ (i : Int) := by omega
  simp [go_sem, Try.underlying56, hi, h0, add_flat]
theorem settled_at {B g gd gn c m n : Nat} {W : World} {A : Option Addr} {D : Dk} {kept : Nat → Bool} (hg : Rw W g 60 (diskC gd gn A c D)) (hd : Rw W gd 67 (bs (durK kept D.dur D.pen m).flatten)) (hn : Rw W gn 3 (newK n D.pen m)) (hb : B ≤ g ∧ B ≤ gd ∧ B ≤ gn) (hm : D.pen.length = m) (hl : D.dur.length = n) :
    DiskAt B (W.setCell ⟨g, 1, none⟩ (.slice none 0 0)) g gd gn none 0 (D.settled kept) := by
  have n1 : gd ≠ g := fun e => hg.apart hd (by decide) e.symm
  have n2 : gn ≠ g := fun e => hg.apart hn (by decide) e.symm
  have e0 : (D.settled kept).dur.length = D.dur.length := durK_len _ _ _ _
  refine ⟨?_, ?_, ?_, World.ownsRow_nil _ _ _ _, hb⟩
  · have h := hg.set 1 (.slice none 0 0)
    have e : diskC gd gn none 0 (D.settled kept) = (diskC gd gn A c D).set 1 (.slice none 0 0) := by
      unfold diskC
      rw [e0]
      rfl
    rw [e]; exact h
  · show Rw _ gd 67 (bs (durK kept D.dur D.pen D.pen.length).flatten)
    rw [hm]
    exact hd.far n1 _
  · rw [e0, hl]
    show Rw _ gn 3 (newL n [])
    rw [← newK_all n D.pen m (by omega)]
    exact hn.far n2 _
theorem lay_flat {L : List (List UInt8)} (h : ∀ s ∈ L, s.length = 512) {i : Nat} {s : List UInt8} (hi : i < L.length) (hs : s.length = 512) : lay (bs L.flatten) (i * 512) (bs s) = bs (L.set i s).flatten := by
  rw [flat_set (m := 512) h (List.getElem?_eq_getElem hi) hs]
  unfold lay
  rw [bs_append, bs_append, bs_length, hs]
  unfold bs
  rw [List.map_take, List.map_drop]
end Go.Proofs.Ytmabminjmcjafaa
