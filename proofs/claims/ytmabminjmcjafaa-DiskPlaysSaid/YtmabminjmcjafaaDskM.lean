/-
  A disk: plain, and how it lies in memory; arrays and structs within a block, read and written whole.
-/
import Derived.Test.YtmabminjmcjafaaChn
import Derived.Test.YtmabminjmcjafaaWds
import Derived.Laws.CopyOwn
namespace Go.Proofs.Ytmabminjmcjafaa
open Go.RowKit

/-! ### values of many cells within a block -/
theorem run_loadVar_at {P : Program} (w : World) (g off : Nat) (ty : TypeId) (vs : List Value) (n : Nat) (ha : (isAgg ty).run P w = .ok true w) (hi : (P.info? ty).map (·.size) = some n) (hn : n = vs.length)
    (hc : ∀ j v, vs[j]? = some v → w.cell? ⟨g, off + j, none⟩ = some v) : (loadVar ty ⟨g, off, none⟩).run P w = .ok (.agg vs.toArray) w := by
  have hl : (loadCells ⟨g, off, none⟩ vs.length).run P w = .ok vs.toArray w :=
    run_loadCells_list (P := P) w ⟨g, off, none⟩ vs (fun j v hv => by rw [add_flat]; exact hc j v hv)
  cases hq : P.info? ty with
  | none => simp [hq] at hi
  | some i =>
    have hs : i.size = vs.length := by simp [hq] at hi; omega
    simp [loadVar, Sem.run_bind, ha, sizeOf, typeInfo, hq, hs, hl]
theorem agg_arr {P : Program} {ty m e : Nat} (hu : P.underlying ty = some (.array m e)) (w : World) : (isAgg ty).run P w = .ok true w := by
  unfold isAgg
  rw [Sem.run_bind, run_underlying hu w]
  simp
theorem agg_struct {P : Program} {ty : Nat} {fs : Array Field} (hu : P.underlying ty = some (.struct fs)) (w : World) : (isAgg ty).run P w = .ok true w := by
  unfold isAgg
  rw [Sem.run_bind, run_underlying hu w]
  simp
/-- m laid over l from a place on. -/
def lay (l : List Value) (off : Nat) (m : List Value) : List Value := l.take off ++ m ++ l.drop (off + m.length)
theorem lay_length (l : List Value) (off : Nat) (m : List Value) (h : off + m.length ≤ l.length) : (lay l off m).length = l.length := by simp [lay]; omega
theorem run_storeVar_at {P : Program} (w : World) (g off : Nat) (ty t : TypeId) (us vs : List Value) (hr : Rw w g t vs) (hi : (P.info? ty).map (·.size) = some us.length) (hfit : off + us.length ≤ vs.length) (h1 : ∀ u ∈ us, u.oneCell' = true) :
    (storeVar ty ⟨g, off, none⟩ (.agg us.toArray)).run P w = .ok () (w.setRow g (lay vs off us).toArray) := by
  have h := run_storeCells_at P g off t us 0 vs.toArray w hr (by simpa using hfit) h1
  simp only [Nat.add_zero] at h
  cases hq : P.info? ty with
  | none => simp [hq] at hi
  | some i =>
    have hs : us.length = i.size := by simp [hq] at hi; omega
    unfold lay
    simpa [storeVar, sizeOf, typeInfo, hq, Value.cells, hs] using h
theorem Rw.lay {w : World} {g : Nat} {t : TypeId} {vs : List Value} (h : Rw w g t vs) (off : Nat) (us : List Value) : Rw (w.setRow g (lay vs off us).toArray) g t (Proofs.Ytmabminjmcjafaa.lay vs off us) := setRow_heap w g _ _ t _ h
section
variable {P : Program} {ops : Array Oper} {rest : List Oper} {o : Oper} {a : Act} {w : World} {Q : Exit → Act → World → Prop} {R : Value → World → Prop}
theorem gives_load_at (ty : TypeId) (x : Operand) (ho : o.op = .load ty x) (g off : Nat) (hx : a.eval x = .pointer (some ⟨g, off, none⟩)) (vs : List Value) (n : Nat) (ha : (isAgg ty).run P w = .ok true w) (hi : (P.info? ty).map (·.size) = some n) (hn : n = vs.length)
    (hc : ∀ j v, vs[j]? = some v → w.cell? ⟨g, off + j, none⟩ = some v) (hR : R (.agg vs.toArray) w) : gives P o a w R := by
  unfold gives execOp
  simp only [ho, hx, Instr.loadAt, Instr.sureAddr, Sem.run_bind, Sem.run_pure, Result.andThen_ok, run_loadVar_at w g off ty vs n ha hi hn hc]
  exact hR
theorem gives_store_at (ty : TypeId) (x y : Operand) (ho : o.op = .store ty x y) (g off : Nat) (hx : a.eval x = .pointer (some ⟨g, off, none⟩)) (us : List Value) (hy : a.eval y = .agg us.toArray) (t : TypeId) (vs : List Value) (hr : Rw w g t vs) (hi : (P.info? ty).map (·.size) = some us.length) (hfit : off + us.length ≤ vs.length) (h1 : ∀ u ∈ us, u.oneCell' = true)
    (hR : R undef (w.setRow g (lay vs off us).toArray)) : gives P o a w R := by
  unfold gives execOp
  simp only [ho, hx, hy, Instr.storeAt, Instr.sureAddr, Sem.run_bind, Sem.run_pure, Result.andThen_ok, run_storeVar_at w g off ty t us vs hr hi hfit h1]
  exact hR
theorem wpList_gives {x : Value} {w' : World} (h : gives P o a w fun v w2 => v = x ∧ w2 = w') (hgd : Region.wanted o (yielded ops a.tmps) = true)
    (hK : wpList P ops Q rest (a.put o.dst x) w') : wpList P ops Q (o :: rest) a w :=
  wpList_step fun K hKK => by
    rw [if_pos hgd]
    exact wp_of_gives h fun v w2 ⟨hv, hw⟩ => by subst hv hw; exact hKK _ _ hK
end

/-! ### lists of lists that are of one length -/
theorem flat_len {α : Type} {m : Nat} : ∀ (L : List (List α)), (∀ s ∈ L, s.length = m) → L.flatten.length = L.length * m
  | [], _ => by simp
  | s :: L, h => by
    have h0 := h s (by simp)
    have h1 := flat_len L (fun t ht => h t (by simp [ht]))
    simp only [List.flatten_cons, List.length_append, List.length_cons, Nat.add_mul, h0, h1]
    omega
theorem flat_split {α : Type} {m : Nat} {L : List (List α)} (h : ∀ s ∈ L, s.length = m) {i : Nat} {s : List α} (hi : L[i]? = some s) :
    L.flatten.take (i * m) = (L.take i).flatten ∧ L.flatten.drop (i * m + m) = (L.drop (i + 1)).flatten ∧ L.flatten = (L.take i).flatten ++ (s ++ (L.drop (i + 1)).flatten) := by
  obtain ⟨hlt, hs⟩ := List.getElem?_eq_some_iff.1 hi
  have e : L.flatten = (L.take i).flatten ++ (s ++ (L.drop (i + 1)).flatten) := by
    rw [← List.flatten_cons, ← List.flatten_append]
    congr 1
    rw [← hs, ← List.drop_eq_getElem_cons hlt, List.take_append_drop]
  have hl : (L.take i).flatten.length = i * m := by
    rw [flat_len (m := m) _ (fun t ht => h t (List.mem_of_mem_take ht)), List.length_take, Nat.min_eq_left (by omega)]
  have hsm : s.length = m := h s (List.mem_of_getElem? hi)
  refine ⟨?_, ?_, e⟩
  · rw [e, ← hl, List.take_left]
  · rw [e, ← hl, ← hsm, ← List.append_assoc, ← List.length_append, List.drop_left]
theorem flat_get {α : Type} {m : Nat} {L : List (List α)} (h : ∀ s ∈ L, s.length = m) {i : Nat} {s : List α} (hi : L[i]? = some s) {j : Nat} (hj : j < m) : L.flatten[i * m + j]? = s[j]? := by
  obtain ⟨h1, -, e⟩ := flat_split h hi
  have hsm : s.length = m := h s (List.mem_of_getElem? hi)
  have hl : (L.take i).flatten.length = i * m := by
    rw [flat_len (m := m) _ (fun t ht => h t (List.mem_of_mem_take ht)), List.length_take, Nat.min_eq_left (by have := (List.getElem?_eq_some_iff.1 hi).1; omega)]
  rw [e, List.getElem?_append_right (by omega), hl, Nat.add_sub_cancel_left, List.getElem?_append_left (by omega)]
theorem flat_set {α : Type} {m : Nat} {L : List (List α)} (h : ∀ s ∈ L, s.length = m) {i : Nat} {s t : List α} (hi : L[i]? = some s) (ht : t.length = m) : (L.set i t).flatten = L.flatten.take (i * m) ++ t ++ L.flatten.drop (i * m + m) := by
  obtain ⟨h1, h2, -⟩ := flat_split h hi
  obtain ⟨hlt, -⟩ := List.getElem?_eq_some_iff.1 hi
  rw [h1, h2, List.set_eq_take_append_cons_drop, if_pos hlt]
  simp

/-! ### the disk -/
/-- A disk: its sectors, the writes that are on their way, how many operations there were, the one in which the power goes off, is it off. -/
structure Dk where
  dur : List (List UInt8)
  pen : List (Nat × List UInt8)
  ops : Nat
  arm : Nat
  off : Bool
/-- How many writes there are up to the last one to a sector. -/
def lastP (pen : List (Nat × List UInt8)) (i : Nat) : Nat := pen.zipIdx.foldl (fun acc x => if x.1.1 = i then x.2 + 1 else acc) 0
theorem lastP_nil (i : Nat) : lastP [] i = 0 := rfl
theorem lastP_snoc (pen : List (Nat × List UInt8)) (x : Nat × List UInt8) (i : Nat) : lastP (pen ++ [x]) i = if x.1 = i then pen.length + 1 else lastP pen i := by
  unfold lastP
  rw [List.zipIdx_append, List.foldl_append]
  simp
def newL (n : Nat) (pen : List (Nat × List UInt8)) : List Value := (List.range n).map fun i => .int .i64 (lastP pen i : Int)
theorem newL_get (n : Nat) (pen : List (Nat × List UInt8)) (i : Nat) (h : i < n) : (newL n pen)[i]? = some (.int .i64 (lastP pen i : Int)) := by simp [newL, h]
theorem newL_snoc (n : Nat) (pen : List (Nat × List UInt8)) (x : Nat × List UInt8) (h : x.1 < n) : newL n (pen ++ [x]) = (newL n pen).set x.1 (.int .i64 ((pen.length + 1 : Nat) : Int)) := by
  apply List.ext_getElem?
  intro i
  by_cases hi : i < n
  · rw [newL_get _ _ _ hi, lastP_snoc, List.getElem?_set]
    by_cases he : x.1 = i
    · rw [if_pos he, if_pos he, if_pos (by rw [he]; simp [newL, hi])]
    · rw [if_neg he, if_neg he, newL_get _ _ _ hi]
  · rw [List.getElem?_eq_none (by simp [newL]; omega), List.getElem?_eq_none (by simp [newL]; omega)]
def penC (x : Nat × List UInt8) : List Value := .int .i64 (x.1 : Int) :: bs x.2
def pensC (l : List (Nat × List UInt8)) : List Value := (l.map penC).flatten
theorem penC_length (x : Nat × List UInt8) (h : x.2.length = 512) : (penC x).length = 513 := by simp [penC, bs_length, h]
theorem penC_one (x : Nat × List UInt8) : ∀ u ∈ penC x, u.oneCell' = true := by
  intro u hu
  rcases List.mem_cons.1 hu with rfl | hu
  · rfl
  · exact bs_one _ u hu
theorem pensC_append (l m : List (Nat × List UInt8)) : pensC (l ++ m) = pensC l ++ pensC m := by simp [pensC]
theorem pensC_lens {l : List (Nat × List UInt8)} (h : ∀ x ∈ l, x.2.length = 512) : ∀ s ∈ l.map penC, s.length = 513 := by
  intro s hs
  obtain ⟨x, hx, rfl⟩ := List.mem_map.1 hs
  exact penC_length x (h x hx)
theorem pensC_length {l : List (Nat × List UInt8)} (h : ∀ x ∈ l, x.2.length = 512) : (pensC l).length = l.length * 513 := by
  unfold pensC
  rw [flat_len (m := 513) _ (pensC_lens h), List.length_map]
/-- It is a right one. -/
structure Dk.Ok (D : Dk) : Prop where
  pos : 1 ≤ D.dur.length
  max : D.dur.length ≤ 4096
  dur : ∀ s ∈ D.dur, s.length = 512
  pen : ∀ x ∈ D.pen, x.1 < D.dur.length ∧ x.2.length = 512
theorem Dk.Ok.pens {D : Dk} (h : D.Ok) : ∀ x ∈ D.pen, x.2.length = 512 := fun x hx => (h.pen x hx).2
def diskC (gd gn : Nat) (A : Option Addr) (c : Nat) (D : Dk) : List Value :=
  [.slice (some ⟨gd, 0, none⟩) D.dur.length D.dur.length, .slice A D.pen.length c, .slice (some ⟨gn, 0, none⟩) D.dur.length D.dur.length, .int .i64 (D.ops : Int), .int .i64 (D.arm : Int), .bool D.off]
/-- How it lies. -/
structure DiskAt (B : Nat) (w : World) (g gd gn : Nat) (A : Option Addr) (c : Nat) (D : Dk) : Prop where
  blk : Rw w g 60 (diskC gd gn A c D)
  dur : Rw w gd 67 (bs D.dur.flatten)
  new : Rw w gn 3 (newL D.dur.length D.pen)
  pen : w.ownsRow B 69 513 (.slice A D.pen.length c) D.pen.length (pensC D.pen)
  base : B ≤ g ∧ B ≤ gd ∧ B ≤ gn
theorem Rw.apart {w : World} {g g2 : Nat} {t t2 : TypeId} {vs vs2 : List Value} (h : Rw w g t vs) (h2 : Rw w g2 t2 vs2) (ht : t ≠ t2) : g ≠ g2 := fun e => by
  subst e
  unfold Rw at h h2
  rw [h] at h2
  injection h2 with h2
  injection h2 with _ h3 _
  exact ht h3
theorem Rw.apart_own {w : World} {g B size n c : Nat} {t t2 : TypeId} {vs xs : List Value} {A : Option Addr} (h : Rw w g t vs) (h2 : w.ownsRow B t2 size (.slice A n c) n xs) (ht : t ≠ t2) : ∀ a, A = some a → a.block ≠ g := fun a ha e => by
  rcases h2.2 with ⟨hv, _⟩ | ⟨g2, cap, cur, hv, _, hg, _⟩
  · injection hv with hv; rw [ha] at hv; cases hv
  · injection hv with hv
    rw [ha] at hv
    injection hv with hv
    subst hv
    simp only at e
    subst e
    unfold Rw at h
    rw [hg] at h
    injection h with h
    injection h with _ h3 _
    exact ht h3.symm
section
variable {B g gd gn c : Nat} {w w' : World} {A : Option Addr} {D : Dk}
theorem DiskAt.ne (h : DiskAt B w g gd gn A c D) : g ≠ gd ∧ g ≠ gn ∧ gd ≠ gn ∧ (∀ a, A = some a → a.block ≠ g ∧ a.block ≠ gd ∧ a.block ≠ gn) :=
  ⟨h.blk.apart h.dur (by decide), h.blk.apart h.new (by decide), h.dur.apart h.new (by decide), fun a ha => ⟨h.blk.apart_own h.pen (by decide) a ha, h.dur.apart_own h.pen (by decide) a ha, h.new.apart_own h.pen (by decide) a ha⟩⟩
/-- Nothing but the disk's own blocks has turned, and new ones have come. -/
structure Dfr (g gd gn : Nat) (A : Option Addr) (w w' : World) : Prop where
  os : w'.os = w.os
  tape : w'.tape = w.tape
  output : w'.output = w.output
  size : w.heap.size ≤ w'.heap.size
  other : ∀ k, k < w.heap.size → k ≠ g → k ≠ gd → k ≠ gn → (∀ a, A = some a → a.block ≠ k) → w'.heap[k]? = w.heap[k]?
theorem Dfr.refl (g gd gn : Nat) (A : Option Addr) (w : World) : Dfr g gd gn A w w := ⟨rfl, rfl, rfl, Nat.le_refl _, fun _ _ _ _ _ _ => rfl⟩
/-- The pending writes' block is as it was, or a new one. -/
def Newer (w : World) (A A' : Option Addr) : Prop := ∀ a', A' = some a' → (∃ a, A = some a ∧ a.block = a'.block) ∨ w.heap.size ≤ a'.block
theorem Newer.refl (w : World) (A : Option Addr) : Newer w A A := fun a' h => .inl ⟨a', h, rfl⟩
theorem Newer.trans {A A' A'' : Option Addr} {w w' : World} (h : Newer w A A') (k : Newer w' A' A'') (hs : w.heap.size ≤ w'.heap.size) : Newer w A A'' := fun a ha => by
  rcases k a ha with ⟨b, hb, e⟩ | h2
  · rcases h b hb with ⟨d, hd, e2⟩ | h3
    · exact .inl ⟨d, hd, e2.trans e⟩
    · exact .inr (by omega)
  · exact .inr (by omega)
theorem Dfr.trans {w w' w'' : World} {A A' : Option Addr} (h : Dfr g gd gn A w w') (k : Dfr g gd gn A' w' w'') (hn : Newer w A A') : Dfr g gd gn A w w'' :=
  ⟨k.os.trans h.os, k.tape.trans h.tape, k.output.trans h.output, Nat.le_trans h.size k.size, fun b hb h1 h2 h3 h4 => (k.other b (Nat.lt_of_lt_of_le hb h.size) h1 h2 h3 (fun a ha e => by
    rcases hn a ha with ⟨d, hd, e2⟩ | h5
    · exact h4 d hd (e2.trans e)
    · omega)).trans (h.other b hb h1 h2 h3 h4)⟩
theorem Dfr.ext (hx : Ext w w') : Dfr g gd gn A w w' := ⟨hx.os, hx.tape, hx.output, hx.size, fun k hk _ _ _ _ => Below.block hx k hk⟩
theorem Dfr.cell (i : Nat) (v : Value) : Dfr g gd gn A w (w.setCell ⟨g, i, none⟩ v) := ⟨rfl, rfl, rfl, by simp, fun k _ h1 _ _ _ => Below.heap_setCell w _ v k h1⟩
/-- What a call leaves. -/
def DPost (B g gd gn : Nat) (w : World) (A : Option Addr) (r : Value) (D' : Dk) (e : Ending) (w' : World) : Prop := ∃ A' c', e = .returned r ∧ DiskAt B w' g gd gn A' c' D' ∧ Dfr g gd gn A w w' ∧ Newer w A A'
theorem DiskAt.ext (h : DiskAt B w g gd gn A c D) (hx : Ext w w') : DiskAt B w' g gd gn A c D :=
  ⟨h.blk.ext hx, h.dur.ext hx, h.new.ext hx, by
    refine ⟨h.pen.1, ?_⟩
    rcases h.pen.2 with hn | ⟨g', cap, cur, hv, hb, hg, rest⟩
    · exact .inl hn
    · exact .inr ⟨g', cap, cur, hv, hb, (Below.block hx g' (Array.getElem?_eq_some_iff.1 hg).1).trans hg, rest⟩, h.base⟩
theorem ownsRow_far {w w' : World} {B t size n c : Nat} {A : Option Addr} {xs : List Value} (h : w.ownsRow B t size (.slice A n c) n xs) (hk : ∀ a, A = some a → w'.heap[a.block]? = w.heap[a.block]?) : w'.ownsRow B t size (.slice A n c) n xs := by
  refine ⟨h.1, ?_⟩
  rcases h.2 with hn | ⟨g', cap, cur, hv, hb, hg, rest⟩
  · exact .inl hn
  · refine .inr ⟨g', cap, cur, hv, hb, ?_, rest⟩
    injection hv with hA
    rw [hk _ hA]
    exact hg
/-- A field written. -/
theorem DiskAt.put (h : DiskAt B w g gd gn A c D) (i : Nat) (v : Value) (D' : Dk) (hd : D'.dur = D.dur) (hp : D'.pen = D.pen) (hl : (diskC gd gn A c D).set i v = diskC gd gn A c D') : DiskAt B (w.setCell ⟨g, i, none⟩ v) g gd gn A c D' := by
  obtain ⟨n1, n2, n3, n4⟩ := h.ne
  refine ⟨by rw [← hl]; exact h.blk.set i v, by rw [hd]; exact h.dur.far (fun e => n1 e.symm) v, by rw [hd, hp]; exact h.new.far (fun e => n2 e.symm) v, ?_, h.base⟩
  rw [hp]
  exact ownsRow_far h.pen fun a ha => Below.heap_setCell w ⟨g, i, none⟩ v a.block (n4 a ha).1
end
end Go.Proofs.Ytmabminjmcjafaa
