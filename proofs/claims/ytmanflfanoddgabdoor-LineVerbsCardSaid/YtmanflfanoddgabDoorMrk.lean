/-
  '[]byte(s)': a block of the call's own with a mark behind it, written in place.
-/
import Derived.Test.YtmanflfanoddgabDoorWds
namespace Go.Proofs.YtmanflfanoddgabDoor
open Go.RowKit

/-- Block g begins with the bytes l; it may be written. -/
def Mrk (w : World) (g : Nat) (l : List UInt8) : Prop := ∃ (m : List UInt8) (n : Nat), w.heap[g]? = some (.cells (bs (l ++ m)).toArray 5 (n, n + 1)) ∧ (l ++ m).length ≤ n
section
variable {w w' : World} {g : Nat} {l : List UInt8}
theorem Mrk.lt (h : Mrk w g l) : g < w.heap.size := by
  obtain ⟨m, n, h, _⟩ := h
  rcases Nat.lt_or_ge g w.heap.size with h' | h'
  · exact h'
  · rw [Array.getElem?_eq_none h'] at h; cases h
theorem Mrk.cell (h : Mrk w g l) {i : Nat} {x : UInt8} (hx : l[i]? = some x) : w.cell? ⟨g, i, none⟩ = some (.int .u8 (x.toNat : Int)) := by
  obtain ⟨m, n, h, _⟩ := h
  have hlt := (List.getElem?_eq_some_iff.1 hx).1
  rw [cell_of_row w g i _ _ (n, n + 1) h, List.getElem?_toArray, bs_get, List.getElem?_append_left hlt, hx]
  rfl
theorem Mrk.frozen (h : Mrk w g l) {i : Nat} (hi : i < l.length) : w.frozen? ⟨g, i, none⟩ = false := by
  obtain ⟨m, n, h, hn⟩ := h
  rw [List.length_append] at hn
  have : ¬ n ≤ i := by omega
  simp [World.frozen?, h, this]
theorem Mrk.set (h : Mrk w g l) {i : Nat} (hi : i < l.length) (n : Int) (h0 : 0 ≤ n) (h1 : n < 256) : Mrk (w.setCell ⟨g, i, none⟩ (.int .u8 n)) g (l.set i (b8 n)) := by
  obtain ⟨m, k, h, hk⟩ := h
  refine ⟨m, k, ?_, by simpa using hk⟩
  have e : (bs (l.set i (b8 n) ++ m)).toArray = (bs (l ++ m)).toArray.setIfInBounds i (.int .u8 n) := by
    rw [List.setIfInBounds_toArray]
    congr 1
    rw [← List.set_append_left _ _ hi]
    unfold bs
    rw [List.map_set, b8_toNat h0 h1]
  rw [e]
  simp [World.setCell, Array.getElem?_modify, h]
theorem Mrk.ext (h : Mrk w g l) (hx : Ext w w') : Mrk w' g l := by
  obtain ⟨m, n, h1, h2⟩ := id h
  exact ⟨m, n, (Below.block hx g h.lt).trans h1, h2⟩
theorem Mrk.far (h : Mrk w g l) {p : Addr} (hp : g ≠ p.block) (u : Value) : Mrk (w.setCell p u) g l := by
  obtain ⟨m, n, h1, h2⟩ := h
  exact ⟨m, n, (Below.heap_setCell w p u g hp).trans h1, h2⟩
theorem Mrk.rd (h : Mrk w g l) : Rd w (some ⟨g, 0, none⟩) l := fun _ => ⟨g, 0, rfl, fun j u hu => by rw [Nat.zero_add]; exact h.cell hu⟩
end
theorem set_mix {α : Type} (P S : List α) (k : Nat) (z : α) (hP : P[k]? = some z) (hS : k < S.length) : (P.take k ++ S.drop k).set k z = P.take (k + 1) ++ S.drop (k + 1) := by
  have hk : k < P.length := (List.getElem?_eq_some_iff.1 hP).1
  have hlen : (P.take k).length = k := by simp; omega
  rw [List.set_append_right _ _ (by omega), hlen, Nat.sub_self, List.drop_eq_getElem_cons hS, List.set_cons_zero, List.take_add_one, hP]
  simp
theorem keep_mix {α : Type} (P S : List α) (k : Nat) (z : α) (hP : P[k]? = some z) (hS : S[k]? = some z) : P.take k ++ S.drop k = P.take (k + 1) ++ S.drop (k + 1) := by
  obtain ⟨hk, hkz⟩ := List.getElem?_eq_some_iff.1 hS
  rw [List.drop_eq_getElem_cons hk, List.take_add_one, hP, hkz]
  simp
theorem get_mix {α : Type} (P S : List α) (k : Nat) (hP : k < P.length) : (P.take k ++ S.drop k)[k]? = S[k]? := by
  have hlen : (P.take k).length = k := by simp; omega
  rw [List.getElem?_append_right (by omega), hlen, Nat.sub_self, List.getElem?_drop]
  rfl
theorem row_bytes (s : ByteArray) (cap : Nat) : bytesRow s cap = (bs (s.data.toList ++ List.replicate (cap - s.size) 0)).toArray := by
  apply Array.ext'
  simp [bytesRow, bs]
theorem run_conv (s : ByteArray) (w : World) : ∃ c w', (convert 9 35 (.string s)).run Tryd.prog w = .ok (.slice (some ⟨w.heap.size, 0, none⟩) s.size c) w' ∧ Mrk w' w.heap.size s.data.toList ∧ Ext w w' ∧ s.size ≤ c := by
  refine ⟨_, _, run_bytes_of_string w 9 35 5 s Tryd.underlying9 Tryd.underlying35 Tryd.underlying5, ?_, (Ext.drew w).trans (Ext.alloc _ _), ?_⟩
  · refine ⟨List.replicate (grownCap w s.size 0 5 - s.size) 0, (bytesRow s (grownCap w s.size 0 5)).size, ?_, ?_⟩
    · rw [← row_bytes]
      exact heap_alloc_new w.drew _
    · rw [row_bytes, List.size_toArray, bs_length]
      exact Nat.le_refl _
  · exact grownCap_ge w s.size 0 5
section
variable {ops : Array Oper} {rest : List Oper} {o : Oper} {a : Act} {Q : Exit → Act → World → Prop} {w : World}
/-- '[]byte(s)'. -/
theorem wpList_conv (hgd : Region.wanted o (yielded ops a.tmps) = true) (x : Operand) (ho : o.op = .convert 9 35 x) (s : ByteArray) (hx : a.eval x = .string s)
    (h : ∀ c w', Mrk w' w.heap.size s.data.toList → Ext w w' → s.size ≤ c → wpList Tryd.prog ops Q rest (a.put o.dst (.slice (some ⟨w.heap.size, 0, none⟩) s.size c)) w') : wpList Tryd.prog ops Q (o :: rest) a w := by
  obtain ⟨c, w', hrun, h1, h2, h3⟩ := run_conv s w
  refine wpList_wanted hgd fun K hK => ?_
  unfold Oper.wp
  have he : (execOp a.eval o).run Tryd.prog w = .ok (.value (.slice (some ⟨w.heap.size, 0, none⟩) s.size c)) w' := by simp [execOp, ho, hx, hrun]
  rw [he]
  exact hK _ _ (h c w' h1 h2 h3)
end
end Go.Proofs.YtmanflfanoddgabDoor
