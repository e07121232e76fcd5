/-
  Lines: characters as the document tells them, and which may stand: plain facts, and the document's own test.
-/
import Derived.Test.YtmanflfanoddgaaDoorLinW
import Derived.Test.YtmanflfanoddgaaDoorGive
namespace Go.Proofs.YtmanflfanoddgaaDoor
open Go.RowKit

def okC (c : Chr) : Bool := c.r != 65533 || c.n == 3
theorem bad_width (l : List UInt8) (h : (Lib.decodeL l).1 = 65533) : (Lib.decodeL l).2 = 1 ∨ (Lib.decodeL l).2 = 3 := by
  rw [Lib.decodeL_N] at h ⊢
  rcases Lib.decodeN_shape l.length (l.getD 0 0).toNat (l.getD 1 0).toNat (l.getD 2 0).toNat (l.getD 3 0).toNat with ⟨c, e⟩ | ⟨c1, c2, c3, cv, e⟩ | ⟨c1, c2, c3, c4, cv, cs, e⟩ | ⟨c1, c2, c3, c4, c5, cv, cw, e⟩ | e
  · rw [e]; left; rfl
  · rw [e] at h; simp only at h; omega
  · rw [e]; right; rfl
  · rw [e] at h; simp only at h; omega
  · rw [e]; left; rfl
theorem chr_at {w : World} {A : Option Addr} {l : List Chr} (h : RdC w A (chVs l)) {k : Nat} (hk : k < l.length) : ∃ b off c, A = some ⟨b, off, none⟩ ∧ l[k]? = some c ∧
    w.cell? ⟨b, off + k * 3, none⟩ = some (.int .i32 (c.r : Int)) ∧ w.cell? ⟨b, off + k * 3 + 1, none⟩ = some (.int .i64 (c.p : Int)) ∧ w.cell? ⟨b, off + k * 3 + 2, none⟩ = some (.bool (okC c)) := by
  have hl := chVs_length l
  obtain ⟨b, off, hA, hc⟩ := h (by intro e; rw [e] at hl; simp at hl; omega)
  have hx : l[k]? = some l[k] := List.getElem?_eq_getElem hk
  obtain ⟨h1, h2, h3⟩ := chVs_get l k _ hx
  have e1 := hc _ _ h1
  have e2 := hc _ _ h2
  have e3 := hc _ _ h3
  rw [Nat.mul_comm 3 k] at e1 e2 e3
  exact ⟨b, off, l[k], hA, hx, e1, by rw [Nat.add_assoc]; exact e2, by rw [Nat.add_assoc]; exact e3⟩
theorem chs_rune {l : List UInt8} {p k : Nat} {c : Chr} (h : (chs l p)[k]? = some c) : c.r ≤ 1114111 := by
  induction l using chs_ind generalizing p k with
  | h0 => simp [chs_nil] at h
  | h1 l hne ih =>
    rw [chs_step l p hne] at h
    cases k with
    | zero => simp at h; subst h; exact Lib.decodeL_rune l
    | succ k => exact ih (by simpa using h)

theorem okP_split (l : List UInt8) (p : Nat) : okP (Lib.decodeL l).1 (Lib.decodeL l).2 = (okC ⟨(Lib.decodeL l).1, p, (Lib.decodeL l).2⟩ && decide (32 ≤ (Lib.decodeL l).1) && decide ((Lib.decodeL l).1 ≠ 127)) := by
  have hb := bad_width l
  generalize (Lib.decodeL l).1 = r at *
  generalize (Lib.decodeL l).2 = n at *
  unfold okP okC
  by_cases hr : r = 65533
  · have := hb hr
    subst hr
    rcases this with rfl | rfl <;> rfl
  · rw [Bool.eq_iff_iff]
    simp [hr] <;> omega
set_option maxRecDepth 20000 in
set_option maxHeartbeats 1000000 in
theorem plain_any (r p : Nat) (ok : Bool) (w : World) :
    Calls Tryd.prog 73 #[.agg #[.int .i32 (r : Int), .int .i64 (p : Int), .bool ok]] w (Ret w (Is (.bool (ok && decide (32 ≤ r) && decide (r ≠ 127))))) := by
  cases ok
  all_goals
    go_enter Tryd.func73, Tryd.ntmps73
    go_wp2
  all_goals
    go_ret
    refine Ret.mk (Ext.alloc _ _) ?_
    show Value.bool _ = Value.bool _
    congr 1
    (try simp only [beq_iff_eq, beq_eq_false_iff_ne, ne_eq] at *)
    (try rw [Bool.eq_iff_iff])
    (try simp)
    try omega
/-- A character more, of the list and of the reader. -/
theorem chs_next {s : ByteArray} {L : List Chr} {k p : Nat} (h : L.drop k = chs (fr s p) p) (hk : k < L.length) :
    p < s.size ∧ L[k]? = some ⟨(Lib.decodeL (fr s p)).1, p, (Lib.decodeL (fr s p)).2⟩ ∧ L.drop (k + 1) = chs (fr s (p + (Lib.decodeL (fr s p)).2)) (p + (Lib.decodeL (fr s p)).2) ∧
      p + (Lib.decodeL (fr s p)).2 ≤ s.size ∧ 1 ≤ (Lib.decodeL (fr s p)).2 ∧ (k + 1 = L.length → p + (Lib.decodeL (fr s p)).2 = s.size) ∧
      (∀ c, L[k + 1]? = some c → c.p = p + (Lib.decodeL (fr s p)).2) := by
  have hp : p < s.size := by
    rcases Nat.lt_or_ge p s.size with h' | h'
    · exact h'
    · rw [fr_end h', chs_nil] at h
      have := congrArg List.length h
      rw [List.length_drop, List.length_nil] at this
      omega
  have hne := fr_ne hp
  have hw := Lib.decodeL_width (fr s p)
  have hle := Lib.decodeL_le _ hne
  rw [fr_len] at hle
  rw [chs_step _ _ hne, fr_drop] at h
  have h1 : L[k]? = some ⟨(Lib.decodeL (fr s p)).1, p, (Lib.decodeL (fr s p)).2⟩ := by
    have := congrArg (fun l => l[0]?) h
    simpa using this
  have h2 : L.drop (k + 1) = chs (fr s (p + (Lib.decodeL (fr s p)).2)) (p + (Lib.decodeL (fr s p)).2) := by
    have := congrArg (fun l => l.drop 1) h
    simpa [List.drop_drop] using this
  refine ⟨hp, h1, h2, by omega, by omega, fun he => ?_, fun c hc => ?_⟩
  · rw [List.drop_of_length_le (by omega)] at h2
    have := (chs_empty _ _).1 h2.symm
    have hl := fr_len s (p + (Lib.decodeL (fr s p)).2)
    rw [this, List.length_nil] at hl
    omega
  · have h3 : (L.drop (k + 1))[0]? = some c := by rw [List.getElem?_drop]; exact hc
    rw [h2] at h3
    cases hf : fr s (p + (Lib.decodeL (fr s p)).2) with
    | nil => rw [hf, chs_nil] at h3; simp at h3
    | cons b t =>
      rw [hf, chs_step _ _ (by simp)] at h3
      simp at h3
      rw [← h3]
theorem str_cat (a : List UInt8) (x : ByteArray) : (⟨a.toArray⟩ ++ x : ByteArray) = ⟨(a ++ x.data.toList).toArray⟩ := by
  apply ByteArray.ext
  apply Array.ext'
  simp
end Go.Proofs.YtmanflfanoddgaaDoor
