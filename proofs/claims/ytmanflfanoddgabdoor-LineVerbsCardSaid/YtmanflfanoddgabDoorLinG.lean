/-
  Lines: Parse and Write by what they come to.
-/
import Derived.Test.YtmanflfanoddgabDoorLinF
namespace Go.Proofs.YtmanflfanoddgabDoor
open Go.RowKit

theorem parse_is {s : ByteArray} {v : Int} {t : List (List UInt8)} {p e : Nat} (h : parseS s.data.toList = (v, t, p, e)) (w : World) (hs : s.size ≤ 140737488355328) (hT : Tabs w) (hV : TabV w) :
    Calls Tryd.prog 10 #[.string s] w (Ret w fun w' x => ∃ A c, x = .tuple #[.agg #[.int .u8 v, .slice A t.length c], .int .i64 (p : Int), .int .i64 (e : Int)] ∧ RdV w' A (tvs t)) :=
  (parse_any s w hs hT hV).mono fun _ _ ⟨x, he, hx, hv⟩ => by
    refine ⟨x, he, hx, ?_⟩
    unfold ParseV at hv
    rw [h] at hv
    obtain ⟨v0, rfl, v1, rfl, A, c, rfl, _, hr⟩ := hv
    exact ⟨A, c, rfl, hr⟩
theorem write_is {v : Int} {args : List (List UInt8)} {out : List UInt8} {e : Nat} (h : writeS v args = (out, e)) {ob : ByteArray} (ho : (⟨out.toArray⟩ : ByteArray) = ob) (A : Option Addr) (c : Nat) (w : World) (hA : RdV w A (tvs args)) (hz : ∀ x ∈ args, x.length ≤ 1048576) (hT : Tabs w) (hV : TabV w) :
    Calls Tryd.prog 11 #[.agg #[.int .u8 v, .slice A args.length c]] w (Ret w (Is (.tuple #[.string ob, .int .i64 (e : Int)]))) := by
  have k := write_any v args A c w hA hz hT hV
  rw [h] at k
  simp only at k
  rw [ho] at k
  exact k
theorem writeS_small {v : Int} {args : List (List UInt8)} {out : List UInt8} {e : Nat} (h : writeS v args = (out, e)) : out.length ≤ 300 := by
  unfold writeS at h
  split at h
  · injection h with h _; subst h; simp
  · split at h
    · split at h
      · split at h
        · injection h with h _; subst h; simp
        · injection h with h _; subst h; omega
      · injection h with h _; subst h; simp
    · injection h with h _; subst h; simp

theorem bytes_small {out : List UInt8} {ob : ByteArray} (h : (⟨out.toArray⟩ : ByteArray) = ob) (hl : out.length ≤ 300) : ob.size ≤ 140737488355328 := by
  rw [← h]
  show out.toArray.size ≤ _
  rw [List.size_toArray]
  omega
end Go.Proofs.YtmanflfanoddgabDoor
