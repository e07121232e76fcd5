/-
  Reading a signed number.
-/
import Derived.Test.YtakmkcfljhfkdaaDoorOctN
namespace Go.Proofs.YtakmkcfljhfkdaaDoor
open Go.RowKit

/-- What reading a signed number gives. -/
def rdOrd (l : List UInt8) (at_ : Int) : Int × Int × Int :=
  if (rdNum l at_).2.2 = 0 then ((rdNum l at_).1 - 9223372036854775808, (rdNum l at_).2.1, 0) else (0, 0, (rdNum l at_).2.2)
theorem rdNum_range (l : List UInt8) (at_ : Int) : 0 ≤ (rdNum l at_).1 ∧ (rdNum l at_).1 < 18446744073709551616 := by
  have h : 0 ≤ num ((l.drop at_.toNat).take 8) ∧ num ((l.drop at_.toNat).take 8) < 18446744073709551616 := num_take_lt8 _
  unfold rdNum
  split
  · exact ⟨by decide, by decide⟩
  · split
    · exact ⟨by decide, by decide⟩
    · exact h
theorem wrap_back (u : Int) (h0 : 0 ≤ u) (h1 : u < 18446744073709551616) : wrap64 (IntKind.u64.wrap (u - 9223372036854775808)) = u - 9223372036854775808 := by
  simp only [IntKind.wrap_u64, wrap64]; omega

set_option maxHeartbeats 400000 in
theorem readInt_any (A : Option Addr) (c : Nat) (l : List UInt8) (at_ : Int) (w : World) (hr : Rd w A l) (hl : l.length ≤ 140737488355328) (ha : at_ ≤ 9223372036854775807) :
    Calls Tryd.prog 14 #[.slice A l.length c, .int .i64 at_] w (Three .i64 (rdOrd l at_) w) := by
  obtain ⟨u0, u1⟩ := rdNum_range l at_
  have hcall := readUint_any A c l at_ w hr hl ha
  unfold rdOrd
  generalize rdNum l at_ = x at *
  obtain ⟨u, p, e⟩ := x
  simp only [] at *
  have H := hide hcall
  clear hcall
  by_cases he : e = 0
  · subst he
    rw [if_pos rfl]
    go_enter Tryd.func14, Tryd.ntmps14
    go_wp2_with (go_at_call 12; refine (H.out).mono ?_; rintro e w1 ⟨rfl, rfl⟩)
    rw [wrap_back u u0 u1]
    go_ret3
    exact ⟨rfl, rfl⟩
  · rw [if_neg he]
    have hb : (e != 0) = true := by simpa using he
    go_enter Tryd.func14, Tryd.ntmps14
    go_wp2_with (go_at_call 12; refine (H.out).mono ?_; rintro e w1 ⟨rfl, rfl⟩)
    go_ret3
    exact ⟨rfl, rfl⟩

set_option maxHeartbeats 400000 in
theorem rreadInt_any (A : Option Addr) (c : Nat) (l : List UInt8) (at_ : Int) (w : World) (hr : Rd w A l) (hl : l.length ≤ 140737488355328) (ha : at_ ≤ 9223372036854775807) :
    Calls Tryd.prog 19 #[.slice A l.length c, .int .i64 at_] w (Three .i64 (rdOrd l at_) w) := by
  obtain ⟨u0, u1⟩ := rdNum_range l at_
  have hcall := rreadUint_any A c l at_ w hr hl ha
  unfold rdOrd
  generalize rdNum l at_ = x at *
  obtain ⟨u, p, e⟩ := x
  simp only [] at *
  have H := hide hcall
  clear hcall
  by_cases he : e = 0
  · subst he
    rw [if_pos rfl]
    go_enter Tryd.func19, Tryd.ntmps19
    go_wp2_with (go_at_call 18; refine (H.out).mono ?_; rintro e w1 ⟨rfl, rfl⟩)
    rw [wrap_back u u0 u1]
    go_ret3
    exact ⟨rfl, rfl⟩
  · rw [if_neg he]
    have hb : (e != 0) = true := by simpa using he
    go_enter Tryd.func19, Tryd.ntmps19
    go_wp2_with (go_at_call 18; refine (H.out).mono ?_; rintro e w1 ⟨rfl, rfl⟩)
    go_ret3
    exact ⟨rfl, rfl⟩
end Go.Proofs.YtakmkcfljhfkdaaDoor
