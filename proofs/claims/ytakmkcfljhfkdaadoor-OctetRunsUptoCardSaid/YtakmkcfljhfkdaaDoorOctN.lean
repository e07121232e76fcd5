/-
  The calls of layer 2 on numbers, and the document's own: what they hand back.
-/
import Derived.Test.YtakmkcfljhfkdaaDoorOctP
namespace Go.Proofs.YtakmkcfljhfkdaaDoor
open Go.RowKit

set_option maxHeartbeats 400000 in
theorem uint_any (u : Int) (w : World) (h0 : 0 ≤ u) (h1 : u < 18446744073709551616) :
    Calls Tryd.prog 13 #[.int .u64 u] w (Ret w (Bytes (be64 u))) := by
  have hmk : ∀ w, (Instr.makeSlice 27 (.int .i64 8) (.int .i64 8)).run Tryd.prog w = .ok (.slice (some ⟨w.heap.size, 0, none⟩) 8 8) (w.alloc (.cells #[.int .u8 0, .int .u8 0, .int .u8 0, .int .u8 0, .int .u8 0, .int .u8 0, .int .u8 0, .int .u8 0] 5)) := fun _ => by kernel_rfl
  go_enter Tryd.func13, Tryd.ntmps13
  go_wp2
  go_rounds 9
  go_ret
  exact Ret.mk (Ext.alloc _ _) (Bytes.new _ _ _ _ (by rw [be64_cells u h0 h1]) rfl (Nat.le_refl _))

set_option maxHeartbeats 400000 in
theorem ruint_any (u : Int) (w : World) (h0 : 0 ≤ u) (h1 : u < 18446744073709551616) :
    Calls Tryd.prog 16 #[.int .u64 u] w (Ret w (Bytes (be64 u))) := by
  go_enter Tryd.func16, Tryd.ntmps16
  go_wp2
  refine wp_loop_rounds 9 ?_
  have hown : Own w w.heap.size (.slice none 0 0) [] := Own.nil _ _
  have hb : Below w.heap.size w w := Below.refl _ _
  iterate 8
    rw [rounds_succ]
    go_wp2_with (at_builtin; refine wpList_push rfl (.tmp 9) (.tmp 15) rfl w.heap.size _ _ rfl rfl (by assumption) (by omega) (by omega) (Below.size hb) (by simp) ?_; intro v1 w1 hown1 hb1; replace hb := Below.trans hb hb1; clear hb1)
  rw [rounds_succ]
  go_wp2
  go_ret
  refine Ret.mk hb ?_
  have e : be64 u = [] ++ [b8 (u / 72057594037927936)] ++ [b8 (u / 281474976710656 % 256)] ++ [b8 (u / 1099511627776 % 256)] ++ [b8 (u / 4294967296 % 256)] ++
      [b8 (u / 16777216 % 256)] ++ [b8 (u / 65536 % 256)] ++ [b8 (u / 256 % 256)] ++ [b8 (u % 256)] := by
    have e : u / 72057594037927936 % 256 = u / 72057594037927936 := by omega
    simp [be64, e]
  rw [e]
  exact Own.bytes (by assumption)

/-- The eight bytes of a signed number. -/
def ord64 (n : Int) : List UInt8 := be64 (n + 9223372036854775808)
theorem wrap_half (n : Int) (h0 : -9223372036854775808 ≤ n) (h1 : n < 9223372036854775808) : IntKind.u64.wrap (IntKind.u64.wrap n + 9223372036854775808) = n + 9223372036854775808 := by
  simp only [IntKind.wrap_u64]; omega

set_option maxHeartbeats 400000 in
theorem int_any (n : Int) (w : World) (h0 : -9223372036854775808 ≤ n) (h1 : n < 9223372036854775808) :
    Calls Tryd.prog 15 #[.int .i64 n] w (Ret w (Bytes (ord64 n))) := by
  go_enter Tryd.func15, Tryd.ntmps15
  go_wp2_with (go_at_call 13; rw [wrap_half n h0 h1]; refine (uint_any _ _ (by omega) (by omega)).mono ?_; rintro e w1 ⟨v, rfl, hx, hv⟩)
  go_ret
  exact Ret.mk hx hv

set_option maxHeartbeats 400000 in
theorem rint_any (n : Int) (w : World) (h0 : -9223372036854775808 ≤ n) (h1 : n < 9223372036854775808) :
    Calls Tryd.prog 17 #[.int .i64 n] w (Ret w (Bytes (ord64 n))) := by
  go_enter Tryd.func17, Tryd.ntmps17
  go_wp2_with (go_at_call 16; rw [wrap_half n h0 h1]; refine (ruint_any _ _ (by omega) (by omega)).mono ?_; rintro e w1 ⟨v, rfl, hx, hv⟩)
  go_ret
  exact Ret.mk hx hv

/-- What reading a number gives: the value, the place behind it, the error's number. -/
def rdNum (l : List UInt8) (at_ : Int) : Int × Int × Int :=
  if at_ < 0 ∨ (l.length : Int) < at_ then (0, 0, 1) else if (l.length : Int) < at_ + 8 then (0, 0, 3) else (num ((l.drop at_.toNat).take 8), at_ + 8, 0)
def Three (k : IntKind) (x : Int × Int × Int) (w : World) (e : Ending) (w' : World) : Prop := e = .returned (.tuple #[.int k x.1, .int .i64 x.2.1, .int .i64 x.2.2]) ∧ w = w'

set_option maxHeartbeats 400000 in
theorem readUint_any (A : Option Addr) (c : Nat) (l : List UInt8) (at_ : Int) (w : World) (hr : Rd w A l) (hl : l.length ≤ 140737488355328) (ha : at_ ≤ 9223372036854775807) :
    Calls Tryd.prog 12 #[.slice A l.length c, .int .i64 at_] w (Three .u64 (rdNum l at_) w) := by
  by_cases h1 : at_ < 0 ∨ (l.length : Int) < at_
  · have e : rdNum l at_ = (0, 0, 1) := by unfold rdNum; rw [if_pos h1]
    rw [e]
    rcases h1 with h1 | h1
    · go_enter Tryd.func12, Tryd.ntmps12
      go_wp2
      go_ret3
      exact ⟨rfl, rfl⟩
    · have h0 : 0 ≤ at_ := by omega
      go_enter Tryd.func12, Tryd.ntmps12
      go_wp2
      go_ret3
      exact ⟨rfl, rfl⟩
  · obtain ⟨k, rfl⟩ := Int.eq_ofNat_of_zero_le (show 0 ≤ at_ by omega)
    have hk : k ≤ l.length := by omega
    by_cases h2 : (l.length : Int) < (k : Int) + 8
    · have e : rdNum l (k : Int) = (0, 0, 3) := by unfold rdNum; rw [if_neg h1, if_pos h2]
      rw [e]
      clear h1
      have h3 : (l.length : Int) - (k : Int) < 8 := by omega
      go_enter Tryd.func12, Tryd.ntmps12
      go_wp2
      go_ret3
      exact ⟨rfl, rfl⟩
    · have e : rdNum l (k : Int) = (num ((l.drop k).take 8), (k : Int) + 8, 0) := by unfold rdNum; rw [if_neg h1, if_neg h2, Int.toNat_natCast]
      rw [e]
      clear h1
      have h3 : 8 ≤ (l.length : Int) - (k : Int) := by omega
      go_enter Tryd.func12, Tryd.ntmps12
      go_wp2
      go_loop [7, 8, 22] (fun u _ c => ∃ j : Nat, j ≤ 8 ∧ c = .int .i64 j ∧ u = .int .u64 (num ((l.drop k).take j))) (fun _ _ c => 8 - (intOf c).toNat)
      case atStart => exact ⟨0, Nat.zero_le _, rfl, rfl⟩
      case round =>
        obtain ⟨j, hj, rfl, rfl⟩ := hrel
        by_cases hlt : j < 8
        · obtain ⟨b, off, x, rfl, hx, hc⟩ := hr.at (k := k + j) (by omega)
          have hb := (num_bound ((l.drop k).take j)).1
          go_wp2
          refine ⟨⟨j + 1, by omega, by go_num, ?_⟩, by simp [intOf]; omega⟩
          have hb2 := num_take_lt (l.drop k) j (by omega)
          have hx2 := x.toNat_lt
          rw [or_byte _ _ hb hb2 (by omega) (by omega), num_step l k j x hx]
        · obtain rfl : j = 8 := by omega
          go_wp2
          go_ret3
          exact ⟨rfl, rfl⟩

set_option maxHeartbeats 400000 in
theorem rreadUint_any (A : Option Addr) (c : Nat) (l : List UInt8) (at_ : Int) (w : World) (hr : Rd w A l) (hl : l.length ≤ 140737488355328) (ha : at_ ≤ 9223372036854775807) :
    Calls Tryd.prog 18 #[.slice A l.length c, .int .i64 at_] w (Three .u64 (rdNum l at_) w) := by
  by_cases h1 : at_ < 0 ∨ (l.length : Int) < at_
  · have e : rdNum l at_ = (0, 0, 1) := by unfold rdNum; rw [if_pos h1]
    rw [e]
    rcases h1 with h1 | h1
    · go_enter Tryd.func18, Tryd.ntmps18
      go_wp2
      go_ret3
      exact ⟨rfl, rfl⟩
    · have h0 : 0 ≤ at_ := by omega
      go_enter Tryd.func18, Tryd.ntmps18
      go_wp2
      go_ret3
      exact ⟨rfl, rfl⟩
  · obtain ⟨k, rfl⟩ := Int.eq_ofNat_of_zero_le (show 0 ≤ at_ by omega)
    have hk : k ≤ l.length := by omega
    by_cases h2 : (l.length : Int) < (k : Int) + 8
    · have e : rdNum l (k : Int) = (0, 0, 3) := by unfold rdNum; rw [if_neg h1, if_pos h2]
      rw [e]
      clear h1
      have h3 : (l.length : Int) - (k : Int) < 8 := by omega
      go_enter Tryd.func18, Tryd.ntmps18
      go_wp2
      go_ret3
      exact ⟨rfl, rfl⟩
    · have e : rdNum l (k : Int) = (num ((l.drop k).take 8), (k : Int) + 8, 0) := by unfold rdNum; rw [if_neg h1, if_neg h2, Int.toNat_natCast]
      rw [e]
      clear h1
      have h3 : 8 ≤ (l.length : Int) - (k : Int) := by omega
      go_enter Tryd.func18, Tryd.ntmps18
      go_wp2
      go_loop [7, 8] (fun u c => ∃ j : Nat, j ≤ 8 ∧ c = .int .i64 j ∧ u = .int .u64 (num ((l.drop k).take j))) (fun _ c => 8 - (intOf c).toNat)
      case atStart => exact ⟨0, Nat.zero_le _, rfl, rfl⟩
      case round =>
        obtain ⟨j, hj, rfl, rfl⟩ := hrel
        by_cases hlt : j < 8
        · obtain ⟨b, off, x, rfl, hx, hc⟩ := hr.at (k := k + j) (by omega)
          have hb := (num_bound ((l.drop k).take j)).1
          have hb2 := num_take_lt (l.drop k) j (by omega)
          have hx2 := x.toNat_lt
          go_wp2
          refine ⟨⟨j + 1, by omega, by go_num, ?_⟩, by simp [intOf]; omega⟩
          rw [num_step l k j x hx]
        · obtain rfl : j = 8 := by omega
          go_wp2
          go_ret3
          exact ⟨rfl, rfl⟩

end Go.Proofs.YtakmkcfljhfkdaaDoor
