/-
  Kinds of characters, letters: contracts of naming's small functions, and of the document's own.
-/
import Derived.Test.YtmoknfcocohiiaaDoorMrk
import Derived.Test.YtmoknfcocohiiaaDoorNamP
import Derived.Test.YtmoknfcocohiiaaDoorMade
namespace Go.Proofs.YtmoknfcocohiiaaDoor
open Go.RowKit

theorem ret_val {u v : Value} (h : u = v) : Ending.returned u = .returned v := by rw [h]
theorem kd_at {r n : Nat} (z : Int) (h : kd r = n) (hz : z = ((2 ^ n : Nat) : Int)) : Ending.returned (.int .i64 z) = .returned (.int .i64 ((2 ^ kd r : Nat) : Int)) := by rw [h, hz]
set_option maxRecDepth 20000 in
set_option maxHeartbeats 1000000 in
theorem kindOf_any (r : Nat) (w : World) :
    Calls Tryd.prog 22 #[.int .i32 (r : Int)] w fun e w' => e = .returned (.int .i64 ((2 ^ kd r : Nat) : Int)) ∧ w = w' := by
  go_enter Tryd.func22, Tryd.ntmps22
  go_wp2
  all_goals
    go_ret
    refine ⟨?_, rfl⟩
    first
      | exact kd_at (n := 0) _ (by unfold kd; (repeat' split) <;> omega) rfl
      | exact kd_at (n := 1) _ (by unfold kd; (repeat' split) <;> omega) rfl
      | exact kd_at (n := 2) _ (by unfold kd; (repeat' split) <;> omega) rfl
      | exact kd_at (n := 3) _ (by unfold kd; (repeat' split) <;> omega) rfl
      | exact kd_at (n := 4) _ (by unfold kd; (repeat' split) <;> omega) rfl
set_option maxRecDepth 20000 in
set_option maxHeartbeats 1000000 in
theorem ofName_any (r : Nat) (w : World) :
    Calls Tryd.prog 16 #[.int .i32 (r : Int)] w fun e w' => e = .returned (.bool (nameOk r)) ∧ w = w' := by
  go_enter Tryd.func16, Tryd.ntmps16
  go_wp2
  all_goals
    go_ret
    refine ⟨ret_val (congrArg Value.bool ?_), rfl⟩
    unfold nameOk
    first
      | (rw [if_pos (by omega), Bool.eq_iff_iff]; simp; omega)
      | (rw [if_neg (by omega), Bool.eq_iff_iff]; simp; omega)
theorem size_len (s : ByteArray) : s.data.toList.length = s.size := by rw [Array.length_toList]; rfl
theorem lowB_eq {x : UInt8} (h : 65 ≤ x.toNat) (h2 : x.toNat ≤ 90) : b8 ((x.toNat : Int) - 65 + 97) = lowB x := by
  apply UInt8.toNat_inj.1
  rw [lowB_nat]
  have := b8_toNat (n := (x.toNat : Int) - 65 + 97) (by omega) (by omega)
  unfold smallR
  rw [if_pos ⟨h, h2⟩]
  omega

set_option maxRecDepth 20000 in
set_option maxHeartbeats 1000000 in
theorem lowered_any (s : ByteArray) (w : World) (hs : s.size ≤ 140737488355328) :
    Calls Tryd.prog 17 #[.string s] w (Ret w (Is (.string ⟨(lowL s.data.toList).toArray⟩))) := by
  obtain ⟨l, HL⟩ : ∃ l, Hid (s.data.toList = l) := ⟨_, rfl⟩
  have hsz : l.length = s.size := by rw [← HL.out]; exact size_len s
  obtain ⟨n, HN⟩ : ∃ n, Hid (s.size = n) := ⟨_, rfl⟩
  rw [HN.out] at hsz hs
  rw [HL.out]
  have HLN := hide hsz
  clear hsz
  go_enter Tryd.func17, Tryd.ntmps17
  go_wp2_with (refine wpList_conv rfl (.tmp 6) rfl s rfl ?_; intro c1 w1 hm hx1 hc1; rw [HL.out] at hm; rw [HN.out] at hc1 ⊢)
  go_loopw [4, 5, 10] (fun _ _ i wr => ∃ k : Nat, k ≤ n ∧ i = .int .i64 k ∧ Mrk wr w.heap.size ((lowL l).take k ++ l.drop k) ∧ Ext w wr) (fun _ _ i _ => n - (intOf i).toNat)
  case atStart => exact ⟨0, Nat.zero_le _, rfl, hm, hx1⟩
  case round =>
    clear hm hx1
    obtain ⟨k, hk, rfl, hb, hx⟩ := hrel
    by_cases hlt : k < n
    · have hlt2 : (k : Int) < (n : Int) := by omega
      have hkl : k < l.length := by rw [HLN.out]; exact hlt
      obtain ⟨x, hxk⟩ : ∃ x, l[k]? = some x := ⟨_, List.getElem?_eq_getElem hkl⟩
      have hxx : (lowL l)[k]? = some (lowB x) := by simp [lowL, hxk]
      have hx2 := x.toNat_lt
      have hcx := hb.cell (i := k) (x := x) (by rw [get_mix _ _ _ (by rw [lowL_length]; exact hkl)]; exact hxk)
      have hfx := hb.frozen (i := k) (by simp [lowL_length]; omega)
      have HB := hide hb
      have HX := hide hxk
      have HXX := hide hxx
      clear hb hxk hxx
      have hbig : k < ((lowL l).take k ++ l.drop k).length := by simp [lowL_length]; omega
      have HBIG := hide hbig
      clear hbig
      go_wp2
      · have h1 : (65 : Int) ≤ (x.toNat : Int) := by assumption
        have h2 : (x.toNat : Int) ≤ 90 := by assumption
        refine ⟨⟨k + 1, by omega, by go_num, ?_, Below.set hx (Nat.le_refl _) _⟩, by simp [intOf]; omega⟩
        have := HB.out.set HBIG.out ((x.toNat : Int) - 65 + 97) (by omega) (by omega)
        rw [lowB_eq (by omega) (by omega), set_mix _ _ _ _ HXX.out hkl] at this
        exact this
      all_goals
        have hno : ¬ (65 ≤ x.toNat ∧ x.toNat ≤ 90) := by omega
        refine ⟨⟨k + 1, by omega, by go_num, ?_, hx⟩, by simp [intOf]; omega⟩
        have e : lowB x = x := by unfold lowB; rw [if_neg hno]
        have h3 := HXX.out
        rw [e] at h3
        rw [← keep_mix _ _ _ _ h3 HX.out]
        exact HB.out
    · obtain rfl : k = n := by omega
      have hr := hb.rd
      rw [List.take_of_length_le (by rw [lowL_length, HLN.out]; exact Nat.le_refl _), List.drop_of_length_le (by rw [HLN.out]; exact Nat.le_refl _), List.append_nil] at hr
      have hby : Bytes (lowL l) wr (.slice (some ⟨w.heap.size, 0, none⟩) k c1) := ⟨_, _, by rw [lowL_length, HLN.out], by rw [lowL_length, HLN.out]; omega, hr⟩
      clear hb
      go_wp2_with (refine wpList_str rfl (.tmp 28) rfl (lowL l) hby ?_)
      go_ret
      exact Ret.mk hx rfl

set_option maxRecDepth 20000 in
set_option maxHeartbeats 1000000 in
theorem small_any (r : Nat) (w : World) (hr : r ≤ 1114111) :
    Calls Tryd.prog 20 #[.int .i32 (r : Int)] w fun e w' => e = .returned (.int .i32 ((smallR r : Nat) : Int)) ∧ w = w' := by
  have hw : IntKind.i32.wrap ((r : Int) + 32) = (r : Int) + 32 := by rw [IntKind.wrap_i32]; omega
  clear hr
  go_enter Tryd.func20, Tryd.ntmps20
  go_wp2
  all_goals
    go_ret
    refine ⟨ret_val ?_, rfl⟩
    first
      | (rw [show smallR r = r + 32 by unfold smallR; rw [if_pos (by omega)]]; congr 1)
      | (rw [show smallR r = r by unfold smallR; rw [if_neg (by omega)]]; rfl)
set_option maxRecDepth 20000 in
set_option maxHeartbeats 2000000 in
theorem named_any (r p : Nat) (b : Bool) (w : World) (hr : r ≤ 1114111) :
    Calls Tryd.prog 18 #[.agg #[.int .i32 (r : Int), .int .i64 (p : Int), .bool b]] w fun e w' => e = .returned (.bool (nameOk r)) ∧ Ext w w' := by
  obtain ⟨q, HQ⟩ : ∃ q, Hid (smallR r = q) := ⟨_, rfl⟩
  have KS := fun W => (by have := small_any r W hr; rw [HQ.out] at this; exact this : Calls Tryd.prog 20 #[.int .i32 (r : Int)] W fun e w' => e = .returned (.int .i32 (q : Int)) ∧ W = w')
  clear hr
  go_enter Tryd.func18, Tryd.ntmps18
  go_wp2_with (go_at_call 20; refine (KS _).mono ?_; rintro e w1 ⟨rfl, rfl⟩)
  all_goals
    go_ret
    refine ⟨ret_val (congrArg Value.bool ?_), Ext.alloc _ _⟩
    have h := HQ.out
    unfold smallR at h
    unfold nameOk
    split at h
    all_goals
      first
        | (rw [if_pos (by omega), Bool.eq_iff_iff]; simp; omega)
        | (rw [if_neg (by omega), Bool.eq_iff_iff]; simp; omega)
end Go.Proofs.YtmoknfcocohiiaaDoor
