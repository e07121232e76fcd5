/-
  Passwords: Strong's contract; the layer's own examples.
-/
import Derived.Test.YtmoknfcocohiiaaDoorNamC
namespace Go.Proofs.YtmoknfcocohiiaaDoor
open Go.RowKit

/-- bytealg.MaxLen holds a number. -/
def Mx (w : World) : Prop := ∃ m : Int, w.cell? ⟨2, 0, none⟩ = some (.int .i64 m)
theorem Mx.ext {w w' : World} (h : Mx w) (hx : Ext w w') : Mx w' := by
  obtain ⟨m, hm⟩ := h
  exact ⟨m, (Ext.keeps hx).cell hm⟩
theorem contains_any (s t : List UInt8) (w : World) (hs : s.length < 4294967281) (hM : Mx w) :
    Calls Tryd.prog 30 #[.string ⟨s.toArray⟩, .string ⟨t.toArray⟩] w fun e w' => e = .returned (.bool (Lib.contains s t)) ∧ w = w' := by
  obtain ⟨m, hm⟩ := hM
  exact (Tryd.strings_Contains ⟨s.toArray⟩ ⟨t.toArray⟩ m w (by show s.toArray.size < _; rw [List.size_toArray]; exact hs) hm).mono fun _ _ ⟨h1, h2⟩ => ⟨h1, h2.symm⟩
theorem count_any (s : ByteArray) (w : World) (hs : s.size ≤ 140737488355328) :
    Calls Tryd.prog 29 #[.string s] w (Ret w (Is (.int .i64 ((chs s.data.toList 0).length : Int)))) :=
  (Tryd.utf8_RuneCountInString s w (by omega)).mono fun e w' ⟨he, p, hp⟩ => ⟨_, he, by rw [hp]; exact Ext.alloc _ _, by rw [runeCount_chs]; rfl⟩
set_option maxRecDepth 100000 in
theorem and5 : ∀ a : Fin 32, bits .and .i64 ((a.val : Nat) : Int) (((a.val : Nat) : Int) - 1) = ((a.val &&& (a.val - 1) : Nat) : Int) := by decide +kernel
def oneB (m : Nat) : Bool := m &&& (m - 1) == 0
set_option maxRecDepth 20000 in
theorem oneKind_any (m : Nat) (w : World) (hm : m < 32) :
    Calls Tryd.prog 24 #[.int .i64 (m : Int)] w fun e w' => e = .returned (.bool (oneB m)) ∧ w = w' := by
  have ha := and5 ⟨m, hm⟩
  obtain ⟨q, HQ⟩ : ∃ q : Nat, Hid (m &&& (m - 1) = q) := ⟨_, hide rfl⟩
  have ha2 : bits .and .i64 (m : Int) ((m : Int) - 1) = (q : Int) := by rw [← HQ.out]; exact ha
  clear ha
  go_enter Tryd.func24, Tryd.ntmps24
  go_wp2
  all_goals
    go_ret
    refine ⟨ret_val (congrArg Value.bool ?_), rfl⟩
    unfold oneB
    rw [HQ.out, Bool.eq_iff_iff]
    simp

set_option maxRecDepth 20000 in
set_option maxHeartbeats 1000000 in
theorem tells_any (p n : ByteArray) (w : World) (hp : p.size < 4294967281) (hn : n.size ≤ 140737488355328) (hM : Mx w) :
    Calls Tryd.prog 25 #[.string p, .string n] w (Ret w (Is (.bool (tellsB p.data.toList n.data.toList)))) := by
  obtain ⟨c, HC⟩ : ∃ c : Nat, Hid ((chs n.data.toList 0).length = c) := ⟨_, hide rfl⟩
  obtain ⟨b, HB⟩ : ∃ b, Hid (Lib.contains (lowL p.data.toList) (lowL n.data.toList) = b) := ⟨_, rfl⟩
  obtain ⟨x, HX⟩ : ∃ x, Hid (lowL p.data.toList = x) := ⟨_, rfl⟩
  obtain ⟨y, HY⟩ : ∃ y, Hid (lowL n.data.toList = y) := ⟨_, rfl⟩
  obtain ⟨t, HT⟩ : ∃ t, Hid (tellsB p.data.toList n.data.toList = t) := ⟨_, rfl⟩
  have KC := hide fun W => count_any n W hn
  have KP := hide fun W => lowered_any p W (by omega)
  have KN := hide fun W => lowered_any n W hn
  have KB := hide fun W (h : Ext w W) => contains_any (lowL p.data.toList) (lowL n.data.toList) W (by rw [lowL_length, size_len]; exact hp) (hM.ext h)
  rw [HC.out] at KC
  rw [HX.out] at KP
  rw [HY.out] at KN
  rw [HB.out, HX.out, HY.out] at KB
  rw [HT.out]
  have HTT : Hid (t = (decide (3 ≤ c) && b)) := by
    rw [← HT.out, ← HC.out, ← HB.out]
    rfl
  clear hp hn
  by_cases h3 : 3 ≤ c
  · have h3i : (3 : Int) ≤ (c : Int) := by omega
    have HB2 : Hid (t = b) := by rw [HTT.out, decide_eq_true h3]; rfl
    clear h3
    go_enter Tryd.func25, Tryd.ntmps25
    go_wp2_with (first
      | (go_at_call 29; refine (KC.out _).mono ?_; rintro e w1 ⟨v1, rfl, hx1, rfl⟩)
      | (go_at_call 30; refine (KB.out _ (by assumption)).mono ?_; rintro e w4 ⟨rfl, rfl⟩)
      | (go_at_call 17; refine (KP.out _).mono ?_; rintro e w2 ⟨v2, rfl, hx2, rfl⟩; have hx3 := hx1.trans hx2; clear KP)
      | (go_at_call 17; refine (KN.out _).mono ?_; rintro e w3 ⟨v3, rfl, hx4, rfl⟩; have hx5 := hx3.trans hx4))
    go_ret
    exact Ret.mk hx5 (by rw [HB2.out]; rfl)
  · have h3i : ¬ (3 : Int) ≤ (c : Int) := by omega
    have HB2 : Hid (t = false) := by rw [HTT.out, decide_eq_false h3]; rfl
    clear h3
    go_enter Tryd.func25, Tryd.ntmps25
    go_wp2_with (first
      | (go_at_call 29; refine (KC.out _).mono ?_; rintro e w1 ⟨v1, rfl, hx1, rfl⟩))
    go_ret
    exact Ret.mk hx1 (by rw [HB2.out]; rfl)

theorem classS_lt (l : List UInt8) : (classS l).1 < 32 := by
  unfold classS
  split
  · exact kinds_lt _ _ (by decide)
  · decide
set_option maxRecDepth 20000 in
set_option maxHeartbeats 1000000 in
theorem strong_any (p n : ByteArray) (w : World) (hp : p.size < 4294967281) (hn : n.size ≤ 140737488355328) (hT : Tabs w) (hM : Mx w) :
    Calls Tryd.prog 15 #[.string p, .string n] w (Ret w (Is (.int .i64 ((strongS p.data.toList n.data.toList : Nat) : Int)))) := by
  have hlt := classS_lt p.data.toList
  have KC := hide (classes_any p w (by omega) hT)
  have KT := hide fun W (h : Ext w W) => tells_any p n W hp hn (hM.ext h)
  have HS : Hid (strongS p.data.toList n.data.toList = if (classS p.data.toList).2.2 = false then 4 else if 32 < (classS p.data.toList).2.1 then 2
    else if (classS p.data.toList).2.1 < 8 then 5 else if Nat.land (classS p.data.toList).1 ((classS p.data.toList).1 - 1) = 0 then 5 else if tellsB p.data.toList n.data.toList then 5 else 0) := rfl
  obtain ⟨R, HR⟩ : ∃ R, Hid (strongS p.data.toList n.data.toList = R) := ⟨_, rfl⟩
  rw [HR.out] at HS ⊢
  obtain ⟨t, HTT⟩ : ∃ t, Hid (tellsB p.data.toList n.data.toList = t) := ⟨_, rfl⟩
  rw [HTT.out] at KT HS
  generalize classS p.data.toList = C at *
  obtain ⟨m, c, b⟩ := C
  simp only at hlt HS
  have KO := hide fun W => oneKind_any m W hlt
  unfold classV at KC
  simp only at KC
  cases b with
  | false =>
    have HL : Hid (R = 4) := HS.out
    clear hp hn hlt
    go_enter Tryd.func15, Tryd.ntmps15
    go_wp2_with (go_at_call 12; refine KC.out.mono ?_; rintro e w1 ⟨v1, rfl, hx1, rfl⟩)
    go_ret
    exact Ret.mk hx1 (by rw [HL.out]; rfl)
  | true =>
    by_cases h32 : 32 < c
    · have HL : Hid (R = 2) := by have := HS.out; rw [if_neg (by simp), if_pos h32] at this; exact this
      have h32i : (32 : Int) < (c : Int) := by omega
      clear hp hn hlt h32
      go_enter Tryd.func15, Tryd.ntmps15
      go_wp2_with (go_at_call 12; refine KC.out.mono ?_; rintro e w1 ⟨v1, rfl, hx1, rfl⟩)
      go_ret
      exact Ret.mk hx1 (by rw [HL.out]; rfl)
    · have h32i : (c : Int) ≤ 32 := by omega
      have HS2 : Hid (R = if c < 8 then 5 else if Nat.land m (m - 1) = 0 then 5 else if t then 5 else 0) := by have := HS.out; rw [if_neg (by simp), if_neg h32] at this; exact this
      clear HS
      by_cases h8 : c < 8
      · have h8i : (c : Int) < 8 := by omega
        have HL : Hid (R = 5) := by have := HS2.out; rw [if_pos h8] at this; exact this
        clear hp hn hlt h32 h8
        go_enter Tryd.func15, Tryd.ntmps15
        go_wp2_with (go_at_call 12; refine KC.out.mono ?_; rintro e w1 ⟨v1, rfl, hx1, rfl⟩)
        go_ret
        exact Ret.mk hx1 (by rw [HL.out]; rfl)
      · have h8i : (8 : Int) ≤ (c : Int) := by omega
        cases hone : oneB m with
        | true =>
          have HL : Hid (R = 5) := by have := HS2.out; rw [if_neg h8, if_pos (by unfold oneB at hone; simpa using hone)] at this; exact this
          rw [hone] at KO
          clear hp hn hlt h32 h8 hone
          go_enter Tryd.func15, Tryd.ntmps15
          go_wp2_with (first
            | (go_at_call 12; refine KC.out.mono ?_; rintro e w1 ⟨v1, rfl, hx1, rfl⟩)
            | (go_at_call 24; refine (KO.out _).mono ?_; rintro e w2 ⟨rfl, rfl⟩))
          go_ret
          exact Ret.mk hx1 (by rw [HL.out]; rfl)
        | false =>
          have HL : Hid (R = if t then 5 else 0) := by have := HS2.out; rw [if_neg h8, if_neg (by unfold oneB at hone; simpa using hone)] at this; exact this
          rw [hone] at KO
          clear hp hn hlt h32 h8 hone HS2
          cases t
          all_goals
            go_enter Tryd.func15, Tryd.ntmps15
            go_wp2_with (first
              | (go_at_call 12; refine KC.out.mono ?_; rintro e w1 ⟨v1, rfl, hx1, rfl⟩)
              | (go_at_call 24; refine (KO.out _).mono ?_; rintro e w2 ⟨rfl, rfl⟩)
              | (go_at_call 25; refine (KT.out _ hx1).mono ?_; rintro e w3 ⟨v3, rfl, hx3, rfl⟩))
            go_ret
            exact Ret.mk (hx1.trans hx3) (by rw [HL.out]; rfl)
end Go.Proofs.YtmoknfcocohiiaaDoor
