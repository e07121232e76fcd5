/-
  Lines: a word as it is written: the program's contract.
-/
import Derived.Test.YtmanflfanoddgabDoorLinD
import Derived.Test.YtmanflfanoddgabDoorStr
namespace Go.Proofs.YtmanflfanoddgabDoor
open Go.RowKit

theorem get_fr {s : ByteArray} {k : Nat} (h : k < s.size) : s.data.toList[k]? = some (at8 s k) := by
  have e := fr_cons h
  unfold fr at e
  have : (s.data.toList.drop k)[0]? = some (at8 s k) := by rw [e]; rfl
  rwa [List.getElem?_drop, Nat.add_zero] at this
theorem escQ_snoc (l : List UInt8) (k : Nat) (b : UInt8) (h : l[k]? = some b) : escQ (l.take (k + 1)) = escQ (l.take k) ++ (if marked b then [92, b] else [b]) := by
  rw [List.take_add_one, h, escQ_append]
  simp [escQ]
theorem own_quote (w : World) : Own (w.alloc (.cells #[.int .u8 34] 5)) w.heap.size (.slice (some ⟨w.heap.size, 0, none⟩) 1 1) [34] := by
  refine ⟨rfl, .inr ⟨w.heap.size, 1, #[.int .u8 34], rfl, Nat.le_refl _, heap_alloc_new w _, Nat.le_refl _, by unfold maxLen; omega, rfl, rfl⟩⟩

set_option maxRecDepth 20000 in
set_option maxHeartbeats 4000000 in
theorem written_any (s : ByteArray) (w : World) (hs : s.size < 4294967281) :
    Calls Tryd.prog 25 #[.string s] w (Ret w (Is (.string ⟨(wordW s.data.toList).toArray⟩))) := by
  obtain ⟨n, HN⟩ : ∃ n, Hid (s.size = n) := ⟨_, rfl⟩
  obtain ⟨F, HF⟩ : ∃ F, Hid ((.string ⟨(wordW s.data.toList).toArray⟩ : Value) = F) := ⟨_, rfl⟩
  have hn := hs
  rw [HN.out] at hn
  rw [HF.out]
  obtain ⟨b, HB⟩ : ∃ b, Hid (s.data.toList.any special = b) := ⟨_, rfl⟩
  have KC := hide fun V => containsAny_any s V hs
  rw [HB.out] at KC
  have hemp : Hid (s.data.toList.isEmpty = decide (n = 0)) := by
    have := size_len s
    rw [HN.out] at this
    rw [Bool.eq_iff_iff, List.isEmpty_iff, decide_eq_true_iff, ← this]
    exact hide List.length_eq_zero_iff.symm
  clear hs
  by_cases hbare : n ≠ 0 ∧ b = false
  · obtain ⟨h0, rfl⟩ := hbare
    have HL : Hid (F = .string s) := by
      rw [← HF.out]
      unfold wordW bareB
      rw [hemp.out, HB.out, decide_eq_false h0]
      exact hide rfl
    have hne : s.toList.isEmpty = false := by
      rw [ByteArray.toList_eq, hemp.out, decide_eq_false h0]
    go_enter Tryd.func25, Tryd.ntmps25
    go_wp2_with (go_at_call 42; refine (KC.out _).mono ?_; rintro e w1 ⟨v1, rfl, hx1, rfl⟩)
    go_ret
    rw [HL.out]
    exact Ret.mk hx1 rfl
  · have HL : Hid (F = .string ⟨(34 :: (escQ s.data.toList ++ [34])).toArray⟩) := by
      rw [← HF.out]
      unfold wordW
      rw [if_neg]
      · exact hide rfl
      · unfold bareB
        rw [hemp.out, HB.out]
        intro h
        apply hbare
        simpa using h
    by_cases h0 : n = 0
    · have hne : s.toList.isEmpty = true := by rw [ByteArray.toList_eq, hemp.out, decide_eq_true h0]
      have hxw : Ext w w := Ext.refl w
      go_enter Tryd.func25, Tryd.ntmps25
      go_wp2
      go_loopw [3, 4, 16] (fun v _ i wr => ∃ k : Nat, k ≤ n ∧ i = .int .i64 k ∧ Own wr w.heap.size v (34 :: escQ (s.data.toList.take k)) ∧ Ext w wr) (fun _ _ i _ => n - (intOf i).toNat)
      case atStart => exact ⟨0, Nat.zero_le _, rfl, own_quote w, Ext.alloc _ _⟩
      case round =>
        obtain ⟨k, hk, rfl, hown, hx⟩ := hrel
        have hel : (escQ (s.data.toList.take k)).length ≤ 2 * k := Nat.le_trans (escQ_length _).2 (by have := List.length_take_le k s.data.toList; omega)
        have HO := hide hown
        clear hown
        by_cases hlt : k < n
        · exact absurd hlt (by omega)
        · obtain rfl : k = n := by omega
          have hki : ¬ (k : Int) < (s.size : Int) := by rw [HN.out]; omega
          go_wp2_with (first
            | (at_builtin; refine wpList_push rfl (.tmp 33) (.tmp 34) rfl w.heap.size _ _ rfl rfl HO.out (by omega) (by omega) (Ext.size hx) (by simp only [List.length_cons]; omega) ?_; intro v3 w3 hown3 hb3)
            | (refine wpList_str rfl (.tmp 35) rfl _ hown3.bytes ?_))
          go_ret
          refine Ret.mk (hxw.trans (Below.trans hx hb3)) ?_
          rw [HL.out]
          have e0 : s.data.toList = [] := List.isEmpty_iff.1 (by rw [hemp.out, decide_eq_true h0])
          rw [e0]
          rfl
    · have hne : s.toList.isEmpty = false := by rw [ByteArray.toList_eq, hemp.out, decide_eq_false h0]
      obtain rfl : b = true := by
        cases b with
        | true => rfl
        | false => exact absurd ⟨h0, rfl⟩ hbare
      go_enter Tryd.func25, Tryd.ntmps25
      go_wp2_with (go_at_call 42; refine (KC.out _).mono ?_; rintro e w1 ⟨v1, rfl, hxw, rfl⟩)
      go_loopw [3, 4, 16] (fun v _ i wr => ∃ k : Nat, k ≤ n ∧ i = .int .i64 k ∧ Own wr w1.heap.size v (34 :: escQ (s.data.toList.take k)) ∧ Ext w1 wr) (fun _ _ i _ => n - (intOf i).toNat)
      case atStart => exact ⟨0, Nat.zero_le _, rfl, own_quote w1, Ext.alloc _ _⟩
      case round =>
        obtain ⟨k, hk, rfl, hown, hx⟩ := hrel
        have hel : (escQ (s.data.toList.take k)).length ≤ 2 * k := Nat.le_trans (escQ_length _).2 (by have := List.length_take_le k s.data.toList; omega)
        have HO := hide hown
        clear hown
        by_cases hlt : k < n
        · have hks : k < s.size := by rw [HN.out]; exact hlt
          have hki : (k : Int) < (s.size : Int) := by omega
          have he := nat_at hks
          have HES := hide (escQ_snoc s.data.toList k _ (get_fr hks))
          have h256 := (at8 s k).toNat_lt
          obtain ⟨m, HM⟩ : ∃ m, Hid (marked (at8 s k) = m) := ⟨_, rfl⟩
          have KM := hide fun W => isMarked_any (at8 s k) W
          rw [HM.out] at KM
          rw [HM.out] at HES
          cases m
          · go_wp2_with (first
              | (go_at_call 43; refine (KM.out _).mono ?_; rintro e w2 ⟨rfl, rfl⟩)
              | (at_builtin; refine wpList_push rfl (.tmp 26) (.tmp 30) rfl w1.heap.size _ _ rfl rfl HO.out (by omega) (by omega) (Ext.size hx) (by simp only [List.length_cons]; omega) ?_; intro v3 w3 hown3 hb3))
            refine ⟨⟨k + 1, by omega, by go_num, ?_, Below.trans hx hb3⟩, by simp [intOf]; omega⟩
            rw [HES.out]
            rw [b8_byte] at hown3
            exact hown3
          · go_wp2_with (first
              | (go_at_call 43; refine (KM.out _).mono ?_; rintro e w2 ⟨rfl, rfl⟩)
              | ((with_reducible show wpList _ _ _ (⟨some 25, _, _, _, _, _⟩ :: _) _ _); refine wpList_push rfl (.tmp 23) (.tmp 24) rfl w1.heap.size _ _ rfl rfl HO.out (by omega) (by omega) (Ext.size hx) (by simp only [List.length_cons]; omega) ?_; intro v3 w3 hown3 hb3; have hx3 : Ext w1 w3 := Below.trans hx hb3)
              | ((with_reducible show wpList _ _ _ (⟨some 31, _, _, _, _, _⟩ :: _) _ _); refine wpList_push rfl (.tmp 26) (.tmp 30) rfl w1.heap.size _ _ rfl rfl hown3 (by omega) (by omega) (Ext.size hx3) (by simp only [List.length_cons, List.length_append, List.length_nil]; omega) ?_; intro v4 w4 hown4 hb4))
            refine ⟨⟨k + 1, by omega, by go_num, ?_, Below.trans hx3 hb4⟩, by simp [intOf]; omega⟩
            rw [HES.out]
            rw [b8_byte] at hown4
            have e : (34 :: escQ (s.data.toList.take k) ++ [b8 92]) ++ [at8 s k] = 34 :: (escQ (s.data.toList.take k) ++ [92, at8 s k]) := by simp; rfl
            rw [e] at hown4
            exact hown4
        · obtain rfl : k = n := by omega
          have hki : ¬ (k : Int) < (s.size : Int) := by rw [HN.out]; omega
          go_wp2_with (first
            | (at_builtin; refine wpList_push rfl (.tmp 33) (.tmp 34) rfl w1.heap.size _ _ rfl rfl HO.out (by omega) (by omega) (Ext.size hx) (by simp only [List.length_cons]; omega) ?_; intro v3 w3 hown3 hb3)
            | (refine wpList_str rfl (.tmp 35) rfl _ hown3.bytes ?_))
          go_ret
          refine Ret.mk (hxw.trans (Below.trans hx hb3)) ?_
          rw [HL.out]
          have e : s.data.toList.take k = s.data.toList := List.take_of_length_le (by rw [size_len, HN.out]; exact Nat.le_refl _)
          rw [e]
          rfl
end Go.Proofs.YtmanflfanoddgabDoor
