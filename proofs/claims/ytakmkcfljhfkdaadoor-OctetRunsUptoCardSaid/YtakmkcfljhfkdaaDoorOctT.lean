/-
  Texts as bytes: the call, and the document's own.
-/
import Derived.Test.YtakmkcfljhfkdaaDoorOctP
namespace Go.Proofs.YtakmkcfljhfkdaaDoor
open Go.RowKit

theorem take_next (s : ByteArray) (k : Nat) (h : k < s.size) : s.data.toList.take (k + 1) = s.data.toList.take k ++ [s[k]] := by
  rw [List.take_add_one]
  have : s.data.toList[k]? = some s[k] := by
    rw [Array.getElem?_toList]
    exact Array.getElem?_eq_getElem h
  rw [this]; rfl
theorem size_list (s : ByteArray) : s.data.toList.length = s.size := by rw [Array.length_toList]; rfl
theorem esc_one (b : UInt8) : esc [b] = if b = 0 then [0, 255] else [b] := by simp [esc]
theorem run_make_empty (c : Nat) (hc : c ≤ 281474976710656) (W : World) : (Instr.makeSlice 27 (.int .i64 0) (.int .i64 (c : Int))).run Tryd.prog W =
    .ok (.slice (some ⟨W.heap.size, 0, none⟩) 0 c) (W.alloc (.cells (madeCells #[.int .u8 0] c) 5)) := by
  obtain ⟨i0, hi, hz0, hz1, hz2⟩ := info_parts info_u8
  have h := run_make (P := Tryd.prog) W 27 5 i0 (.int .u8 0) Tryd.underlying27 hi hz0 .i64 .i64 0 (c : Int) (by omega) (by omega) (by rw [hz2]; omega) (by omega)
  simpa [hz1, Value.cells] using h
theorem Own.made (W : World) (base c : Nat) (hb : base ≤ W.heap.size) (hc : c ≤ 281474976710656) : Own (W.alloc (.cells (madeCells #[.int .u8 0] c) 5)) base (.slice (some ⟨W.heap.size, 0, none⟩) 0 c) [] :=
  World.ownsRow_made W _ c hb (by unfold maxLen; omega) (by simp [madeCells])

set_option maxHeartbeats 400000 in
theorem text_any (s : ByteArray) (w : World) (hs : s.size ≤ 35184372088832) :
    Calls Tryd.prog 22 #[.string s] w (Ret w (Bytes (text s.data.toList))) := by
  have hmk := fun W => run_make_empty (s.size + 2) (by omega) W
  rw [show ((s.size + 2 : Nat) : Int) = (s.size : Int) + 2 from by omega] at hmk
  go_enter Tryd.func22, Tryd.ntmps22
  go_wp2
  go_loopw [3, 4, 11] (fun v _ c wr => ∃ k : Nat, k ≤ s.size ∧ c = .int .i64 k ∧ Own wr w.heap.size v (esc (s.data.toList.take k)) ∧ Below w.heap.size w wr) (fun _ _ c _ => s.size - (intOf c).toNat)
  case atStart => exact ⟨0, Nat.zero_le _, rfl, Own.made _ _ _ (Nat.le_refl _) (by omega), (Below.refl _ _).alloc (Nat.le_refl _) _⟩
  case round =>
    obtain ⟨k, hk, rfl, hown, hb⟩ := hrel
    have hl : (esc (s.data.toList.take k)).length ≤ 2 * s.size := by
      have h1 := (esc_length (s.data.toList.take k)).2
      have h3 : (s.data.toList.take k).length ≤ s.size := by rw [← size_list]; exact List.length_take_le' _ _
      omega
    by_cases hlt : k < s.size
    · have hx := (s[k]).toNat_lt
      go_wp2_with (first
        | (at_builtin; refine wpList_push rfl (.tmp 14) (.tmp 18) rfl w.heap.size _ _ rfl rfl hown (by omega) (by omega) (Below.size hb) (by omega) ?_; intro v1 w1 hown1 hb1; have hb2 := Below.trans hb hb1)
        | (at_builtin; refine wpList_push rfl (.tmp 24) (.tmp 25) rfl w.heap.size _ _ rfl rfl hown1 (by omega) (by omega) (Below.size hb2) (by simp; omega) ?_; intro v2 w2 hown2 hb3; have hb4 := Below.trans hb2 hb3))
      · have hz : (((s[k]).toNat : Int) == 0) = true := by assumption
        have hz' : s[k] = 0 := by
          have : (s[k]).toNat = 0 := by simpa using hz
          exact UInt8.toNat_inj.1 this
        refine ⟨⟨k + 1, by omega, by go_num, ?_, hb4⟩, by simp [intOf]; omega⟩
        rw [take_next s k hlt, esc_append, esc_one, if_pos hz']
        rw [b8_byte, hz', show b8 255 = 255 from rfl] at hown2
        simpa using hown2
      · have hz : (((s[k]).toNat : Int) == 0) = false := by assumption
        have hz' : s[k] ≠ 0 := by
          intro e
          rw [e] at hz; simp at hz
        refine ⟨⟨k + 1, by omega, by go_num, ?_, hb2⟩, by simp [intOf]; omega⟩
        rw [take_next s k hlt, esc_append, esc_one, if_neg hz']
        rw [b8_byte] at hown1
        exact hown1
    · obtain rfl : k = s.size := by omega
      rw [List.take_of_length_le (by rw [size_list]; omega)] at hown hl
      go_wp2_with (at_builtin; refine wpList_cat rfl (.tmp 28) (.tmp 29) rfl w.heap.size _ _ [0, 1] _ _ _ rfl rfl rfl (hown.alloc _) (Rd.new wr _ [0, 1] []) ?_ ?_ ?_; simp; exact Nat.le_succ_of_le (Below.size hb); simp; omega; intro v1 w1 hown1 hb1)
      go_ret
      exact Ret.mk (Below.trans (hb.alloc (Below.size hb) _) hb1) hown1.bytes

set_option maxHeartbeats 400000 in
theorem rtext_any (s : ByteArray) (w : World) (hs : s.size ≤ 35184372088832) :
    Calls Tryd.prog 23 #[.string s] w (Ret w (Bytes (text s.data.toList))) := by
  go_enter Tryd.func23, Tryd.ntmps23
  go_wp2
  go_loopw [3, 4] (fun v c wr => ∃ k : Nat, k ≤ s.size ∧ c = .int .i64 k ∧ Own wr w.heap.size v (esc (s.data.toList.take k)) ∧ Below w.heap.size w wr) (fun _ c _ => s.size - (intOf c).toNat)
  case atStart => exact ⟨0, Nat.zero_le _, rfl, Own.nil _ _, Below.refl _ _⟩
  case round =>
    obtain ⟨k, hk, rfl, hown, hb⟩ := hrel
    have hl : (esc (s.data.toList.take k)).length ≤ 2 * s.size := by
      have h1 := (esc_length (s.data.toList.take k)).2
      have h3 : (s.data.toList.take k).length ≤ s.size := by rw [← size_list]; exact List.length_take_le' _ _
      omega
    by_cases hlt : k < s.size
    · have hx := (s[k]).toNat_lt
      go_wp2_with (first
        | (at_builtin; refine wpList_push rfl (.tmp 11) (.tmp 15) rfl w.heap.size _ _ rfl rfl hown (by omega) (by omega) (Below.size hb) (by omega) ?_; intro v1 w1 hown1 hb1; have hb2 := Below.trans hb hb1)
        | (at_builtin; refine wpList_push rfl (.tmp 21) (.tmp 22) rfl w.heap.size _ _ rfl rfl hown1 (by omega) (by omega) (Below.size hb2) (by simp; omega) ?_; intro v2 w2 hown2 hb3; have hb4 := Below.trans hb2 hb3))
      · have hz : (((s[k]).toNat : Int) == 0) = true := by assumption
        have hz' : s[k] = 0 := by
          have : (s[k]).toNat = 0 := by simpa using hz
          exact UInt8.toNat_inj.1 this
        refine ⟨⟨k + 1, by omega, by go_num, ?_, hb4⟩, by simp [intOf]; omega⟩
        rw [take_next s k hlt, esc_append, esc_one, if_pos hz']
        rw [b8_byte, hz', show b8 255 = 255 from rfl] at hown2
        simpa using hown2
      · have hz : (((s[k]).toNat : Int) == 0) = false := by assumption
        have hz' : s[k] ≠ 0 := by
          intro e
          rw [e] at hz; simp at hz
        refine ⟨⟨k + 1, by omega, by go_num, ?_, hb2⟩, by simp [intOf]; omega⟩
        rw [take_next s k hlt, esc_append, esc_one, if_neg hz']
        rw [b8_byte] at hown1
        exact hown1
    · obtain rfl : k = s.size := by omega
      rw [List.take_of_length_le (by rw [size_list]; omega)] at hown hl
      go_wp2_with (at_builtin; refine wpList_cat rfl (.tmp 24) (.tmp 25) rfl w.heap.size _ _ [0, 1] _ _ _ rfl rfl rfl (hown.alloc _) (Rd.new wr _ [0, 1] []) ?_ ?_ ?_; simp; exact Nat.le_succ_of_le (Below.size hb); simp; omega; intro v1 w1 hown1 hb1)
      go_ret
      exact Ret.mk (Below.trans (hb.alloc (Below.size hb) _) hb1) hown1.bytes
end Go.Proofs.YtakmkcfljhfkdaaDoor
