/-
  CRC-32: the call, four bits at a time by a table, and the document's own, bit by bit.
-/
import Derived.Test.YthdahgekodcloaaDoorOctP
import Derived.Test.YthdahgekodcloaaDoorCrcP
namespace Go.Proofs.YthdahgekodcloaaDoor
open Go.RowKit

/-- The table's cells are in their places. -/
def Tab (w : World) : Prop := ∀ i : Nat, i < 16 → w.cell? ⟨0, i, none⟩ = some (.int .u32 (crcAt i : Int))
theorem Tab.ext {w w' : World} (h : Tab w) (hx : Ext w w') : Tab w' := fun i hi => (Below.cell hx (World.block_lt_of_cell? w _ (h i hi))).trans (h i hi)

theorem Tab.keep {w w' : World} (h : Tab w) (hx : Keeps w w') : Tab w' := fun i hi => hx.cell (h i hi)
theorem half_facts (a : Nat) (h : a < 4294967296) : ∃ t T b : Nat, bits .and .u32 (a : Int) 15 = (t : Int) ∧ t < 16 ∧ Hid (T = crcAt t) ∧ bits .xor .u32 ((a : Int) / 16) (T : Int) = (b : Int) ∧ b < 4294967296 ∧ Hid (b = ch a) := by
  refine ⟨a % 16, crcAt (a % 16), ch a, ?_, Nat.mod_lt _ (by decide), rfl, ?_, ch_lt h, rfl⟩
  · have := u32_and_nat a 15 h (by decide)
    rw [nat_mask4] at this
    exact this
  · have := u32_xor_nat (a / 16) (crcAt (a % 16)) (by omega) (crcAt_lt _)
    rw [Int.natCast_ediv] at this
    exact this
theorem step_facts (c : Nat) (x : UInt8) (h : c < 4294967296) : ∃ a : Nat, bits .xor .u32 (c : Int) (x.toNat : Int) = (a : Int) ∧ a < 4294967296 ∧ Hid (ch (ch a) = crcStep c x) := by
  have hx := x.toNat_lt
  exact ⟨c ^^^ x.toNat, u32_xor_nat _ _ h (by omega), lt32_xor h (by omega), rfl⟩
theorem nat_not32 (s : Nat) (h : s < 4294967296) : 4294967295 ^^^ s = 4294967295 - s := by
  have h1 := BitVec.toNat_not (x := BitVec.ofNat 32 s)
  rw [← BitVec.allOnes_xor, BitVec.toNat_xor, BitVec.toNat_allOnes, BitVec.toNat_ofNat, Nat.mod_eq_of_lt (show s < 2 ^ 32 by omega)] at h1
  exact h1
theorem not32 (s : Nat) (h : s < 4294967296) : bits .xor .u32 4294967295 (s : Int) = ((4294967295 - s : Nat) : Int) := by
  have := u32_xor_nat 4294967295 s (by decide) h
  rw [nat_not32 s h] at this
  exact this
theorem bit_test (s x k : Nat) (hs : s < 4294967296) (hx : x < 256) :
    bits .xor .u32 (bits .and .u32 (s : Int) 1) (bits .and .u32 ((x : Int) / 2 ^ k % 4294967296) 1) = ((s % 2 ^^^ x / 2 ^ k % 2 : Nat) : Int) := by
  have e1 := u32_and_nat s 1 hs (by decide)
  rw [nat_mask1] at e1
  have hxk : x / 2 ^ k < 4294967296 := Nat.lt_of_le_of_lt (Nat.div_le_self _ _) (by omega)
  have e2 := u32_and_nat (x / 2 ^ k) 1 hxk (by decide)
  rw [nat_mask1] at e2
  have e3 : (x : Int) / 2 ^ k % 4294967296 = ((x / 2 ^ k : Nat) : Int) := by
    have h1 : (x : Int) / 2 ^ k = ((x / 2 ^ k : Nat) : Int) := by rw [Int.natCast_ediv, Int.natCast_pow]; rfl
    rw [h1]
    generalize x / 2 ^ k = y at hxk
    omega
  rw [e3]
  have h1 : bits .and .u32 (s : Int) 1 = ((s % 2 : Nat) : Int) := e1
  have h2 : bits .and .u32 ((x / 2 ^ k : Nat) : Int) 1 = ((x / 2 ^ k % 2 : Nat) : Int) := e2
  rw [h1, h2]
  exact u32_xor_nat _ _ (by omega) (by omega)
theorem poly_xor (s : Nat) (hs : s < 4294967296) : bits .xor .u32 ((s : Int) / 2) 3988292384 = ((s / 2 ^^^ 3988292384 : Nat) : Int) := by
  have := u32_xor_nat (s / 2) 3988292384 (by omega) (by decide)
  rw [Int.natCast_ediv] at this
  exact this
theorem crc_take (l : List UInt8) (n : Nat) (x : UInt8) (h : l[n]? = some x) : crcFold (l.take (n + 1)) = crcStep (crcFold (l.take n)) x := by
  rw [List.take_add_one, h, Option.toList_some, crcFold_snoc]

set_option maxHeartbeats 800000 in
theorem sum_any (A : Option Addr) (c : Nat) (l : List UInt8) (w : World) (hr : Rd w A l) (hl : l.length ≤ 140737488355328) (ht : Tab w) :
    Calls Tryd.prog 31 #[.slice A l.length c] w (Ret w (Is (.int .u32 (crc l : Int)))) := by
  go_enter Tryd.func31, Tryd.ntmps31
  go_wp2
  go_loop [3, 8] (fun c i => ∃ (n s : Nat), n ≤ l.length ∧ i = .int .i64 n ∧ s < 4294967296 ∧ Hid (s = crcFold (l.take n)) ∧ c = .int .u32 s) (fun _ i => l.length - (intOf i).toNat)
  case atStart => exact ⟨0, 4294967295, Nat.zero_le _, rfl, by omega, rfl, rfl⟩
  case round =>
    obtain ⟨n, s, hn, rfl, h1, HS, rfl⟩ := hrel
    by_cases hlt : n < l.length
    · obtain ⟨b, off, x, rfl, hx, hc⟩ := hr.at (k := n) hlt
      have hx2 := x.toNat_lt
      have HF := hide (crc_take l n x hx)
      clear hx
      obtain ⟨a, e1, ha, HA⟩ := step_facts s x h1
      obtain ⟨t1, T1, b1, e2, ht1, HT1, e3, hb1, HB1⟩ := half_facts a ha
      obtain ⟨t2, T2, b2, e4, ht2, HT2, e5, hb2, HB2⟩ := half_facts b1 hb1
      have hc1 : w.cell? ⟨0, t1, none⟩ = some (.int .u32 (T1 : Int)) := by rw [HT1.out]; exact ht t1 ht1
      have hc2 : w.cell? ⟨0, t2, none⟩ = some (.int .u32 (T2 : Int)) := by rw [HT2.out]; exact ht t2 ht2
      go_wp2
      refine ⟨⟨n + 1, b2, by omega, by go_num, hb2, ?_, rfl⟩, by simp [intOf]; omega⟩
      show b2 = _
      rw [HF.out, ← HS.out, ← HA.out, HB2.out, HB1.out]
    · obtain rfl : n = l.length := by omega
      go_wp2
      go_ret
      refine Ret.mk (Ext.refl _) ?_
      have := HS.out
      rw [List.take_of_length_le (Nat.le_refl _)] at this
      unfold Is crc
      rw [← this]
      show Value.int .u32 _ = _
      rw [show IntKind.u32.max = 4294967295 from rfl, not32 s h1]

set_option maxHeartbeats 800000 in
theorem rsum_any (A : Option Addr) (c : Nat) (l : List UInt8) (w : World) (hr : Rd w A l) (hl : l.length ≤ 140737488355328) :
    Calls Tryd.prog 26 #[.slice A l.length c] w (Ret w (Is (.int .u32 (crc l : Int)))) := by
  go_enter Tryd.func26, Tryd.ntmps26
  go_wp2
  go_loop [3, 4] (fun c i => ∃ (n s : Nat), n ≤ l.length ∧ i = .int .i64 n ∧ s < 4294967296 ∧ Hid (s = crcFold (l.take n)) ∧ c = .int .u32 s) (fun _ i => l.length - (intOf i).toNat)
  case atStart => exact ⟨0, 4294967295, Nat.zero_le _, rfl, by omega, rfl, rfl⟩
  case round =>
    obtain ⟨n, s, hn, rfl, h1, HS, rfl⟩ := hrel
    by_cases hlt : n < l.length
    · obtain ⟨b, off, x, rfl, hx, hc⟩ := hr.at (k := n) hlt
      have hx2 := x.toNat_lt
      have HF := hide (crc_take l n x hx)
      clear hx
      go_wp2
      go_loop [3, 5] (fun c i => ∃ (k s' : Nat), k ≤ 8 ∧ i = .int .i64 k ∧ s' < 4294967296 ∧ Hid (s' = rbs x.toNat s k) ∧ c = .int .u32 s') (fun _ i => 8 - (intOf i).toNat)
      case atStart => exact ⟨0, s, Nat.zero_le _, rfl, h1, rfl, rfl⟩
      case round =>
        obtain ⟨k, s', hk, rfl, h1', HS', rfl⟩ := hrel
        by_cases hk8 : k < 8
        · go_wp2
          · have hb := (show (bits BinOp.xor IntKind.u32 (bits BinOp.and IntKind.u32 (s' : Int) 1) (bits BinOp.and IntKind.u32 ((x.toNat : Int) / 2 ^ k % 4294967296) 1) == 1) = true by assumption)
            rw [bit_test s' x.toNat k h1' hx2] at hb
            have hb2 : s' % 2 ^^^ x.toNat / 2 ^ k % 2 = 1 := by
              generalize s' % 2 ^^^ x.toNat / 2 ^ k % 2 = z at hb
              simp at hb
              omega
            refine ⟨⟨k + 1, s' / 2 ^^^ 3988292384, by omega, by go_num, lt32_xor (by omega) (by decide), ?_, by rw [poly_xor s' h1']⟩, by simp [intOf]; omega⟩
            show _ = rb _ _ _
            unfold rb
            rw [← HS'.out, if_pos hb2]
          · have hb := (show (bits BinOp.xor IntKind.u32 (bits BinOp.and IntKind.u32 (s' : Int) 1) (bits BinOp.and IntKind.u32 ((x.toNat : Int) / 2 ^ k % 4294967296) 1) == 1) = false by assumption)
            rw [bit_test s' x.toNat k h1' hx2] at hb
            have hb2 : ¬ (s' % 2 ^^^ x.toNat / 2 ^ k % 2 = 1) := by
              intro e
              rw [e] at hb
              simp at hb
            refine ⟨⟨k + 1, s' / 2, by omega, by go_num, by omega, ?_, by go_num⟩, by simp [intOf]; omega⟩
            show _ = rb _ _ _
            unfold rb
            rw [← HS'.out, if_neg hb2, Nat.xor_zero]
        · obtain rfl : k = 8 := by omega
          have HX := hide (HS'.out.trans (rbs_eight x s))
          clear HS'
          go_wp2
          refine ⟨⟨n + 1, s', by omega, by go_num, h1', ?_, rfl⟩, by simp [intOf]; omega⟩
          show s' = _
          rw [HX.out, HF.out, ← HS.out]
    · obtain rfl : n = l.length := by omega
      go_wp2
      go_ret
      refine Ret.mk (Ext.refl _) ?_
      have := HS.out
      rw [List.take_of_length_le (Nat.le_refl _)] at this
      unfold Is crc
      rw [← this]
      show Value.int .u32 _ = _
      rw [show ((4294967295 - s : Nat) : Int) = 4294967295 - (s : Int) from by omega]
end Go.Proofs.YthdahgekodcloaaDoor
