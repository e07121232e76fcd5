/-
  The last block, or two: ending's contract.
-/
import Derived.Test.YtmanflfanoddgaaDoorShaA
namespace Go.Proofs.YtmanflfanoddgaaDoor
open Go.RowKit

theorem be8_get (n k : Nat) (h : k < 8) : (be8 n).drop (7 - k) = b8n (n / 2 ^ (8 * k)) :: (be8 n).drop (8 - k) := by
  rcases k with _ | _ | _ | _ | _ | _ | _ | _ | k
  case succ.succ.succ.succ.succ.succ.succ.succ => omega
  all_goals simp [be8]
theorem b8n_b8 (n : Nat) {v : Int} (h : v = ((n % 256 : Nat) : Int)) : b8 v = b8n n := by
  subst h
  unfold b8 b8n
  rw [Int.toNat_natCast]
  apply UInt8.toNat_inj.1
  simp
theorem set_back (P T : List UInt8) (m i : Nat) (v : UInt8) (hi : i = P.length + m) : (P ++ (List.replicate (m + 1) 0 ++ T)).set i v = P ++ (List.replicate m 0 ++ v :: T) := by
  subst hi
  rw [List.set_append_right _ _ (by omega), Nat.add_sub_cancel_left, List.set_append_left _ _ (by simp)]
  have : (List.replicate (m + 1) (0 : UInt8)).set m v = List.replicate m 0 ++ [v] := by
    rw [List.replicate_succ', List.set_append_right _ _ (by simp)]
    simp
  rw [this]
  simp

theorem back_step {w : World} {g : Nat} {P : List UInt8} {N k i : Nat} {v : Int} (hb : Blk w g (P ++ (List.replicate (8 - k) 0 ++ (be8 N).drop (8 - k)))) (hk : k < 8) (hi : i = P.length + (7 - k)) (hv : v = ((N / 2 ^ (8 * k) % 256 : Nat) : Int)) :
    Blk (w.setCell ⟨g, i, none⟩ (.int .u8 v)) g (P ++ (List.replicate (8 - (k + 1)) 0 ++ (be8 N).drop (8 - (k + 1)))) := by
  have h := hb.set i v (by omega) (by omega)
  rw [show 8 - k = (7 - k) + 1 by omega, set_back _ _ _ _ _ hi] at h
  rw [show 8 - (k + 1) = 7 - k by omega, be8_get N k hk, ← b8n_b8 _ hv, show 8 - k = (7 - k) + 1 by omega]
  exact h
theorem wrap_total (total N k : Nat) (e0 : 8 * (total : Int) % 18446744073709551616 = (N : Int)) : IntKind.u64.wrap (8 * (total : Int)) / 2 ^ (8 * k) % 256 = ((N / 2 ^ (8 * k) % 256 : Nat) : Int) := by
  rw [IntKind.wrap_u64, e0]
  have h1 : (N : Int) / 2 ^ (8 * k) = ((N / 2 ^ (8 * k) : Nat) : Int) := by rw [Int.natCast_ediv, Int.natCast_pow]; rfl
  rw [h1]
  generalize N / 2 ^ (8 * k) = y
  omega

set_option maxRecDepth 20000 in
set_option maxHeartbeats 3200000 in
theorem ending_size (A : Option Addr) (c : Nat) (r : List UInt8) (total size : Nat) (w : World) (hr : Rd w A r) (hrl : r.length < 64)
    (hs : (size = 64 ∧ r.length + 9 ≤ 64) ∨ (size = 128 ∧ 64 < r.length + 9)) :
    Calls Tryd.prog 100 #[.slice A r.length c, .int .u64 (total : Int)] w (Ret w (Bytes (endingS r total))) := by
  obtain ⟨N, HN, e0⟩ : ∃ N : Nat, Hid (8 * total % 18446744073709551616 = N) ∧ 8 * (total : Int) % 18446744073709551616 = (N : Int) := ⟨_, rfl, by omega⟩
  obtain ⟨P, HP⟩ : ∃ P : List UInt8, Hid (r ++ [128] ++ List.replicate (padLen r.length) 0 = P) := ⟨r ++ [128] ++ List.replicate (padLen r.length) 0, rfl⟩
  have hpl : P.length = size - 8 := by rw [← HP.out]; simp [padLen]; omega
  have HE : Hid (endingS r total = P ++ be8 N) := by show endingS r total = _; unfold endingS; rw [HN.out, HP.out]
  have hmk := hide fun W => run_make_bytes size (by omega) W
  have hrs : r.length < size := by omega
  have H0 : Hid ((over (List.replicate size 0) 0 (r.take size)).set r.length 128 = P ++ (List.replicate 8 0 ++ [])) := by
    show _ = _
    rw [← HP.out, List.take_of_length_le (by omega)]
    unfold over
    simp only [List.take_zero, List.nil_append, List.drop_replicate, Nat.zero_add]
    rw [List.set_append_right _ _ (Nat.le_refl _), Nat.sub_self]
    obtain ⟨m, hm⟩ : ∃ m, size - r.length = m + 1 := ⟨size - r.length - 1, by omega⟩
    have hpd : m = padLen r.length + 8 := by unfold padLen; omega
    rw [hm, List.replicate_succ, List.set_cons_zero, hpd, ← List.replicate_append_replicate]
    simp
  have hsz : 0 ≤ (size : Int) := by omega
  rcases hs with ⟨rfl, h9⟩ | ⟨rfl, h9⟩
  · have h9i : ¬ (64 : Int) < (r.length : Int) + 9 := by omega
    have hmk2 : ∀ W, (Instr.makeSlice 22 (.int .i64 64) (.int .i64 64)).run Tryd.prog W = .ok (.slice (some ⟨W.heap.size, 0, none⟩) 64 64) (W.alloc (.cells (madeCells #[.int .u8 0] 64) 5)) := hmk.out
    go_enter Tryd.func100, Tryd.ntmps100
    go_wp2_with (refine wpList_copy rfl (.tmp 14) (.tmp 15) rfl w.heap.size 0 64 64 A r.length c rfl rfl (List.replicate 64 0) r rfl (Blk.made w 64) (hr.ext (Ext.alloc w _)) (by rw [List.length_replicate]; omega) w.heap.size (Nat.le_refl _) ?_; intro w1 hg1 hb1; obtain ⟨y, hy⟩ : ∃ y, (over (List.replicate 64 0) 0 (r.take 64))[r.length]? = some y := ⟨_, List.getElem?_eq_getElem (by rw [over_length _ _ _ (by rw [List.length_replicate, List.length_take]; omega), List.length_replicate]; exact hrs)⟩; have hcx := hg1.cell hy; have hfx := hg1.frozen r.length; have HG := hide hg1; clear hg1 hy)
    have hx1 : Ext w w1 := Below.trans (Ext.alloc w _) hb1
    have HB : Hid (Blk (w1.setCell ⟨w.heap.size, r.length, none⟩ (.int .u8 128)) w.heap.size (P ++ (List.replicate 8 0 ++ (be8 N).drop 8))) := by
      have := HG.out.set r.length 128 (by decide) (by decide)
      rw [show b8 128 = (128 : UInt8) from rfl, H0.out] at this
      exact this
    clear hcx hfx HG hb1 hmk hmk2 H0
    go_loopw [21] (fun i wr => ∃ k : Nat, k ≤ 8 ∧ i = .int .i64 k ∧ Blk wr w.heap.size (P ++ (List.replicate (8 - k) 0 ++ (be8 N).drop (8 - k))) ∧ Ext w wr) (fun i _ => 8 - (intOf i).toNat)
    case atStart => exact ⟨0, Nat.zero_le _, rfl, HB.out, Below.set hx1 (Nat.le_refl _) _⟩
    clear HB hx1
    case round =>
      obtain ⟨k, hk, rfl, hb, hx⟩ := hrel
      by_cases hlt : k < 8
      · obtain ⟨y, hy⟩ : ∃ y, (P ++ (List.replicate (8 - k) 0 ++ (be8 N).drop (8 - k)))[64 - 1 - k]? = some y := ⟨_, List.getElem?_eq_getElem (by simp [be8]; omega)⟩
        have hcx := hb.cell hy
        have hfx := hb.frozen (64 - 1 - k)
        have hki : (k : Int) < 8 := by omega
        clear hy
        go_wp2
        exact ⟨⟨k + 1, by omega, by go_num, back_step hb hlt (by omega) (wrap_total total N k e0), Below.set hx (Nat.le_refl _) _⟩, by simp [intOf]; omega⟩
      · have hge : ¬ (k : Int) < 8 := by omega
        have HB : Hid (Blk wr w.heap.size (P ++ be8 N)) := by
          have e : k = 8 := by omega
          rw [e] at hb
          exact hb
        clear hb hk hlt
        go_wp2
        go_ret
        refine Ret.mk hx ?_
        rw [HE.out]
        exact HB.out.bytes (by simp [be8]; omega) (Nat.le_refl _)
  · have h9i : (64 : Int) < (r.length : Int) + 9 := by omega
    have hmk2 : ∀ W, (Instr.makeSlice 22 (.int .i64 128) (.int .i64 128)).run Tryd.prog W = .ok (.slice (some ⟨W.heap.size, 0, none⟩) 128 128) (W.alloc (.cells (madeCells #[.int .u8 0] 128) 5)) := hmk.out
    go_enter Tryd.func100, Tryd.ntmps100
    go_wp2_with (refine wpList_copy rfl (.tmp 14) (.tmp 15) rfl w.heap.size 0 128 128 A r.length c rfl rfl (List.replicate 128 0) r rfl (Blk.made w 128) (hr.ext (Ext.alloc w _)) (by rw [List.length_replicate]; omega) w.heap.size (Nat.le_refl _) ?_; intro w1 hg1 hb1; obtain ⟨y, hy⟩ : ∃ y, (over (List.replicate 128 0) 0 (r.take 128))[r.length]? = some y := ⟨_, List.getElem?_eq_getElem (by rw [over_length _ _ _ (by rw [List.length_replicate, List.length_take]; omega), List.length_replicate]; exact hrs)⟩; have hcx := hg1.cell hy; have hfx := hg1.frozen r.length; have HG := hide hg1; clear hg1 hy)
    have hx1 : Ext w w1 := Below.trans (Ext.alloc w _) hb1
    have HB : Hid (Blk (w1.setCell ⟨w.heap.size, r.length, none⟩ (.int .u8 128)) w.heap.size (P ++ (List.replicate 8 0 ++ (be8 N).drop 8))) := by
      have := HG.out.set r.length 128 (by decide) (by decide)
      rw [show b8 128 = (128 : UInt8) from rfl, H0.out] at this
      exact this
    clear hcx hfx HG hb1 hmk hmk2 H0
    go_loopw [21] (fun i wr => ∃ k : Nat, k ≤ 8 ∧ i = .int .i64 k ∧ Blk wr w.heap.size (P ++ (List.replicate (8 - k) 0 ++ (be8 N).drop (8 - k))) ∧ Ext w wr) (fun i _ => 8 - (intOf i).toNat)
    case atStart => exact ⟨0, Nat.zero_le _, rfl, HB.out, Below.set hx1 (Nat.le_refl _) _⟩
    clear HB hx1
    case round =>
      obtain ⟨k, hk, rfl, hb, hx⟩ := hrel
      by_cases hlt : k < 8
      · obtain ⟨y, hy⟩ : ∃ y, (P ++ (List.replicate (8 - k) 0 ++ (be8 N).drop (8 - k)))[128 - 1 - k]? = some y := ⟨_, List.getElem?_eq_getElem (by simp [be8]; omega)⟩
        have hcx := hb.cell hy
        have hfx := hb.frozen (128 - 1 - k)
        have hki : (k : Int) < 8 := by omega
        clear hy
        go_wp2
        exact ⟨⟨k + 1, by omega, by go_num, back_step hb hlt (by omega) (wrap_total total N k e0), Below.set hx (Nat.le_refl _) _⟩, by simp [intOf]; omega⟩
      · have hge : ¬ (k : Int) < 8 := by omega
        have HB : Hid (Blk wr w.heap.size (P ++ be8 N)) := by
          have e : k = 8 := by omega
          rw [e] at hb
          exact hb
        clear hb hk hlt
        go_wp2
        go_ret
        refine Ret.mk hx ?_
        rw [HE.out]
        exact HB.out.bytes (by simp [be8]; omega) (Nat.le_refl _)
theorem ending_any (A : Option Addr) (c : Nat) (r : List UInt8) (total : Nat) (w : World) (hr : Rd w A r) (hrl : r.length < 64) :
    Calls Tryd.prog 100 #[.slice A r.length c, .int .u64 (total : Int)] w (Ret w (Bytes (endingS r total))) := by
  by_cases h : r.length + 9 ≤ 64
  · exact ending_size A c r total 64 w hr hrl (.inl ⟨rfl, h⟩)
  · exact ending_size A c r total 128 w hr hrl (.inr ⟨rfl, by omega⟩)
end Go.Proofs.YtmanflfanoddgaaDoor
