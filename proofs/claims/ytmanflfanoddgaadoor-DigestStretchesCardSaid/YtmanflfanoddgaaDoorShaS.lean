/-
  The words that each round takes: schedule's contract.
-/
import Derived.Test.YtmanflfanoddgaaDoorShaR
import Derived.Test.YtmanflfanoddgaaDoorWds
import Derived.Deep.QuietTactic
import Derived.BigQuiet
import Derived.BigRegion
namespace Go.Proofs.YtmanflfanoddgaaDoor
open Go.RowKit

set_option maxRecDepth 20000 in
theorem word4_bits (a b c d : Nat) (ha : a < 256) (hb : b < 256) (hc : c < 256) (hd : d < 256) :
    bits .or .u32 (bits .or .u32 (bits .or .u32 ((a : Int) % 4294967296 * 16777216 % 4294967296) ((b : Int) % 4294967296 * 65536 % 4294967296)) ((c : Int) % 4294967296 * 256 % 4294967296)) ((d : Int) % 4294967296) = (word4 a b c d : Int) := by
  have e1 : (a : Int) % 4294967296 * 16777216 % 4294967296 = ((a * 16777216 : Nat) : Int) := by omega
  have e2 : (b : Int) % 4294967296 * 65536 % 4294967296 = ((b * 65536 : Nat) : Int) := by omega
  have e3 : (c : Int) % 4294967296 * 256 % 4294967296 = ((c * 256 : Nat) : Int) := by omega
  have e4 : (d : Int) % 4294967296 = (d : Int) := by omega
  have h1 : a * 16777216 < 4294967296 := Nat.lt_of_lt_of_le (Nat.mul_lt_mul_of_pos_right ha (by decide)) (by decide)
  have h2 : b * 65536 < 4294967296 := Nat.lt_of_lt_of_le (Nat.mul_lt_mul_of_pos_right hb (by decide)) (by decide)
  have h3 : c * 256 < 4294967296 := Nat.lt_of_lt_of_le (Nat.mul_lt_mul_of_pos_right hc (by decide)) (by decide)
  rw [e1, e2, e3, e4, u32_or_nat _ _ h1 h2, u32_or_nat _ _ (or_lt32 h1 h2) h3, u32_or_nat _ _ (or_lt32 (or_lt32 h1 h2) h3) (by omega)]
  rfl
theorem next_bits (x2 x15 x7 x16 : Nat) (h2 : x2 < 4294967296) (h15 : x15 < 4294967296) :
    (bits .xor .u32 ((rotr 17 x2 ^^^ rotr 19 x2 : Nat) : Int) ((x2 : Int) / 1024) + (x7 : Int) + bits .xor .u32 ((rotr 7 x15 ^^^ rotr 18 x15 : Nat) : Int) ((x15 : Int) / 8) + (x16 : Int)) % 4294967296 =
      (((sig1 x2 + x7 + sig0 x15 + x16) % 4294967296 : Nat) : Int) := by
  have e1 : bits .xor .u32 ((rotr 17 x2 ^^^ rotr 19 x2 : Nat) : Int) ((x2 : Int) / 1024) = (sig1 x2 : Int) := by
    have := u32_xor_nat (rotr 17 x2 ^^^ rotr 19 x2) (x2 / 1024) (xor_lt32 (rotr_lt _ _ h2) (rotr_lt _ _ h2)) (by omega)
    rw [Int.natCast_ediv] at this
    exact this
  have e2 : bits .xor .u32 ((rotr 7 x15 ^^^ rotr 18 x15 : Nat) : Int) ((x15 : Int) / 8) = (sig0 x15 : Int) := by
    have := u32_xor_nat (rotr 7 x15 ^^^ rotr 18 x15) (x15 / 8) (xor_lt32 (rotr_lt _ _ h15) (rotr_lt _ _ h15)) (by omega)
    rw [Int.natCast_ediv] at this
    exact this
  rw [e1, e2]
  generalize sig1 x2 = p
  generalize sig0 x15 = q
  omega
theorem byteAt_some {l : List UInt8} {i : Nat} {x : UInt8} (h : l[i]? = some x) : byteAt l i = x.toNat := by unfold byteAt; rw [List.getD_eq_getElem?_getD, h]; rfl

set_option maxRecDepth 20000 in
set_option maxHeartbeats 3200000 in
theorem schedule_any (A : Option Addr) (c : Nat) (l : List UInt8) (hl : l.length = 64) (w : World) (hr : Rd w A l) (hc : 64 ≤ c) :
    Calls Tryd.prog 109 #[.slice A 64 c] w (Ret w (Is (.agg (us (sched l)).toArray))) := by
  obtain ⟨b, off, rfl, hrc⟩ := hr (by intro e; subst e; cases hl)
  go_enter Tryd.func109, Tryd.ntmps109
  go_wp2
  go_loopw [11] (fun i wr => ∃ k : Nat, k ≤ 16 ∧ i = .int .i64 k ∧ Wds wr (w.heap.size + 1) 29 (firstW l k ++ List.replicate (64 - k) 0) ∧ Wds wr w.heap.size 29 (List.replicate 64 0) ∧ Ext w wr) (fun i _ => 16 - (intOf i).toNat)
  case atStart =>
    refine ⟨0, Nat.zero_le _, rfl, ?_, ?_, ?_⟩
    · exact heap_alloc2_new w _ _
    · exact heap_alloc2_old w _ _
    · exact (Ext.alloc w _).trans (Ext.alloc _ _)
  case round =>
    obtain ⟨k, hk, rfl, hw, hz, hx⟩ := hrel
    by_cases hlt : k < 16
    · obtain ⟨x0, e0⟩ : ∃ x, l[4 * k]? = some x := ⟨_, List.getElem?_eq_getElem (by omega)⟩
      obtain ⟨x1, e1⟩ : ∃ x, l[4 * k + 1]? = some x := ⟨_, List.getElem?_eq_getElem (by omega)⟩
      obtain ⟨x2, e2⟩ : ∃ x, l[4 * k + 2]? = some x := ⟨_, List.getElem?_eq_getElem (by omega)⟩
      obtain ⟨x3, e3⟩ : ∃ x, l[4 * k + 3]? = some x := ⟨_, List.getElem?_eq_getElem (by omega)⟩
      have c0 := (Ext.keeps hx).cell (hrc _ _ e0)
      have c1 : wr.cell? ⟨b, off + 4 * k + 1, none⟩ = _ := (Ext.keeps hx).cell (hrc _ _ e1)
      have c2 : wr.cell? ⟨b, off + 4 * k + 2, none⟩ = _ := (Ext.keeps hx).cell (hrc _ _ e2)
      have c3 : wr.cell? ⟨b, off + 4 * k + 3, none⟩ = _ := (Ext.keeps hx).cell (hrc _ _ e3)
      have HW := hide (show firstW l (k + 1) = firstW l k ++ [word4 x0.toNat x1.toNat x2.toNat x3.toNat] by rw [firstW, byteAt_some e0, byteAt_some e1, byteAt_some e2, byteAt_some e3])
      have hf := hw.frozen k
      obtain ⟨y, hy⟩ : ∃ y, (firstW l k ++ List.replicate (64 - k) 0)[k]? = some y := ⟨_, List.getElem?_eq_getElem (by simp [firstW_length]; omega)⟩
      have hcw := hw.cell hy
      clear hy e0 e1 e2 e3
      go_wp2
      go_region
      go_wp2
      refine ⟨⟨k + 1, by omega, by go_num, ?_, ?_, ?_⟩, by simp [intOf]; omega⟩
      · refine Wds.put (show Wds wr.drew _ _ _ from hw) k _ (word4_bits _ _ _ _ x0.toNat_lt x1.toNat_lt x2.toNat_lt x3.toNat_lt) ?_
        rw [HW.out, set_mid _ _ _ _ (firstW_length _ _).symm (by omega)]
        rfl
      · exact Wds.far (show Wds wr.drew _ _ _ from hz) (by simp) _
      · exact Below.set (hx.trans (Ext.drew _)) (by simp) _
    · have HK := hide (show k = 16 by omega)
      have hge : ¬ (k : Int) < 16 := by omega
      have hw : Wds wr (w.heap.size + 1) 29 (firstW l 16 ++ List.replicate 48 0) := by rw [HK.out] at hw; exact hw
      obtain ⟨wa, hwa⟩ : ∃ x, x = wr := ⟨_, rfl⟩
      subst hwa
      clear hk hlt
      go_wp2
      go_loopw [6] (fun i wr => ∃ n : Nat, 16 ≤ n ∧ n ≤ 64 ∧ i = .int .i64 n ∧ Wds wr (w.heap.size + 1) 29 (moreW (firstW l 16) (n - 16) ++ List.replicate (64 - n) 0) ∧ Wds wr w.heap.size 29 (List.replicate 64 0) ∧ Ext w wr) (fun i _ => 64 - (intOf i).toNat)
      case atStart => exact ⟨16, Nat.le_refl _, by omega, rfl, hw, hz, hx⟩
      clear hw hz hx
      case round =>
        obtain ⟨n, hn0, hn, rfl, hw, hz, hx⟩ := hrel
        by_cases hlt : n < 64
        · have hlen : (moreW (firstW l 16) (n - 16)).length = n := by rw [moreW_length, firstW_length]; omega
          have hmlt := moreW_lt _ (firstW_lt l 16) (n - 16)
          obtain ⟨q, HQ⟩ : ∃ q, Hid (moreW (firstW l 16) (n - 16) = q) := ⟨_, rfl⟩
          rw [HQ.out] at hw hlen hmlt
          have gt : ∀ j, 0 < j → j ≤ 16 → ∃ x, q.getD (n - j) 0 = x ∧ x < 4294967296 ∧ wr.cell? ⟨w.heap.size + 1, n - j, none⟩ = some (.int .u32 (x : Int)) := fun j h1 h2 => by
            have hlt : n - j < q.length := by omega
            refine ⟨q[n - j], ?_, hmlt _ (List.getElem_mem _), hw.cell ?_⟩
            · rw [List.getD_eq_getElem?_getD, List.getElem?_eq_getElem hlt]; rfl
            · rw [List.getElem?_append_left hlt, List.getElem?_eq_getElem hlt]
          obtain ⟨x2, g2, l2, c2⟩ := gt 2 (by omega) (by omega)
          obtain ⟨x15, g15, l15, c15⟩ := gt 15 (by omega) (by omega)
          obtain ⟨x7, g7, l7, c7⟩ := gt 7 (by omega) (by omega)
          obtain ⟨x16, g16, l16, c16⟩ := gt 16 (by omega) (by omega)
          have HN := hide (show moreW (firstW l 16) (n + 1 - 16) = q ++ [(sig1 x2 + x7 + sig0 x15 + x16) % 4294967296] by
            rw [show n + 1 - 16 = (n - 16) + 1 by omega, moreW, HQ.out]
            unfold nextW
            rw [show 16 + (n - 16) = n by omega, g2, g7, g15, g16])
          obtain ⟨y, hy⟩ : ∃ y, (q ++ List.replicate (64 - n) 0)[n]? = some y := ⟨_, List.getElem?_eq_getElem (by simp; omega)⟩
          have hcw := hw.cell hy
          have hf := hw.frozen n
          have b2 : (2 : Int) ≤ n := by omega
          have b15 : (15 : Int) ≤ n := by omega
          have b7 : (7 : Int) ≤ n := by omega
          have b16 : (16 : Int) ≤ n := by omega
          clear hy gt g2 g15 g7 g16
          go_wp2
          have x1 := u32_xor_nat (rotr 17 x2) (rotr 19 x2) (rotr_lt _ _ l2) (rotr_lt _ _ l2)
          have y1 := u32_xor_nat (rotr 7 x15) (rotr 18 x15) (rotr_lt _ _ l15) (rotr_lt _ _ l15)
          have K17 := hide fun W => (show Calls Tryd.prog 119 #[.int .u32 (x2 : Int), .int .i64 (-17)] W (Val (.int .u32 (rotr 17 x2 : Int)) W) from rot_any 17 (by decide) x2 l2 W)
          have K19 := hide fun W => (show Calls Tryd.prog 119 #[.int .u32 (x2 : Int), .int .i64 (-19)] W (Val (.int .u32 (rotr 19 x2 : Int)) W) from rot_any 19 (by decide) x2 l2 W)
          have K7 := hide fun W => (show Calls Tryd.prog 119 #[.int .u32 (x15 : Int), .int .i64 (-7)] W (Val (.int .u32 (rotr 7 x15 : Int)) W) from rot_any 7 (by decide) x15 l15 W)
          have K18 := hide fun W => (show Calls Tryd.prog 119 #[.int .u32 (x15 : Int), .int .i64 (-18)] W (Val (.int .u32 (rotr 18 x15 : Int)) W) from rot_any 18 (by decide) x15 l15 W)
          go_quiet (fail)
          go_wp2_with (first
            | (go_at_call 119; ((with_reducible refine (K17.out _).mono ?_); rintro e w1 ⟨rfl, rfl⟩))
            | (go_at_call 119; ((with_reducible refine (K19.out _).mono ?_); rintro e w2 ⟨rfl, rfl⟩))
            | (go_at_call 119; ((with_reducible refine (K7.out _).mono ?_); rintro e w3 ⟨rfl, rfl⟩))
            | (go_at_call 119; ((with_reducible refine (K18.out _).mono ?_); rintro e w4 ⟨rfl, rfl⟩)))
          go_region
          go_wp2
          refine ⟨⟨n + 1, by omega, by omega, by go_num, ?_, ?_, ?_⟩, by simp [intOf]; omega⟩
          · refine Wds.put (w := wr.drewN (nq + 1)) hw n _ (next_bits x2 x15 x7 x16 l2 l15) ?_
            rw [HN.out, set_mid _ _ _ _ hlen.symm (by omega)]
            rfl
          · exact Wds.far (w := wr.drewN (nq + 1)) hz (by simp) _
          · exact Below.set (hx.drewN _) (by simp) _
        · have hge2 : ¬ (n : Int) < 64 := by omega
          have HW : Hid (Wds wr (w.heap.size + 1) 29 (sched l)) := by
            have e : n = 64 := by omega
            rw [e] at hw
            rw [show (64 : Nat) - 64 = 0 from rfl, List.replicate_zero, List.append_nil] at hw
            exact hw
          have HZ := hide hz
          clear hw hz hn hlt
          go_wp2_with (first
            | ((with_reducible show wpList _ _ _ (⟨some 89, _, _, _, _, _⟩ :: _) _ _); refine wpList_load_rw rfl 29 (.tmp 3) rfl _ rfl 29 (us (sched l)) HW.out 64 27 Tryd.underlying29 (by kernel_rfl) (by rw [us_length, sched_length]) ?_)
            | ((with_reducible show wpList _ _ _ (⟨none, _, _, _, _, _⟩ :: _) _ _); refine wpList_store_rw rfl 29 (.tmp 2) (.tmp 89) rfl _ rfl (us (sched l)) rfl 29 _ HZ.out 64 (by kernel_rfl) (by rw [us_length, sched_length]) (by rw [us_length, us_length, sched_length]; rfl) (us_one _) ?_; intro w5 hr5 hl5))
          exact ret_rw rfl rfl _ rfl _ _ hr5 64 27 Tryd.underlying29 (by kernel_rfl) (by rw [us_length, sched_length]) (Ret.mk (hx.laid hl5 (Nat.le_refl _)) rfl)
end Go.Proofs.YtmanflfanoddgaaDoor
