/-
  The reference's next prime; words turned: contracts of prime and turn.
-/
import Derived.Test.YtmanflfanoddgaaDoorRefP
import Derived.Test.YtmanflfanoddgaaDoorShaO
import Derived.BigQuiet
namespace Go.Proofs.YtmanflfanoddgaaDoor
open Go.RowKit

/-- It answers x and draws at most. -/
def Drw (x : Value) (w : World) (e : Ending) (w' : World) : Prop := e = .returned x ∧ ∃ m, w' = w.drewN m

set_option maxRecDepth 20000 in
set_option maxHeartbeats 1600000 in
theorem prime_any (m p : Nat) (h : nextOk m p = true) (h1 : 1 ≤ m) (w : World) : Calls Tryd.prog 48 #[.int .i64 (m : Int)] w (Ret w (Is (.int .i64 (p : Int)))) := by
  have h2 : m < p ∧ p ≤ 311 ∧ okTo p 18 = true ∧ ∀ q, m < q → q < p → okTo q 18 = false := by
    unfold nextOk at h
    rw [Bool.and_eq_true, Bool.and_eq_true, Bool.and_eq_true] at h
    obtain ⟨⟨⟨a, b⟩, c⟩, d⟩ := h
    refine ⟨by simpa using a, by simpa using b, c, fun q hq hp => ?_⟩
    have := List.all_eq_true.1 d q (List.mem_range.2 hp)
    rw [Bool.or_eq_true] at this
    rcases this with e | e
    · have : q ≤ m := by simpa using e
      omega
    · simpa using e
  obtain ⟨hmp, hp, HP, HQ⟩ := h2
  replace HP := hide HP
  replace HQ := hide HQ
  clear h
  go_enter Tryd.func48, Tryd.ntmps48
  go_wp2
  go_loopw [0] (fun i wr => ∃ q : Nat, m ≤ q ∧ q < p ∧ i = .int .i64 q ∧ Ext w wr) (fun i _ => p - (intOf i).toNat)
  case atStart => exact ⟨m, Nat.le_refl _, hmp, rfl, Ext.refl _⟩
  case round =>
    obtain ⟨q, hq, hqp, rfl, hx⟩ := hrel
    obtain ⟨n, HN⟩ : ∃ n, Hid (n = q + 1) := ⟨_, hide rfl⟩
    have en : (q : Int) + 1 = (n : Int) := by have := HN.out; omega
    have hgt : (1 : Int) < (n : Int) := by omega
    have hn9 : n ≤ p := by omega
    obtain ⟨wq, hwq⟩ : ∃ x, x = wr := ⟨_, rfl⟩
    subst hwq
    go_wp2
    go_loopw [3, 4] (fun b i wr => ∃ d : Nat, 2 ≤ d ∧ d ≤ 18 ∧ i = .int .i64 d ∧ Hid (b = .bool (okTo n d)) ∧ Ext w wr) (fun _ i _ => 18 - (intOf i).toNat)
    case atStart => exact ⟨2, by omega, by omega, rfl, hide rfl, hx⟩
    case round =>
      obtain ⟨d, hd2, hd18, rfl, hb, hx2⟩ := hrel
      obtain rfl := hb.out
      obtain ⟨s, hs⟩ : ∃ s, s = d * d := ⟨_, rfl⟩
      have es : (d : Int) * (d : Int) = (s : Int) := by rw [hs, Int.natCast_mul]
      have hs2 : s ≤ 18 * 18 := by rw [hs]; exact Nat.mul_le_mul hd18 hd18
      have hw : IntKind.i64.wrap ((d : Int) * (d : Int)) = (s : Int) := by rw [es, IntKind.wrap_i64]; omega
      clear es hs2
      by_cases hle : s ≤ n
      · have hle2 : (s : Int) ≤ (n : Int) := by omega
        have hd17 : d < 18 := by
          rcases Nat.lt_or_ge d 18 with h | h
          · exact h
          · exfalso
            have : 18 * 18 ≤ d * d := Nat.mul_le_mul h h
            omega
        have hd0 : ¬ (d : Int) = 0 := by omega
        have HSS := hide hs
        clear hs
        by_cases hr : n % d = 0
        · have hr2 : ((n : Int) % (d : Int) == 0) = true := by rw [beq_iff_eq]; omega
          have HK : Hid (false = okTo n (d + 1)) := by
            rw [Hid, okTo_succ]
            have e1 : decide (d < 2) = false := by simp; omega
            have e2 : decide (d * d > n) = false := by rw [← HSS.out]; simp; omega
            have e3 : (n % d != 0) = false := by rw [hr]; rfl
            rw [e1, e2, e3]
            simp
          clear hr
          go_wp2
          exact ⟨⟨d + 1, by omega, by omega, by go_num, hide (by rw [HK.out]), hx2⟩, by simp [intOf]; omega⟩
        · have hr2 : ((n : Int) % (d : Int) == 0) = false := by rw [beq_eq_false_iff_ne]; omega
          have HK : Hid (okTo n d = okTo n (d + 1)) := by
            rw [Hid, okTo_succ]
            have e3 : (n % d != 0) = true := by rw [bne_iff_ne]; exact hr
            rw [e3]
            simp
          clear hr
          go_wp2
          exact ⟨⟨d + 1, by omega, by omega, by go_num, hide (by rw [HK.out]), hx2⟩, by simp [intOf]; omega⟩
      · have hge : ¬ (s : Int) ≤ (n : Int) := by omega
        have HSS := hide hs
        have e18 : okTo n 18 = okTo n d := okTo_more n d 18 (by omega) hd18
        clear hs
        rcases hb2 : okTo n d with _ | _
        · rw [hb2] at e18
          have hnp : n < p := by
            rcases Nat.lt_or_ge n p with h | h
            · exact h
            · have : n = p := by omega
              rw [this, HP.out] at e18
              cases e18
          clear e18
          go_wp2
          exact ⟨⟨n, by have := HN.out; omega, hnp, rfl, hx2⟩, by have := HN.out; simp [intOf]; omega⟩
        · rw [hb2] at e18
          have hnp : n = p := by
            rcases Nat.lt_or_ge n p with h | h
            · have := HQ.out n (by have := HN.out; omega) h
              rw [e18] at this
              cases this
            · omega
          clear e18
          go_wp2
          go_ret

          exact Ret.mk hx2 rfl

set_option maxRecDepth 20000 in
set_option maxHeartbeats 1600000 in
theorem rturn_any (k : Nat) (h0 : 0 < k) (h1 : k < 32) (x : Nat) (hx : x < 4294967296) (w : World) : Calls Tryd.prog 78 #[.int .u32 (x : Int), .int .i64 (k : Int)] w (Drw (.int .u32 (rotr k x : Int)) w) := by
  go_enter Tryd.func78, Tryd.ntmps78
  go_wp2
  go_quiet (fail)
  go_wp2
  have e1 : ((x : Int) / 2 ^ k) = ((x / 2 ^ k : Nat) : Int) := by rw [Int.natCast_ediv, Int.natCast_pow]; rfl
  have e2 : ((x : Int) * 2 ^ (32 - k) % 4294967296) = ((x * 2 ^ (32 - k) % 4294967296 : Nat) : Int) := by rw [Int.natCast_emod, Int.natCast_mul, Int.natCast_pow]; rfl
  have e3 : bits .or .u32 ((x : Int) / 2 ^ k) ((x : Int) * 2 ^ (32 - k) % 4294967296) = (rotr k x : Int) := by
    rw [e1, e2, u32_or_nat _ _ (Nat.lt_of_le_of_lt (Nat.div_le_self _ _) hx) (Nat.mod_lt _ (by decide)), Nat.or_comm]
    rfl
  rw [e3]
  go_ret
  exact ⟨rfl, _, rfl⟩
end Go.Proofs.YtmanflfanoddgaaDoor
