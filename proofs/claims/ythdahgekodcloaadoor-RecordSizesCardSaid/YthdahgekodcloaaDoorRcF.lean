/-
  Which records there are: the program's Form.
-/
import Derived.Test.YthdahgekodcloaaDoorRcP
namespace Go.Proofs.YthdahgekodcloaaDoor
open Go.RowKit

def PartsP (k : Int) (w : World) (e : Ending) (w' : World) : Prop := e = .returned (.tuple #[.agg #[.bool (hpv k), .bool (hch k), .bool (hbf k), .bool (hnx k), .bool (hck k)], .bool (hok k)]) ∧ Ext w w'
set_option maxRecDepth 20000 in
set_option maxHeartbeats 1600000 in
theorem partsOf_any (k : Int) (w : World) : Calls Tryd.prog 16 #[.int .u8 k] w (PartsP k w) := by
  by_cases h1 : k = 1
  · subst h1
    go_enter Tryd.func16, Tryd.ntmps16
    go_wp2
    exact bodyPost_ret (v := .tuple #[.agg #[.bool false, .bool false, .bool false, .bool false, .bool false], .bool true]) (by simp [results, Tryd.results16, go_sem]) rfl ⟨rfl, Ext.alloc _ _⟩
  by_cases h2 : k = 2
  · subst h2
    clear h1
    go_enter Tryd.func16, Tryd.ntmps16
    go_wp2
    exact bodyPost_ret (v := .tuple #[.agg #[.bool true, .bool true, .bool true, .bool false, .bool false], .bool true]) (by simp [results, Tryd.results16, go_sem]) rfl ⟨rfl, Ext.alloc _ _⟩
  by_cases h3 : k = 3
  · subst h3
    clear h1
    clear h2
    go_enter Tryd.func16, Tryd.ntmps16
    go_wp2
    exact bodyPost_ret (v := .tuple #[.agg #[.bool true, .bool true, .bool false, .bool true, .bool false], .bool true]) (by simp [results, Tryd.results16, go_sem]) rfl ⟨rfl, Ext.alloc _ _⟩
  by_cases h4 : k = 4
  · subst h4
    clear h1
    clear h2
    clear h3
    go_enter Tryd.func16, Tryd.ntmps16
    go_wp2
    exact bodyPost_ret (v := .tuple #[.agg #[.bool true, .bool false, .bool false, .bool false, .bool false], .bool true]) (by simp [results, Tryd.results16, go_sem]) rfl ⟨rfl, Ext.alloc _ _⟩
  by_cases h5 : k = 5
  · subst h5
    clear h1
    clear h2
    clear h3
    clear h4
    go_enter Tryd.func16, Tryd.ntmps16
    go_wp2
    exact bodyPost_ret (v := .tuple #[.agg #[.bool true, .bool false, .bool false, .bool false, .bool false], .bool true]) (by simp [results, Tryd.results16, go_sem]) rfl ⟨rfl, Ext.alloc _ _⟩
  by_cases h6 : k = 6
  · subst h6
    clear h1
    clear h2
    clear h3
    clear h4
    clear h5
    go_enter Tryd.func16, Tryd.ntmps16
    go_wp2
    exact bodyPost_ret (v := .tuple #[.agg #[.bool true, .bool false, .bool false, .bool false, .bool true], .bool true]) (by simp [results, Tryd.results16, go_sem]) rfl ⟨rfl, Ext.alloc _ _⟩
  have HV : PartsP k = fun w e w' => e = .returned (.tuple #[.agg #[.bool false, .bool false, .bool false, .bool false, .bool false], .bool false]) ∧ Ext w w' := by
    funext w e w'
    have e1 : hpv k = false := by simp only [hpv, Bool.and_eq_false_iff, decide_eq_false_iff_not]; omega
    have e2 : hok k = false := by simp only [hok, Bool.and_eq_false_iff, decide_eq_false_iff_not]; omega
    have e3 : hch k = false := by simp [hch, h2, h3]
    have e4 : hbf k = false := by simp [hbf, h2]
    have e5 : hnx k = false := by simp [hnx, h3]
    have e6 : hck k = false := by simp [hck, h6]
    simp only [PartsP, e1, e2, e3, e4, e5, e6]
  rw [HV]
  clear HV
  have b1 : (k == 1) = false := beq_eq_false_iff_ne.2 h1
  have b2 : (k == 2) = false := beq_eq_false_iff_ne.2 h2
  have b3 : (k == 3) = false := beq_eq_false_iff_ne.2 h3
  have b4 : (k == 4) = false := beq_eq_false_iff_ne.2 h4
  have b5 : (k == 5) = false := beq_eq_false_iff_ne.2 h5
  have b6 : (k == 6) = false := beq_eq_false_iff_ne.2 h6
  go_enter Tryd.func16, Tryd.ntmps16
  go_wp2
  exact bodyPost_ret (v := .tuple #[.agg #[.bool false, .bool false, .bool false, .bool false, .bool false], .bool false]) (by simp [results, Tryd.results16, go_sem]) rfl ⟨rfl, Ext.alloc _ _⟩
theorem isPage_any (n : Int) (w : World) : Calls Tryd.prog 29 #[.int .i64 n] w (fun e w' => e = .returned (.bool (isPg n)) ∧ w' = w) := by
  by_cases h0 : 0 ≤ n
  · by_cases h1 : n < 4096
    · have HV : isPg n = true := by simp [isPg]; omega
      rw [HV]
      clear HV
      go_enter Tryd.func29, Tryd.ntmps29
      go_wp2
      go_ret
      exact ⟨rfl, rfl⟩
    · have hd1 : decide (n < 4096) = false := decide_eq_false h1
      have HV : isPg n = false := by simp [isPg]; omega
      rw [HV]
      clear HV
      go_enter Tryd.func29, Tryd.ntmps29
      go_wp2
      go_ret
      exact ⟨rfl, rfl⟩
  · have hd0 : decide (0 ≤ n) = false := decide_eq_false h0
    have HV : isPg n = false := by simp [isPg]; omega
    rw [HV]
    clear HV
    go_enter Tryd.func29, Tryd.ntmps29
    go_wp2
    go_ret
    exact ⟨rfl, rfl⟩
def chgN (pg off : Int) (na nb : Nat) (c b : Bool) : Bool := if c then isPg pg && (decide (1 ≤ na) && ((nb == if b then na else 0) && (decide (0 ≤ off) && decide (off ≤ 512 - (na : Int))))) else (pg == 0) && ((off == 0) && ((na == 0) && (nb == 0)))
set_option maxRecDepth 20000 in
set_option maxHeartbeats 1600000 in
theorem changeFits_any (k tx pv pg off nx : Int) (A B D : Option Addr) (nb a na b' nd d : Nat) (op : Bool) (p c b n x : Bool) (w : World) (hna : na ≤ 140737488351232) (hnb : nb ≤ 140737488351232) (ho : -9223372036854775808 ≤ off) (ho2 : off < 9223372036854775808) :
    Calls Tryd.prog 17 #[.agg #[.int .u8 k, .int .u64 tx, .int .u64 pv, .int .i64 pg, .int .i64 off, .slice A nb a, .slice B na b', .int .u64 nx, .slice D nd d, .bool op], .agg #[.bool p, .bool c, .bool b, .bool n, .bool x]] w (RetB w (chgN pg off na nb c b)) := by
  have HO := hide (And.intro ho ho2)
  clear ho ho2
  cases c with
  | false =>
    by_cases h0 : pg = 0
    · have yh0 : (pg == 0) = true := by simp [h0]
      by_cases h1 : off = 0
      · have yh1 : (off == 0) = true := by simp [h1]
        by_cases h2 : na = 0
        · have yh2 : ((na : Int) == 0) = true := by simp [h2]
          by_cases h3 : nb = 0
          · have yh3 : ((nb : Int) == 0) = true := by simp [h3]
            have HV : chgN pg off na nb false b = true := by simp [chgN, h0, h1, h2, h3]
            rw [HV]
            clear HV
            go_enter Tryd.func17, Tryd.ntmps17
            go_wp2
            go_ret
            exact ⟨rfl, (Ext.alloc _ _).trans (Ext.alloc _ _)⟩
          · have yh3 : ((nb : Int) == 0) = false := by simp [h3]
            have HV : chgN pg off na nb false b = false := by simp [chgN, h0, h1, h2, h3]
            rw [HV]
            clear HV
            go_enter Tryd.func17, Tryd.ntmps17
            go_wp2
            go_ret
            exact ⟨rfl, (Ext.alloc _ _).trans (Ext.alloc _ _)⟩
        · have yh2 : ((na : Int) == 0) = false := by simp [h2]
          have HV : chgN pg off na nb false b = false := by simp [chgN, h0, h1, h2]
          rw [HV]
          clear HV
          go_enter Tryd.func17, Tryd.ntmps17
          go_wp2
          go_ret
          exact ⟨rfl, (Ext.alloc _ _).trans (Ext.alloc _ _)⟩
      · have yh1 : (off == 0) = false := by simp [h1]
        have HV : chgN pg off na nb false b = false := by simp [chgN, h0, h1]
        rw [HV]
        clear HV
        go_enter Tryd.func17, Tryd.ntmps17
        go_wp2
        go_ret
        exact ⟨rfl, (Ext.alloc _ _).trans (Ext.alloc _ _)⟩
    · have yh0 : (pg == 0) = false := by simp [h0]
      have HV : chgN pg off na nb false b = false := by simp [chgN, h0]
      rw [HV]
      clear HV
      go_enter Tryd.func17, Tryd.ntmps17
      go_wp2
      go_ret
      exact ⟨rfl, (Ext.alloc _ _).trans (Ext.alloc _ _)⟩
  | true =>
    obtain ⟨q, HQ⟩ : ∃ q, Hid (isPg pg = q) := ⟨_, hide rfl⟩
    have KP := hide (fun (W : World) => (show Calls Tryd.prog 29 #[.int .i64 pg] W (fun e w' => e = .returned (.bool q) ∧ w' = W) from by have h := isPage_any pg W; rw [HQ.out] at h; exact h))
    obtain ⟨m, HM⟩ : ∃ m : Nat, Hid ((if b then na else 0) = m) := ⟨_, hide rfl⟩
    have hm : m ≤ 140737488351232 := by rw [← HM.out]; split <;> omega
    by_cases h0 : q = true
    · subst h0
      by_cases h1 : 1 ≤ na
      · have h1i : (1 : Int) ≤ (na : Int) := by omega
        by_cases h2 : nb = m
        · have h2i : ((nb : Int) == (m : Int)) = true := by simp [h2]
          by_cases h3 : 0 ≤ off
          · by_cases h4 : off ≤ 512 - (na : Int)
            · have HV : chgN pg off na nb true b = true := by
                have hq := HQ.out
                have hm2 := HM.out
                simp only [chgN, if_true, hq, hm2]
                simp [h1, h2, h3, h4] <;> omega
              rw [HV]
              clear HV
              cases b with
              | false =>
                obtain rfl : m = 0 := HM.out.symm
                go_enter Tryd.func17, Tryd.ntmps17
                go_wp2_with (go_at_call 29; (with_reducible refine (KP.out _).mono ?_); rintro e w2 ⟨rfl, rfl⟩)
                go_ret
                exact ⟨rfl, (Ext.alloc _ _).trans (Ext.alloc _ _)⟩
              | true =>
                obtain rfl : na = m := HM.out
                go_enter Tryd.func17, Tryd.ntmps17
                go_wp2_with (go_at_call 29; (with_reducible refine (KP.out _).mono ?_); rintro e w2 ⟨rfl, rfl⟩)
                go_ret
                exact ⟨rfl, (Ext.alloc _ _).trans (Ext.alloc _ _)⟩
            · have h4i : decide (off ≤ 512 - (na : Int)) = false := decide_eq_false h4
              have HV : chgN pg off na nb true b = false := by
                have hq := HQ.out
                have hm2 := HM.out
                simp only [chgN, if_true, hq, hm2]
                simp [h1, h2, h3, h4] <;> omega
              rw [HV]
              clear HV
              cases b with
              | false =>
                obtain rfl : m = 0 := HM.out.symm
                go_enter Tryd.func17, Tryd.ntmps17
                go_wp2_with (go_at_call 29; (with_reducible refine (KP.out _).mono ?_); rintro e w2 ⟨rfl, rfl⟩)
                go_ret
                exact ⟨rfl, (Ext.alloc _ _).trans (Ext.alloc _ _)⟩
              | true =>
                obtain rfl : na = m := HM.out
                go_enter Tryd.func17, Tryd.ntmps17
                go_wp2_with (go_at_call 29; (with_reducible refine (KP.out _).mono ?_); rintro e w2 ⟨rfl, rfl⟩)
                go_ret
                exact ⟨rfl, (Ext.alloc _ _).trans (Ext.alloc _ _)⟩
          · have h3i : decide (0 ≤ off) = false := decide_eq_false h3
            have HV : chgN pg off na nb true b = false := by
              have hq := HQ.out
              have hm2 := HM.out
              simp only [chgN, if_true, hq, hm2]
              simp [h1, h2, h3] <;> omega
            rw [HV]
            clear HV
            cases b with
            | false =>
              obtain rfl : m = 0 := HM.out.symm
              go_enter Tryd.func17, Tryd.ntmps17
              go_wp2_with (go_at_call 29; (with_reducible refine (KP.out _).mono ?_); rintro e w2 ⟨rfl, rfl⟩)
              go_ret
              exact ⟨rfl, (Ext.alloc _ _).trans (Ext.alloc _ _)⟩
            | true =>
              obtain rfl : na = m := HM.out
              go_enter Tryd.func17, Tryd.ntmps17
              go_wp2_with (go_at_call 29; (with_reducible refine (KP.out _).mono ?_); rintro e w2 ⟨rfl, rfl⟩)
              go_ret
              exact ⟨rfl, (Ext.alloc _ _).trans (Ext.alloc _ _)⟩
        · have h2i : ((nb : Int) == (m : Int)) = false := by simp; omega
          have HV : chgN pg off na nb true b = false := by
            have hq := HQ.out
            have hm2 := HM.out
            simp only [chgN, if_true, hq, hm2]
            simp [h1, h2] <;> omega
          rw [HV]
          clear HV
          cases b with
          | false =>
            obtain rfl : m = 0 := HM.out.symm
            go_enter Tryd.func17, Tryd.ntmps17
            go_wp2_with (go_at_call 29; (with_reducible refine (KP.out _).mono ?_); rintro e w2 ⟨rfl, rfl⟩)
            go_ret
            exact ⟨rfl, (Ext.alloc _ _).trans (Ext.alloc _ _)⟩
          | true =>
            obtain rfl : na = m := HM.out
            go_enter Tryd.func17, Tryd.ntmps17
            go_wp2_with (go_at_call 29; (with_reducible refine (KP.out _).mono ?_); rintro e w2 ⟨rfl, rfl⟩)
            go_ret
            exact ⟨rfl, (Ext.alloc _ _).trans (Ext.alloc _ _)⟩
      · have h1i : decide ((1 : Int) ≤ (na : Int)) = false := by simp; omega
        have HV : chgN pg off na nb true b = false := by
          have hq := HQ.out
          have hm2 := HM.out
          simp only [chgN, if_true, hq, hm2]
          simp [h1] <;> omega
        rw [HV]
        clear HV
        cases b with
        | false =>
          obtain rfl : m = 0 := HM.out.symm
          go_enter Tryd.func17, Tryd.ntmps17
          go_wp2_with (go_at_call 29; (with_reducible refine (KP.out _).mono ?_); rintro e w2 ⟨rfl, rfl⟩)
          go_ret
          exact ⟨rfl, (Ext.alloc _ _).trans (Ext.alloc _ _)⟩
        | true =>
          obtain rfl : na = m := HM.out
          go_enter Tryd.func17, Tryd.ntmps17
          go_wp2_with (go_at_call 29; (with_reducible refine (KP.out _).mono ?_); rintro e w2 ⟨rfl, rfl⟩)
          go_ret
          exact ⟨rfl, (Ext.alloc _ _).trans (Ext.alloc _ _)⟩
    · have h0 : q = false := by simpa using h0
      subst h0
      have HV : chgN pg off na nb true b = false := by
        have hq := HQ.out
        have hm2 := HM.out
        simp only [chgN, if_true, hq, hm2]
        simp
      rw [HV]
      clear HV
      cases b with
      | false =>
        obtain rfl : m = 0 := HM.out.symm
        go_enter Tryd.func17, Tryd.ntmps17
        go_wp2_with (go_at_call 29; (with_reducible refine (KP.out _).mono ?_); rintro e w2 ⟨rfl, rfl⟩)
        go_ret
        exact ⟨rfl, (Ext.alloc _ _).trans (Ext.alloc _ _)⟩
      | true =>
        obtain rfl : na = m := HM.out
        go_enter Tryd.func17, Tryd.ntmps17
        go_wp2_with (go_at_call 29; (with_reducible refine (KP.out _).mono ?_); rintro e w2 ⟨rfl, rfl⟩)
        go_ret
        exact ⟨rfl, (Ext.alloc _ _).trans (Ext.alloc _ _)⟩
end Go.Proofs.YthdahgekodcloaaDoor
