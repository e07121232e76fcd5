/-
  Decode's parts: noughts, firstCell.
-/
import Derived.Test.YtmamhinpkioogaaPgFi
namespace Go.Proofs.Ytmamhinpkioogaa
open Go.RowKit

def zerosB (l : List UInt8) : Bool := l.all (· == 0)
set_option maxRecDepth 20000 in
set_option maxHeartbeats 800000 in
theorem noughts_any (A : Option Addr) (l : List UInt8) (n c : Nat) (w : World) (hr : Rd w A l) (hn : l.length = n) (hl : n ≤ 1000) :
    Calls Try.prog 32 #[.slice A n c] w (fun e w' => e = .returned (.bool (zerosB l)) ∧ ∃ q, w' = w.drewN q) := by
  have HR := hide hr
  have HN := hide hn
  have HL := hide hl
  clear hr hn hl
  go_enter Try.func32, Try.ntmps32
  go_wp2
  go_loopw [7] (fun iv wr => ∃ k q : Nat, k ≤ n ∧ iv = .int .i64 (k : Int) ∧ Hid (∀ (j : Nat) (x : UInt8), j < k → l[j]? = some x → x = 0) ∧ Hid (wr = w.drewN q)) (fun iv _ => n - (intOf iv).toNat)
  case atStart => exact ⟨0, 0, Nat.zero_le _, rfl, hide (fun j x h => by omega), hide rfl⟩
  case round =>
    obtain ⟨k, q, hk, rfl, HA, HX⟩ := hrel
    have hln : (n : Int) ≤ 1000 := by have := HL.out; omega
    by_cases hlt : k < n
    · obtain ⟨x, hx⟩ : ∃ x, l[k]? = some x := ⟨_, List.getElem?_eq_getElem (by have := HN.out; omega)⟩
      obtain ⟨o, off, rfl, hc⟩ := (HR.out.ext (show Ext w wr by rw [HX.out]; exact (Ext.refl w).drewN q)) (by intro e; rw [e] at hx; cases hx)
      have m := hc k x hx
      have hki : (k : Int) < (n : Int) := by omega
      have hk0 : (0 : Int) ≤ (k : Int) := by omega
      obtain ⟨v, HV⟩ : ∃ v, Hid (x.toNat = v) := ⟨_, hide rfl⟩
      rw [HV.out] at m
      by_cases h0 : v = 0
      · have hvz : ((v : Int) == 0) = true := by rw [h0]; rfl
        have hvi : (v : Int) = 0 := by omega
        have HA2 : Hid (∀ (j : Nat) (x : UInt8), j < k + 1 → l[j]? = some x → x = 0) := hide (fun j y hj hy => by
          by_cases e : j = k
          · subst e
            rw [hx] at hy
            injection hy with hy
            rw [← hy]
            exact UInt8.toNat_inj.1 (by rw [HV.out, h0]; rfl)
          · exact HA.out j y (by omega) hy)
        clear h0 hc hx
        go_wp2
        refine ⟨⟨k + 1, q, by omega, by go_num, HA2, HX⟩, by simp [intOf]; omega⟩
      · have hvz : ((v : Int) == 0) = false := beq_eq_false_iff_ne.2 (by omega)
        have hvi : ¬ (v : Int) = 0 := by omega
        have HF : Hid (zerosB l = false) := hide (by
          unfold zerosB
          cases hz : l.all (· == 0) with
          | false => rfl
          | true =>
            have h2 := List.all_eq_true.1 hz x (List.mem_of_getElem? hx)
            have h3 : x = 0 := by simpa using h2
            exfalso
            apply h0
            rw [← HV.out, h3]
            rfl)
        clear h0 hc hx
        go_wp2
        go_ret
        exact ⟨by rw [HF.out]; rfl, q, HX.out⟩
    · have hki : ¬ (k : Int) < (n : Int) := by omega
      have HF : Hid (zerosB l = true) := hide (by
        unfold zerosB
        rw [List.all_eq_true]
        intro x hx
        obtain ⟨j, hj⟩ := List.mem_iff_getElem?.1 hx
        have := HA.out j x (by have h1 := (List.getElem?_eq_some_iff.1 hj).1; rw [HN.out] at h1; omega) hj
        rw [this]
        rfl)
      go_wp2
      go_ret
      exact ⟨by rw [HF.out]; rfl, q, HX.out⟩
end Go.Proofs.Ytmamhinpkioogaa
