/-
  Halves: plain, and the program's contract.
-/
import Derived.Test.YtmamhinpkioogaaPgA
namespace Go.Proofs.Ytmamhinpkioogaa
open Go.RowKit

def distH (L : List Cl) (n : Nat) : Nat := ((2 * (szs (L.take n) : Int)) - (szs L : Int)).natAbs
/-- The best place ahead of n, and how far the parts are from one another there. -/
def hK (L : List Cl) : Nat → Nat × Nat
  | 0 => (0, 0)
  | n + 1 => if n = 0 then (0, 0) else if (hK L n).1 = 0 ∨ distH L n < (hK L n).2 then (n, distH L n) else hK L n
theorem hK_succ (L : List Cl) (n : Nat) (h : 1 ≤ n) : hK L (n + 1) = if (hK L n).1 = 0 ∨ distH L n < (hK L n).2 then (n, distH L n) else hK L n := by
  rw [hK, if_neg (by omega)]
def halves (L : List Cl) : Nat := (hK L (max L.length 1)).1
theorem dist_wraps {W F d : Nat} (hW : W ≤ 281474976710656000) (hF : F ≤ 281474976710656000) (hd : d = (2 * (F : Int) - (W : Int)).natAbs) : wrap64 (2 * (F : Int)) = 2 * (F : Int) ∧ wrap64 ((W : Int) - 2 * (F : Int)) = (W : Int) - 2 * (F : Int) ∧ wrap64 (2 * (F : Int) - (W : Int)) = 2 * (F : Int) - (W : Int) ∧ (if (W : Int) - 2 * (F : Int) < 2 * (F : Int) - (W : Int) then 2 * (F : Int) - (W : Int) else (W : Int) - 2 * (F : Int)) = (d : Int) := by
  refine ⟨by unfold wrap64; omega, by unfold wrap64; omega, by unfold wrap64; omega, by split <;> omega⟩
theorem szs_le_all {L : List Cl} (h : Small L) (hl : L.length ≤ 1000) : szs L ≤ 281474976710656000 := by
  have := szs_take_le h hl L.length
  rwa [List.take_length] at this
set_option maxRecDepth 20000 in
set_option maxHeartbeats 3200000 in
theorem halves_any {A : Option Addr} {L : List Cl} (n c : Nat) (w : World) (hr : RdC w A L) (hn : L.length = n) (hl : n ≤ 1000) (hS : Small L) :
    Calls Try.prog 27 #[.slice A n c] w (Ret w (Is (.int .i64 (halves L : Int)))) := by
  have KS := hide (show Calls Try.prog 14 #[.slice A n c] w (Ret w (Is (.int .i64 (szs L : Int)))) from by
    have := size_any A c L w hr hS (by omega)
    rw [hn] at this
    exact this)
  have HR := hide hr
  have HN := hide hn
  have HS := hide hS
  have HL : Hid (n ≤ 1000) := hide hl
  obtain ⟨W, HW⟩ : ∃ W, Hid (szs L = W) := ⟨_, hide rfl⟩
  have HWL : Hid (W ≤ 281474976710656000) := hide (by rw [← HW.out]; exact szs_le_all hS (by omega))
  rw [HW.out] at KS
  clear hr hn hl hS
  go_enter Try.func27, Try.ntmps27
  go_wp2_with (go_at_call 14; (with_reducible refine KS.out.mono ?_); rintro e w1 ⟨v1, rfl, hx1, rfl⟩; have X1 := hide hx1; clear hx1)
  go_loopw [3, 4, 6, 7] (fun bv lv fv nv wr => ∃ k b l : Nat, 1 ≤ k ∧ k ≤ max n 1 ∧ bv = .int .i64 (b : Int) ∧ lv = .int .i64 (l : Int) ∧ fv = .int .i64 (szs (L.take (k - 1)) : Int) ∧ nv = .int .i64 (k : Int) ∧ Hid (hK L k = (b, l)) ∧ Hid (Ext w wr)) (fun _ _ _ nv _ => n - (intOf nv).toNat)
  case atStart => exact ⟨1, 0, 0, Nat.le_refl _, by omega, rfl, rfl, rfl, rfl, hide rfl, X1⟩
  case round =>
    obtain ⟨k, b, l, hk1, hkn, rfl, rfl, rfl, rfl, HK, HX⟩ := hrel
    have hl1000 : (n : Int) ≤ 1000 := by have := HL.out; omega
    by_cases hlt : k < n
    · obtain ⟨m, HM⟩ : ∃ m, Hid (k = m + 1) := ⟨k - 1, hide (by omega)⟩
      obtain ⟨x, hx⟩ : ∃ x, L[m]? = some x := ⟨_, List.getElem?_eq_getElem (by have := HM.out; have := HN.out; omega)⟩
      obtain ⟨o, off, A1, c1, A2, c2, rfl, k1, k2, -, -, -, -⟩ := (HR.out.ext HX.out).at hx
      have hsm := HS.out.at hx
      have HSN := hide (szs_snoc L m x hx)
      have HK1 : Hid (k - 1 = m) := hide (by have := HM.out; omega)
      rw [HK1.out]
      obtain ⟨s, HSS⟩ : ∃ s, Hid (szs (L.take m) = s) := ⟨_, hide rfl⟩
      have hsl : s ≤ 281474976710656000 := by rw [← HSS.out]; exact szs_take_le HS.out (by rw [HN.out]; exact HL.out) m
      obtain ⟨n1, HN1⟩ : ∃ n1, Hid (x.1.length = n1) := ⟨_, hide rfl⟩
      obtain ⟨n2, HN2⟩ : ∃ n2, Hid (x.2.length = n2) := ⟨_, hide rfl⟩
      rw [HN1.out] at k1 hsm
      rw [HN2.out] at k2 hsm
      have KZ := hide (fun (V : World) => sizeOf_any A1 A2 n1 n2 c1 c2 V hsm.1 hsm.2)
      have HW1 := hide (szs_add_wrap hsl hsm.1 hsm.2)
      obtain ⟨F, HF⟩ : ∃ F, Hid (szs (L.take k) = F) := ⟨_, hide rfl⟩
      have HSN2 : Hid ((s : Int) + (2 + (n1 : Int) + (n2 : Int)) = (F : Int)) := hide (by rw [← HF.out, HM.out, HSN.out, HSS.out]; unfold sz; rw [HN1.out, HN2.out]; omega)
      have HFL : Hid (F ≤ 281474976710656000) := hide (by rw [← HF.out]; exact szs_take_le HS.out (by rw [HN.out]; exact HL.out) k)
      obtain ⟨d, HD⟩ : ∃ d, Hid (distH L k = d) := ⟨_, hide rfl⟩
      have HDD := hide (dist_wraps HWL.out HFL.out (show d = _ from by rw [← HD.out]; unfold distH; rw [HF.out, HW.out]))
      have HKS := hide (hK_succ L k hk1)
      rw [HK.out, HD.out] at HKS
      have hki : (k : Int) < (n : Int) := by omega
      have hkd : (k : Int) - 1 = (m : Int) := by have := HM.out; omega
      have hm0 : (0 : Int) ≤ (m : Int) := by omega
      have hmn : (m : Int) < (n : Int) := by omega
      have hk0 : (0 : Int) ≤ (k : Int) := by omega
      rw [HSS.out]
      clear hx hsl hsm
      go_upto_region 7 with (go_at_call 30; (with_reducible refine (KZ.out _).mono ?_); rintro e w2 ⟨v2, rfl, hx2, rfl⟩; have X2 := hide (HX.out.trans hx2); clear hx2)
      rw [HW1.out, HSN2.out]
      obtain ⟨d1, d2, d3, d4⟩ := HDD.out
      have D4 := hide d4
      clear d4
      go_upto_region 8 with fail
      rw [D4.out]
      clear d1 d2 d3 D4 HDD
      by_cases hb0 : b = 0
      · subst hb0
        have HK2 : Hid (hK L (k + 1) = (k, d)) := hide (by rw [HKS.out, if_pos (.inl rfl)])
        go_wp2
        refine ⟨⟨k + 1, k, d, by omega, by omega, rfl, rfl, by rw [Nat.add_sub_cancel, HF.out], by go_num, HK2, X2⟩, by simp [intOf]; omega⟩
      · have hbe : ((b : Int) == 0) = false := beq_eq_false_iff_ne.2 (by omega)
        have hbe2 : ¬ ((b : Int) = 0) := by omega
        by_cases hdl : d < l
        · have hdi : (d : Int) < (l : Int) := by omega
          have HK2 : Hid (hK L (k + 1) = (k, d)) := hide (by rw [HKS.out, if_pos (.inr hdl)])
          go_wp2
          refine ⟨⟨k + 1, k, d, by omega, by omega, rfl, rfl, by rw [Nat.add_sub_cancel, HF.out], by go_num, HK2, X2⟩, by simp [intOf]; omega⟩
        · have hdi : ¬ (d : Int) < (l : Int) := by omega
          have HK2 : Hid (hK L (k + 1) = (b, l)) := hide (by rw [HKS.out, if_neg (by intro h; rcases h with h | h; exact hb0 h; exact hdl h)])
          go_wp2
          refine ⟨⟨k + 1, b, l, by omega, by omega, rfl, rfl, by rw [Nat.add_sub_cancel, HF.out], by go_num, HK2, X2⟩, by simp [intOf]; omega⟩
    · have hki : ¬ (k : Int) < (n : Int) := by omega
      have HE : Hid (halves L = b) := hide (by unfold halves; rw [HN.out, show max n 1 = k by omega, HK.out])
      go_wp2
      go_ret
      exact Ret.mk HX.out (by rw [HE.out]; rfl)
end Go.Proofs.Ytmamhinpkioogaa
