/-
  cellsFit, Form: contracts.
-/
import Derived.Test.YtmamhinpkioogaaPgJ
namespace Go.Proofs.Ytmamhinpkioogaa
open Go.RowKit

def fitAt (L : List Cl) (j : Nat) : Bool := decide ((L.getD j ([], [])).1.length ≤ 90) && decide ((L.getD j ([], [])).2.length ≤ 150) && (j == 0 || Op.bytesLess (L.getD (j - 1) ([], [])).1 (L.getD j ([], [])).1)
def fitB (L : List Cl) : Bool := (List.range L.length).all (fitAt L)
theorem fitB_no {L : List Cl} {j : Nat} (hj : j < L.length) (h : fitAt L j = false) : fitB L = false := by
  unfold fitB
  rw [List.all_eq_false]
  exact ⟨j, List.mem_range.2 hj, by rw [h]; decide⟩
theorem fitB_yes {L : List Cl} (h : ∀ j, j < L.length → fitAt L j = true) : fitB L = true := by
  unfold fitB
  rw [List.all_eq_true]
  exact fun j hj => h j (List.mem_range.1 hj)
theorem getD_at {L : List Cl} {j : Nat} {x : Cl} (h : L[j]? = some x) : L.getD j ([], []) = x := by rw [List.getD_eq_getElem?_getD, h]; rfl
set_option maxRecDepth 20000 in
set_option maxHeartbeats 3200000 in
theorem cellsFit_any {A : Option Addr} {L : List Cl} (n c : Nat) (w : World) (hr : RdC w A L) (hn : L.length = n) (hl : n ≤ 1000000) :
    Calls Try.prog 29 #[.slice A n c] w (Ret w (Is (.bool (fitB L)))) := by
  have HR := hide hr
  have HN := hide hn
  have HL := hide hl
  obtain ⟨r, HFR⟩ : ∃ r, Hid (fitB L = r) := ⟨_, hide rfl⟩
  rw [HFR.out]
  clear hr hn hl
  go_enter Try.func29, Try.ntmps29
  go_wp2
  go_loopw [7] (fun iv wr => ∃ k : Nat, k ≤ n ∧ iv = .int .i64 (k : Int) ∧ Hid (∀ j, j < k → fitAt L j = true) ∧ Hid (Ext w wr)) (fun iv _ => n - (intOf iv).toNat)
  case atStart => exact ⟨0, Nat.zero_le _, rfl, hide (fun j h => by omega), hide (Ext.refl _)⟩
  case round =>
    obtain ⟨k, hk, rfl, HA, HX⟩ := hrel
    by_cases hlt : k < n
    · obtain ⟨x, hx⟩ : ∃ x, L[k]? = some x := ⟨_, List.getElem?_eq_getElem (by rw [HN.out]; exact hlt)⟩
      obtain ⟨b, off, A1, c1, A2, c2, rfl, k1, k2, -, -, h5, h6⟩ := (HR.out.ext HX.out).at hx
      have HQ := hide h5
      have HXK := hide hx
      have HFA : Hid (fitAt L k = (decide (x.1.length ≤ 90) && decide (x.2.length ≤ 150) && (k == 0 || Op.bytesLess (L.getD (k - 1) ([], [])).1 x.1))) := hide (by unfold fitAt; rw [getD_at hx])
      have HKL : Hid (k < L.length) := hide (by rw [HN.out]; exact hlt)
      obtain ⟨n1, HN1⟩ : ∃ n1, Hid (x.1.length = n1) := ⟨_, hide rfl⟩
      obtain ⟨n2, HN2⟩ : ∃ n2, Hid (x.2.length = n2) := ⟨_, hide rfl⟩
      rw [HN1.out] at k1 HFA
      rw [HN2.out] at k2 HFA
      have hki : (k : Int) < (n : Int) := by omega
      have hk0 : (0 : Int) ≤ (k : Int) := by omega
      have hkm : (k : Int) < 1000000 := by have := HL.out; omega
      clear hx h5 h6
      by_cases h90 : 90 < n1
      · have h90i : (90 : Int) < (n1 : Int) := by omega
        have HF : Hid (r = false) := hide (by rw [← HFR.out]; exact fitB_no HKL.out (by rw [HFA.out, show decide (n1 ≤ 90) = false by simp; omega]; rfl))
        clear h90
        go_wp2
        go_ret
        exact Ret.mk (HX.out.trans (Ext.alloc _ _)) (by rw [HF.out]; rfl)
      · have h90i : ¬ (90 : Int) < (n1 : Int) := by omega
        by_cases h150 : 150 < n2
        · have h150i : (150 : Int) < (n2 : Int) := by omega
          have HF : Hid (r = false) := hide (by rw [← HFR.out]; exact fitB_no HKL.out (by rw [HFA.out, show decide (n2 ≤ 150) = false by simp; omega]; simp))
          clear h90 h150
          go_wp2
          go_ret
          exact Ret.mk (HX.out.trans (Ext.alloc _ _)) (by rw [HF.out]; rfl)
        · have h150i : ¬ (150 : Int) < (n2 : Int) := by omega
          have HFA2 : Hid (fitAt L k = (k == 0 || Op.bytesLess (L.getD (k - 1) ([], [])).1 x.1)) := hide (by rw [HFA.out, show decide (n1 ≤ 90) = true by simp; omega, show decide (n2 ≤ 150) = true by simp; omega]; rfl)
          clear h90 h150
          by_cases hk00 : k = 0
          · subst hk00
            have HA2 : Hid (∀ j, j < 1 → fitAt L j = true) := hide (fun j hj => by
              have e : j = 0 := by omega
              subst e
              rw [HFA2.out]; rfl)
            simp only [Nat.zero_mul, Nat.add_zero] at k1 k2
            go_wp2
            go_quiet (fail)
            go_wp2
            refine ⟨⟨1, by omega, by go_num, HA2, hide (HX.out.trans ((Ext.alloc _ _).trans ((Ext.refl _).drewN _)))⟩, by simp [intOf]; omega⟩
          · obtain ⟨m, HKM⟩ : ∃ m, Hid (k = m + 1) := ⟨k - 1, hide (by omega)⟩
            obtain ⟨y, hy⟩ : ∃ y, L[m]? = some y := ⟨_, List.getElem?_eq_getElem (by have := HKL.out; have := HKM.out; omega)⟩
            obtain ⟨b', off', B1, d1, B2, d2, hbb, m1, m2, -, -, q5, q6⟩ := (HR.out.ext HX.out).at hy
            injection hbb with hbb
            injection hbb with e1 e2
            subst e1 e2
            have HFA3 : Hid (fitAt L k = Op.bytesLess y.1 x.1) := hide (by rw [HFA2.out, HKM.out, Nat.add_sub_cancel, getD_at hy]; simp)
            have hk1 : (0 : Int) < (k : Int) := by omega
            have hkd : (k : Int) - 1 = (m : Int) := by have := HKM.out; omega
            have hm0 : (0 : Int) ≤ (m : Int) := by omega
            have hmn : (m : Int) < (n : Int) := by omega
            obtain ⟨p1, HP1⟩ : ∃ p1, Hid (y.1.length = p1) := ⟨_, hide rfl⟩
            rw [HP1.out] at m1
            obtain ⟨v, HV⟩ : ∃ v, Hid (cmpB y.1 x.1 = v) := ⟨_, hide rfl⟩
            have KC := hide (fun (W : World) (hW : Ext wr W) => (show Calls Try.prog 35 #[.slice B1 p1 d1, .slice A1 n1 c1] W (fun e w' => e = .returned (.int .i64 v) ∧ W = w') from by
              have := compare_any (l := y.1) (m := x.1) p1 d1 n1 c1 W (q5.ext hW) (HQ.out.ext hW) HP1.out HN1.out
              rw [HV.out] at this
              exact this))
            clear hy q5 q6 hk00
            have HVL : Hid (v < 0 ↔ fitAt L k = true) := hide (by rw [← HV.out, HFA3.out, cmpB_lt])
            have KC2 := hide (fun (W : World) (hW : Ext wr W) => (show Calls Try.prog 35 #[.slice B1 p1 d1, .slice A1 n1 c1] W (fun e w' => e = .returned (.int .i64 v) ∧ w' = W) from (KC.out W hW).mono fun e w' h => ⟨h.1, h.2.symm⟩))
            clear KC
            have hkm2 : (k : Int) ≤ 1000000 := by omega
            have hks : IntKind.i64.wrap (m : Int) = (m : Int) := by rw [IntKind.wrap_i64]; omega
            have hk1n : 0 < k := by omega
            have hk1d : decide (0 < k) = true := decide_eq_true hk1n
            cases hf : fitAt L k with
            | true =>
              have hv : v < 0 := HVL.out.2 hf
              have hv1 : decide (0 ≤ v) = false := decide_eq_false (by omega)
              have hv2 : ¬ (0 : Int) ≤ v := by omega
              have HA2 : Hid (∀ j, j < k + 1 → fitAt L j = true) := hide (fun j hj => by
                by_cases e : j = k
                · subst e; exact hf
                · exact HA.out j (by omega))
              clear hf
              go_wp2
              obtain ⟨W1, hX1, hR1, hg⟩ : ∃ W1, Ext wr W1 ∧ Rw W1 wr.heap.size 40 [.slice A1 n1 c1, .slice A2 n2 c2] ∧ wr.alloc (.cells #[.slice A1 n1 c1, .slice A2 n2 c2] 40) = W1 := ⟨_, Ext.alloc _ _, Rw.new _ _ _, rfl⟩
              rw [hg]
              clear hg
              have m1b := hX1.keeps.cell m1
              have z0 := hR1.cell (i := 0) rfl
              have XW := hide hX1
              clear hX1 hR1
              go_quiet ((go_at_call 35; exact Calls.quiet_of_same (KC2.out _ (XW.out.trans ((Ext.refl _).drewN _)))))
              go_wp2
              refine ⟨⟨k + 1, by omega, by go_num, HA2, hide (HX.out.trans (XW.out.trans ((Ext.refl _).drewN _)))⟩, by simp [intOf]; omega⟩
            | false =>
              have hv : ¬ v < 0 := fun h => by rw [HVL.out.1 h] at hf; cases hf
              have hv1 : decide (0 ≤ v) = true := decide_eq_true (by omega)
              have hv2 : (0 : Int) ≤ v := by omega
              have HF : Hid (r = false) := hide (by rw [← HFR.out]; exact fitB_no HKL.out hf)
              clear hf
              go_wp2
              obtain ⟨W1, hX1, hR1, hg⟩ : ∃ W1, Ext wr W1 ∧ Rw W1 wr.heap.size 40 [.slice A1 n1 c1, .slice A2 n2 c2] ∧ wr.alloc (.cells #[.slice A1 n1 c1, .slice A2 n2 c2] 40) = W1 := ⟨_, Ext.alloc _ _, Rw.new _ _ _, rfl⟩
              rw [hg]
              clear hg
              have m1b := hX1.keeps.cell m1
              have z0 := hR1.cell (i := 0) rfl
              have XW := hide hX1
              clear hX1 hR1
              go_quiet ((go_at_call 35; exact Calls.quiet_of_same (KC2.out _ (XW.out.trans ((Ext.refl _).drewN _)))))
              go_wp2
              go_ret
              exact Ret.mk (HX.out.trans (XW.out.trans ((Ext.refl _).drewN _))) (by rw [HF.out]; rfl)
    · have hki : ¬ (k : Int) < (n : Int) := by omega
      have HF : Hid (r = true) := hide (by rw [← HFR.out]; exact fitB_yes (fun j hj => HA.out j (by rw [HN.out] at hj; omega)))
      go_wp2
      go_ret
      exact Ret.mk HX.out (by rw [HF.out]; rfl)
end Go.Proofs.Ytmamhinpkioogaa
