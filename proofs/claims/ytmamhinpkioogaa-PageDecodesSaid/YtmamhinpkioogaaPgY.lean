/-
  The document's Form: contract.
-/
import Derived.Test.YtmamhinpkioogaaPgSw
namespace Go.Proofs.Ytmamhinpkioogaa
open Go.RowKit

theorem szs_ge (L : List Cl) : 2 * L.length ≤ szs L := by
  induction L with
  | nil => exact Nat.zero_le _
  | cons x L ih =>
    have e : szs (x :: L) = sz x + szs L := by simp [szs]
    rw [e, List.length_cons]
    unfold sz
    omega
theorem fit_iff (L : List Cl) : fitB L = true ↔ Rises L ∧ ∀ (j : Nat) (x : Cl), L[j]? = some x → x.1.length ≤ 90 ∧ x.2.length ≤ 150 := by
  constructor
  · intro h
    have hat : ∀ (j : Nat) (x : Cl), L[j]? = some x → (x.1.length ≤ 90 ∧ x.2.length ≤ 150) ∧ (j = 0 ∨ Op.bytesLess (L.getD (j - 1) ([], [])).1 x.1 = true) := fun j x hj => by
      unfold fitB at h
      rw [List.all_eq_true] at h
      have h3 := h j (List.mem_range.2 (List.getElem?_eq_some_iff.1 hj).1)
      unfold fitAt at h3
      rw [getD_at hj] at h3
      simpa using h3
    refine ⟨rises_of_adj (fun j x y _ hx hy => ?_), fun j x hj => (hat j x hj).1⟩
    rcases (hat (j + 1) y hy).2 with h0 | h0
    · omega
    · rw [Nat.add_sub_cancel, getD_at hx] at h0
      exact h0
  · rintro ⟨hR, hl⟩
    refine fitB_yes (fun j hj => ?_)
    have hx : L[j]? = some L[j] := List.getElem?_eq_getElem hj
    have h1 := hl j _ hx
    unfold fitAt
    rw [getD_at hx]
    have h2 : (j == 0 || Op.bytesLess (L.getD (j - 1) ([], [])).1 (L[j]).1) = true := by
      cases j with
      | zero => rfl
      | succ j =>
        have hy : L[j]? = some L[j] := List.getElem?_eq_getElem (by omega)
        rw [Nat.add_sub_cancel, getD_at hy, adj_of_rises hR j _ _ hy hx]
        simp
    rw [h2]
    simp [h1.1, h1.2]
theorem formB_no {kind next : Int} {L : List Cl} (h : 3 < kind ∨ next < 0 ∨ 4095 < next ∨ 255 < L.length ∨ ¬ Rises L ∨ (∃ (j : Nat) (x : Cl), L[j]? = some x ∧ (90 < x.1.length ∨ 150 < x.2.length)) ∨ 498 < szs L) : formB kind next L = false := by
  cases hf : formB kind next L with
  | false => rfl
  | true =>
    exfalso
    unfold formB at hf
    simp only [Bool.and_eq_true, decide_eq_true_eq] at hf
    obtain ⟨⟨⟨⟨h1, h2⟩, h3⟩, h4⟩, h5⟩ := hf
    obtain ⟨hR, hl⟩ := (fit_iff L).1 h5
    have h6 := szs_ge L
    rcases h with h | h | h | h | h | ⟨j, x, hj, h⟩ | h
    · omega
    · omega
    · omega
    · omega
    · exact h hR
    · have := hl j x hj; omega
    · omega
theorem formB_yes {kind next : Int} {L : List Cl} (h1 : kind ≤ 3) (h2 : 0 ≤ next) (h3 : next ≤ 4095) (hR : Rises L) (hl : ∀ (j : Nat) (x : Cl), L[j]? = some x → x.1.length ≤ 90 ∧ x.2.length ≤ 150) (h4 : szs L ≤ 498) : formB kind next L = true := by
  unfold formB
  simp only [Bool.and_eq_true, decide_eq_true_eq]
  exact ⟨⟨⟨⟨h1, h2⟩, by omega⟩, h4⟩, (fit_iff L).2 ⟨hR, hl⟩⟩
set_option maxRecDepth 20000 in
set_option maxHeartbeats 3200000 in
theorem rform_any {A : Option Addr} {L : List Cl} (kind next : Int) (n c : Nat) (w : World) (hr : RdC w A L) (hn : L.length = n) (hl : n ≤ 1000) (hS : Small L) :
    Calls Try.prog 13 #[.agg #[.int .u8 kind, .int .i64 next, .slice A n c]] w (Ret w (Is (.bool (formB kind next L)))) := by
  have KR := hide (fun (h : Rises L) (W : World) (hW : Ext w W) => rrises_yes n c W (hr.ext hW) hn (by omega) h)
  have KN := hide (fun (h : ¬ Rises L) (W : World) (hW : Ext w W) => rrises_no n c W (hr.ext hW) hn (by omega) h)
  have KS := hide (fun (W : World) (hW : Ext w W) => rsize_any n c W (hr.ext hW) hn hl hS)
  have HN := hide hn
  have HL := hide hl
  have HR := hide hr
  have HNO := hide (@formB_no kind next L)
  have HYES := hide (@formB_yes kind next L)
  obtain ⟨r, HRR⟩ : ∃ r, Hid (formB kind next L = r) := ⟨_, hide rfl⟩
  obtain ⟨s, HSS⟩ : ∃ s, Hid (szs L = s) := ⟨_, hide rfl⟩
  rw [HSS.out] at KS
  clear hr hn hl hS
  by_cases h1 : 3 < kind
  · have HF := hide (HNO.out (.inl h1))
    rw [HF.out]
    clear HNO HYES
    go_enter Try.func13, Try.ntmps13
    go_wp2
    go_ret
    exact Ret.mk (Ext.alloc _ _) rfl
  by_cases h2 : next < 0
  · have HF := hide (HNO.out (.inr (.inl h2)))
    rw [HF.out]
    clear HNO HYES
    go_enter Try.func13, Try.ntmps13
    go_wp2
    go_ret
    exact Ret.mk (Ext.alloc _ _) rfl
  by_cases h3 : 4095 < next
  · have HF := hide (HNO.out (.inr (.inr (.inl h3))))
    rw [HF.out]
    clear HNO HYES
    go_enter Try.func13, Try.ntmps13
    go_wp2
    go_ret
    exact Ret.mk (Ext.alloc _ _) rfl
  by_cases h4 : 255 < n
  · have HF := hide (HNO.out (.inr (.inr (.inr (.inl (by rw [HN.out]; exact h4))))))
    have h4i : (255 : Int) < (n : Int) := by omega
    rw [HF.out]
    clear HNO HYES h4
    go_enter Try.func13, Try.ntmps13
    go_wp2
    go_ret
    exact Ret.mk (Ext.alloc _ _) rfl
  have h4i : ¬ (255 : Int) < (n : Int) := by omega
  by_cases h5 : Rises L
  · rw [HRR.out]
    go_enter Try.func13, Try.ntmps13
    go_upto_region 1 with fail
    obtain ⟨W1, hX1, hR1, hg⟩ : ∃ W1, Ext w W1 ∧ Rw W1 w.heap.size 24 [.int .u8 kind, .int .i64 next, .slice A n c] ∧ w.alloc (.cells #[.int .u8 kind, .int .i64 next, .slice A n c] 24) = W1 := ⟨_, Ext.alloc _ _, Rw.new _ _ _, rfl⟩
    rw [hg]
    have z0 := hR1.cell (i := 0) rfl
    have z1 := hR1.cell (i := 1) rfl
    have z2 := hR1.cell (i := 2) rfl
    have X1 := hide hX1
    have R1 := hide hR1
    have H5 := hide h5
    clear hg hX1 hR1 h5
    go_upto_region 3 with (go_at_call 21; (with_reducible refine (KR.out H5.out _ X1.out).mono ?_); rintro e w2 ⟨rfl, q, rfl⟩)
    obtain ⟨w2, hw2⟩ : ∃ w2, W1.drewN q = w2 := ⟨_, rfl⟩
    have X2 : Hid (Ext w w2) := hide (by rw [← hw2]; exact X1.out.trans ((Ext.refl _).drewN q))
    have R2 := hide (R1.out.ext ((Ext.refl _).drewN q))
    rw [hw2] at R2 ⊢
    clear hw2 z0 z1 z2 X1 R1 KR KN
    have z2 := R2.out.cell (i := 2) rfl
    go_wp2
    go_loopw [3] (fun iv wr => ∃ k : Nat, k ≤ n ∧ iv = .int .i64 (k : Int) ∧ Hid (∀ (j : Nat) (x : Cl), j < k → L[j]? = some x → x.1.length ≤ 90 ∧ x.2.length ≤ 150) ∧ Hid (Ext w2 wr)) (fun iv _ => n - (intOf iv).toNat)
    case atStart => exact ⟨0, Nat.zero_le _, rfl, hide (fun j x h => by omega), hide (Ext.refl _)⟩
    case round =>
      obtain ⟨k, hk, rfl, HA, HX⟩ := hrel
      clear z2
      have z2 := (R2.out.ext HX.out).cell (i := 2) rfl
      have hn3 : (n : Int) ≤ 255 := by omega
      by_cases hlt : k < n
      · obtain ⟨y, hy⟩ : ∃ y, L[k]? = some y := ⟨_, List.getElem?_eq_getElem (by have := HN.out; omega)⟩
        obtain ⟨bl, off, B1, d1, B2, d2, rfl, m1, m2, g1, g2, r1, r2⟩ := HR.out.at hy
        replace m1 := (X2.out.trans HX.out).keeps.cell m1
        replace m2 := (X2.out.trans HX.out).keeps.cell m2
        have HY := hide hy
        obtain ⟨p1, HP1⟩ : ∃ p1, Hid (y.1.length = p1) := ⟨_, hide rfl⟩
        obtain ⟨p2, HP2⟩ : ∃ p2, Hid (y.2.length = p2) := ⟨_, hide rfl⟩
        rw [HP1.out] at m1
        rw [HP2.out] at m2
        have hki : (k : Int) < (n : Int) := by omega
        have hk0 : (0 : Int) ≤ (k : Int) := by omega
        clear hy g1 g2 r1 r2
        by_cases h90 : 90 < p1
        · have h90i : (90 : Int) < (p1 : Int) := by omega
          have HF : Hid (r = false) := hide (by rw [← HRR.out]; exact HNO.out (.inr (.inr (.inr (.inr (.inr (.inl ⟨k, y, HY.out, .inl (by rw [HP1.out]; exact h90)⟩)))))))
          clear h90
          go_wp2
          go_ret
          exact Ret.mk (X2.out.trans HX.out) (by rw [HF.out]; rfl)
        · have h90i : ¬ (90 : Int) < (p1 : Int) := by omega
          by_cases h150 : 150 < p2
          · have h150i : (150 : Int) < (p2 : Int) := by omega
            have HF : Hid (r = false) := hide (by rw [← HRR.out]; exact HNO.out (.inr (.inr (.inr (.inr (.inr (.inl ⟨k, y, HY.out, .inr (by rw [HP2.out]; exact h150)⟩)))))))
            clear h90 h150
            go_wp2
            go_ret
            exact Ret.mk (X2.out.trans HX.out) (by rw [HF.out]; rfl)
          · have h150i : ¬ (150 : Int) < (p2 : Int) := by omega
            have HA2 : Hid (∀ (j : Nat) (x : Cl), j < k + 1 → L[j]? = some x → x.1.length ≤ 90 ∧ x.2.length ≤ 150) := hide (fun j x hj hx => by
              by_cases e : j = k
              · subst e
                rw [HY.out] at hx
                injection hx with hx
                rw [← hx, HP1.out, HP2.out]
                omega
              · exact HA.out j x (by omega) hx)
            clear h90 h150
            go_wp2
            refine ⟨⟨k + 1, by omega, by go_num, HA2, HX⟩, by simp [intOf]; omega⟩
      · have hki : ¬ (k : Int) < (n : Int) := by omega
        have HAL : Hid (∀ (j : Nat) (x : Cl), L[j]? = some x → x.1.length ≤ 90 ∧ x.2.length ≤ 150) := hide (fun j x hx => HA.out j x (by have := (List.getElem?_eq_some_iff.1 hx).1; rw [HN.out] at this; omega) hx)
        by_cases h498 : s ≤ 498
        · have hsi : (s : Int) ≤ 498 := by omega
          have HF : Hid (r = true) := hide (by rw [← HRR.out]; exact HYES.out (by omega) (by omega) (by omega) H5.out HAL.out (by rw [HSS.out]; exact h498))
          clear h498
          go_wp2_with (go_at_call 15; (with_reducible refine (KS.out _ (X2.out.trans HX.out)).mono ?_); rintro e w6 ⟨rfl, q6, rfl⟩)
          go_ret
          exact Ret.mk ((X2.out.trans HX.out).trans ((Ext.refl _).drewN _)) (by rw [HF.out]; rfl)
        · have hsi : ¬ (s : Int) ≤ 498 := by omega
          have HF : Hid (r = false) := hide (by rw [← HRR.out]; exact HNO.out (.inr (.inr (.inr (.inr (.inr (.inr (by rw [HSS.out]; omega))))))))
          have HDD : Hid (decide ((s : Int) ≤ 498) = false) := hide (decide_eq_false hsi)
          clear h498
          go_wp2_with (go_at_call 15; (with_reducible refine (KS.out _ (X2.out.trans HX.out)).mono ?_); rintro e w6 ⟨rfl, q6, rfl⟩)
          go_ret
          exact Ret.mk ((X2.out.trans HX.out).trans ((Ext.refl _).drewN _)) (by rw [HF.out]; first | exact congrArg Value.bool HDD.out | exact (congrArg Value.bool HDD.out).symm | (rw [HDD.out]; rfl))
  · have HF := hide (HNO.out (.inr (.inr (.inr (.inr (.inl h5))))))
    have H5 := hide h5
    rw [HF.out]
    clear HNO HYES h5
    go_enter Try.func13, Try.ntmps13
    go_wp2_with (go_at_call 21; (with_reducible refine (KN.out H5.out _ (Ext.alloc _ _)).mono ?_); rintro e w2 ⟨rfl, q, rfl⟩)
    go_ret
    exact Ret.mk ((Ext.alloc _ _).trans ((Ext.refl _).drewN _)) rfl
end Go.Proofs.Ytmamhinpkioogaa
