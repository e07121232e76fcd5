/-
  The document's Put: contract.
-/
import Derived.Test.YtmamhinpkioogaaPgV
namespace Go.Proofs.Ytmamhinpkioogaa
open Go.RowKit

set_option maxRecDepth 20000 in
set_option maxHeartbeats 3200000 in
theorem rput_any {A A1 A2 : Option Addr} {L : List Cl} {x : Cl} (n n1 n2 c c1 c2 : Nat) (w : World) (hr : RdC w A L) (h1 : Rd w A1 x.1) (h2 : Rd w A2 x.2) (hn : L.length = n) (e1 : x.1.length = n1) (e2 : x.2.length = n2) (hc1 : n1 ≤ c1) (hc2 : n2 ≤ c2) (hl : n ≤ 10000) (hR : Rises L) :
    Calls Try.prog 24 #[.slice A n c, .agg #[.slice A1 n1 c1, .slice A2 n2 c2]] w (Ret w (Cells (repl L x.1 [x]))) := by
  obtain ⟨q, HQ⟩ : ∃ q, Hid (ix L x.1 = q) := ⟨_, hide rfl⟩
  have HQN : Hid (q ≤ n) := hide (by rw [← HQ.out, ← hn]; exact ix_le L x.1)
  have HN := hide hn
  have HL : Hid (n ≤ 10000) := hide hl
  have HR := hide hR
  have HE := hide (And.intro e1 (And.intro e2 (And.intro hc1 hc2)))
  obtain ⟨RL, HRL⟩ : ∃ RL, Hid (repl L x.1 [x] = RL) := ⟨_, hide rfl⟩
  rw [HRL.out]
  clear hn hl hR e1 e2 hc1 hc2
  go_enter Try.func24, Try.ntmps24
  go_upto_region 1 with fail
  obtain ⟨W1, hX1, hR1, hg⟩ : ∃ W1, Ext w W1 ∧ Rw W1 w.heap.size 40 [.slice A1 n1 c1, .slice A2 n2 c2] ∧ w.alloc (.cells #[.slice A1 n1 c1, .slice A2 n2 c2] 40) = W1 := ⟨_, Ext.alloc _ _, Rw.new _ _ _, rfl⟩
  rw [hg]
  obtain ⟨hb, HHB⟩ : ∃ hb, Hid (w.heap.size = hb) := ⟨_, hide rfl⟩
  rw [HHB.out] at hR1 ⊢
  have X1 := hide hX1
  have R1 := hide hR1
  have HRC := hide (hr.ext hX1)
  have D1 := hide (h1.ext hX1)
  have D2 := hide (h2.ext hX1)
  clear hg hX1 hR1 hr h1 h2
  go_wp2
  go_loopw [5, 6, 7] (fun ov dv iv wr => ∃ k : Nat, k ≤ n ∧ dv = .bool (decide (q < k)) ∧ iv = .int .i64 (k : Int) ∧ Hid (OwnV W1 W1.heap.size (outK L x k) wr ov) ∧ Hid (Ext W1 wr)) (fun _ _ iv _ => n - (intOf iv).toNat)
  case atStart => exact ⟨0, Nat.zero_le _, by simp, rfl, hide ⟨[], by
    have e : outK L x 0 = [] := by unfold outK; rw [if_pos (Nat.zero_le _)]; rfl
    rw [e]; exact ⟨World.ownsRow_nil _ _ _ _, rfl, fun j y h => by cases h⟩⟩, hide (Ext.refl _)⟩
  case round =>
    obtain ⟨k, hk, rfl, rfl, HO, HX⟩ := hrel
    have hl1 : (n : Int) ≤ 10000 := by have := HL.out; omega
    have HOL : Hid ((outK L x k).length ≤ 10001) := hide (by have := outK_len (L := L) (x := x) (k := k); have := HN.out; have := HL.out; omega)
    have b0 := (R1.out.ext HX.out).cell (i := 0) rfl
    have b1 := (R1.out.ext HX.out).cell (i := 1) rfl
    have cvx := fun (t : Nat) => str_any ((D1.out.ext HX.out).drewN t) n1 c1 HE.out.1
    by_cases hlt : k < n
    · obtain ⟨y, hy⟩ : ∃ y, L[k]? = some y := ⟨_, List.getElem?_eq_getElem (by have := HN.out; omega)⟩
      obtain ⟨bl, off, B1, d1, B2, d2, rfl, m1, m2, g1, g2, r1, r2⟩ := (HRC.out).at hy
      have HY := hide hy
      have HRY := hide (And.intro r1 (And.intro r2 (And.intro g1 g2)))
      obtain ⟨p1, HP1⟩ : ∃ p1, Hid (y.1.length = p1) := ⟨_, hide rfl⟩
      obtain ⟨p2, HP2⟩ : ∃ p2, Hid (y.2.length = p2) := ⟨_, hide rfl⟩
      rw [HP1.out] at m1
      rw [HP2.out] at m2
      have HM := hide (And.intro m1 m2)
      have hki : (k : Int) < (n : Int) := by omega
      have hk0 : (0 : Int) ≤ (k : Int) := by omega
      clear hy r1 r2 g1 g2 m1 m2 b0 b1 cvx
      rcases Nat.lt_trichotomy k q with hkq | hkq | hkq
      · have hless : Op.bytesLess y.1 x.1 = true := (ix_lt HR.out x.1 HY.out).2 (by rw [HQ.out]; exact hkq)
        have hne : (y.1 == x.1) = false := beq_eq_false_iff_ne.2 (ne_of_less hless)
        have hdone : decide (q < k) = false := decide_eq_false (by omega)
        have HOK := hide (outK_lt (show k < ix L x.1 by rw [HQ.out]; exact hkq) HY.out)
        have HD2 : Hid (Value.bool false = Value.bool (decide (q < k + 1))) := hide (by rw [decide_eq_false (by omega)])
        rw [hdone]
        clear hdone
        have b0 := (R1.out.ext HX.out).cell (i := 0) rfl
        have b1 := (R1.out.ext HX.out).cell (i := 1) rfl
        have m1 := HX.out.keeps.cell HM.out.1
        have m2 := HX.out.keeps.cell HM.out.2
        have cvx := fun (t : Nat) => str_any ((D1.out.ext HX.out).drewN t) n1 c1 HE.out.1
        have cvy := fun (t : Nat) => str_any ((HRY.out.1.ext HX.out).drewN t) p1 d1 HP1.out
        go_wp2
        go_quiet (fail)
        obtain ⟨W2, hW2⟩ : ∃ W2, wr.drewN nq = W2 := ⟨_, rfl⟩
        have X2 : Hid (Ext W1 W2) := hide (by rw [← hW2]; exact HX.out.trans ((Ext.refl _).drewN _))
        have O2 := hide (HO.out.ext ((Ext.refl wr).drewN nq))
        rw [hW2] at O2 ⊢
        clear hW2 b0 b1 m1 m2 cvx cvy HO HX
        have b0 := (R1.out.ext X2.out).cell (i := 0) rfl
        have b1 := (R1.out.ext X2.out).cell (i := 1) rfl
        have m1 := X2.out.keeps.cell HM.out.1
        have m2 := X2.out.keeps.cell HM.out.2
        have cvx := fun (t : Nat) => str_any ((D1.out.ext X2.out).drewN t) n1 c1 HE.out.1
        have cvy := fun (t : Nat) => str_any ((HRY.out.1.ext X2.out).drewN t) p1 d1 HP1.out
        go_wp2
        go_quiet (fail)
        obtain ⟨W3, hW3⟩ : ∃ W3, W2.drewN nq = W3 := ⟨_, rfl⟩
        have X3 : Hid (Ext W1 W3) := hide (by rw [← hW3]; exact X2.out.trans ((Ext.refl _).drewN _))
        have O3 := hide (O2.out.ext ((Ext.refl W2).drewN nq))
        rw [hW3] at O3 ⊢
        clear hW3 b0 b1 m1 m2 cvx cvy O2 X2
        have b0 := (R1.out.ext X3.out).cell (i := 0) rfl
        have b1 := (R1.out.ext X3.out).cell (i := 1) rfl
        have m1 := X3.out.keeps.cell HM.out.1
        have m2 := X3.out.keeps.cell HM.out.2
        have cvx := fun (t : Nat) => str_any ((D1.out.ext X3.out).drewN t) n1 c1 HE.out.1
        have cvy := fun (t : Nat) => str_any ((HRY.out.1.ext X3.out).drewN t) p1 d1 HP1.out
        go_wp2_with (first | ((with_reducible show wpList _ _ _ (⟨some 47, _, _, _, _, _⟩ :: _) _ _); refine wpList_gives (gives_buildSlice rfl [(0, .agg #[.slice B1 p1 d1, .slice B2 p2 d2])] rfl (build_cell _ _ _ B1 B2 p1 p2 d1 d2 rfl rfl) ⟨rfl, rfl⟩) rfl ?_) | (at_builtin; refine wpList_pushC rfl (.tmp 42) (.tmp 47) rfl _ (outK L x k) y B1 B2 p1 p2 d1 d2 rfl rfl O3.out HP1.out HP2.out (by rw [← HP1.out]; exact HRY.out.2.2.1) (by rw [← HP2.out]; exact HRY.out.2.2.2) HRY.out.1 HRY.out.2.1 X3.out (by have := HOL.out; omega) ?_; intro vW4 W4 ho hx; have O4 := hide ho; have X4 := hide hx; clear ho hx))
        rw [← HOK.out] at O4
        refine ⟨⟨k + 1, by omega, HD2.out, by go_num, O4, X4⟩, by simp [intOf]; omega⟩
      · have hless : Op.bytesLess y.1 x.1 = false := by
          cases hb : Op.bytesLess y.1 x.1 with
          | false => rfl
          | true => have := (ix_lt HR.out x.1 HY.out).1 hb; rw [HQ.out] at this; omega
        have hdone : decide (q < k) = false := decide_eq_false (by omega)
        have HD2 : Hid (Value.bool true = Value.bool (decide (q < k + 1))) := hide (by rw [decide_eq_true (by omega)])
        have HHS := hide (at_hs HR.out (show k = ix L x.1 by rw [HQ.out]; exact hkq) HY.out)
        have HKQ : Hid (k = ix L x.1) := hide (by rw [HQ.out]; exact hkq)
        rw [hdone]
        clear hdone hkq
        by_cases hyx : y.1 = x.1
        · have hne : (y.1 == x.1) = true := by rw [hyx]; simp
          have HOK := hide (outK_eq HKQ.out (by rw [HHS.out, hne]))
          clear hyx
          have b0 := (R1.out.ext HX.out).cell (i := 0) rfl
          have b1 := (R1.out.ext HX.out).cell (i := 1) rfl
          have m1 := HX.out.keeps.cell HM.out.1
          have m2 := HX.out.keeps.cell HM.out.2
          have cvx := fun (t : Nat) => str_any ((D1.out.ext HX.out).drewN t) n1 c1 HE.out.1
          have cvy := fun (t : Nat) => str_any ((HRY.out.1.ext HX.out).drewN t) p1 d1 HP1.out
          go_wp2
          go_quiet (fail)
          obtain ⟨W2, hW2⟩ : ∃ W2, wr.drewN nq = W2 := ⟨_, rfl⟩
          have X2 : Hid (Ext W1 W2) := hide (by rw [← hW2]; exact HX.out.trans ((Ext.refl _).drewN _))
          have O2 := hide (HO.out.ext ((Ext.refl wr).drewN nq))
          rw [hW2] at O2 ⊢
          clear hW2 b0 b1 m1 m2 cvx cvy HO HX
          have b0 := (R1.out.ext X2.out).cell (i := 0) rfl
          have b1 := (R1.out.ext X2.out).cell (i := 1) rfl
          have m1 := X2.out.keeps.cell HM.out.1
          have m2 := X2.out.keeps.cell HM.out.2
          have cvx := fun (t : Nat) => str_any ((D1.out.ext X2.out).drewN t) n1 c1 HE.out.1
          have cvy := fun (t : Nat) => str_any ((HRY.out.1.ext X2.out).drewN t) p1 d1 HP1.out
          go_wp2_with (first | ((with_reducible show wpList _ _ _ (⟨some 30, _, _, _, _, _⟩ :: _) _ _); refine wpList_gives (gives_buildSlice rfl [(0, .agg #[.slice A1 n1 c1, .slice A2 n2 c2])] rfl (build_cell _ _ _ A1 A2 n1 n2 c1 c2 rfl rfl) ⟨rfl, rfl⟩) rfl ?_) | (at_builtin; refine wpList_pushC rfl (.tmp 28) (.tmp 30) rfl _ (outK L x k) x A1 A2 n1 n2 c1 c2 rfl rfl O2.out HE.out.1 HE.out.2.1 HE.out.2.2.1 HE.out.2.2.2 D1.out D2.out X2.out (by have := HOL.out; omega) ?_; intro vW3 W3 ho hx; have O3 := hide ho; have X3 := hide hx; clear ho hx))
          clear b0 b1 m1 m2 cvx cvy
          have b0 := (R1.out.ext X3.out).cell (i := 0) rfl
          have b1 := (R1.out.ext X3.out).cell (i := 1) rfl
          have m1 := X3.out.keeps.cell HM.out.1
          have m2 := X3.out.keeps.cell HM.out.2
          have cvx := fun (t : Nat) => str_any ((D1.out.ext X3.out).drewN t) n1 c1 HE.out.1
          have cvy := fun (t : Nat) => str_any ((HRY.out.1.ext X3.out).drewN t) p1 d1 HP1.out
          go_wp2
          go_quiet (fail)
          obtain ⟨W4, hW4⟩ : ∃ W4, W3.drewN nq = W4 := ⟨_, rfl⟩
          have X4 : Hid (Ext W1 W4) := hide (by rw [← hW4]; exact X3.out.trans ((Ext.refl _).drewN _))
          have O4 := hide (O3.out.ext ((Ext.refl W3).drewN nq))
          rw [hW4] at O4 ⊢
          clear hW4 b0 b1 m1 m2 cvx cvy O3 X3
          go_wp2
          rw [← HOK.out] at O4
          refine ⟨⟨k + 1, by omega, HD2.out, by go_num, O4, X4⟩, by simp [intOf]; omega⟩
        · have hne : (y.1 == x.1) = false := beq_eq_false_iff_ne.2 hyx
          have HOK := hide (outK_new HKQ.out (by rw [HHS.out, hne]) HY.out)
          clear hyx
          have b0 := (R1.out.ext HX.out).cell (i := 0) rfl
          have b1 := (R1.out.ext HX.out).cell (i := 1) rfl
          have m1 := HX.out.keeps.cell HM.out.1
          have m2 := HX.out.keeps.cell HM.out.2
          have cvx := fun (t : Nat) => str_any ((D1.out.ext HX.out).drewN t) n1 c1 HE.out.1
          have cvy := fun (t : Nat) => str_any ((HRY.out.1.ext HX.out).drewN t) p1 d1 HP1.out
          go_wp2
          go_quiet (fail)
          obtain ⟨W2, hW2⟩ : ∃ W2, wr.drewN nq = W2 := ⟨_, rfl⟩
          have X2 : Hid (Ext W1 W2) := hide (by rw [← hW2]; exact HX.out.trans ((Ext.refl _).drewN _))
          have O2 := hide (HO.out.ext ((Ext.refl wr).drewN nq))
          rw [hW2] at O2 ⊢
          clear hW2 b0 b1 m1 m2 cvx cvy HO HX
          have b0 := (R1.out.ext X2.out).cell (i := 0) rfl
          have b1 := (R1.out.ext X2.out).cell (i := 1) rfl
          have m1 := X2.out.keeps.cell HM.out.1
          have m2 := X2.out.keeps.cell HM.out.2
          have cvx := fun (t : Nat) => str_any ((D1.out.ext X2.out).drewN t) n1 c1 HE.out.1
          have cvy := fun (t : Nat) => str_any ((HRY.out.1.ext X2.out).drewN t) p1 d1 HP1.out
          go_wp2_with (first | ((with_reducible show wpList _ _ _ (⟨some 30, _, _, _, _, _⟩ :: _) _ _); refine wpList_gives (gives_buildSlice rfl [(0, .agg #[.slice A1 n1 c1, .slice A2 n2 c2])] rfl (build_cell _ _ _ A1 A2 n1 n2 c1 c2 rfl rfl) ⟨rfl, rfl⟩) rfl ?_) | (at_builtin; refine wpList_pushC rfl (.tmp 28) (.tmp 30) rfl _ (outK L x k) x A1 A2 n1 n2 c1 c2 rfl rfl O2.out HE.out.1 HE.out.2.1 HE.out.2.2.1 HE.out.2.2.2 D1.out D2.out X2.out (by have := HOL.out; omega) ?_; intro vW3 W3 ho hx; have O3 := hide ho; have X3 := hide hx; clear ho hx))
          clear b0 b1 m1 m2 cvx cvy
          have b0 := (R1.out.ext X3.out).cell (i := 0) rfl
          have b1 := (R1.out.ext X3.out).cell (i := 1) rfl
          have m1 := X3.out.keeps.cell HM.out.1
          have m2 := X3.out.keeps.cell HM.out.2
          have cvx := fun (t : Nat) => str_any ((D1.out.ext X3.out).drewN t) n1 c1 HE.out.1
          have cvy := fun (t : Nat) => str_any ((HRY.out.1.ext X3.out).drewN t) p1 d1 HP1.out
          go_wp2
          go_quiet (fail)
          obtain ⟨W4, hW4⟩ : ∃ W4, W3.drewN nq = W4 := ⟨_, rfl⟩
          have X4 : Hid (Ext W1 W4) := hide (by rw [← hW4]; exact X3.out.trans ((Ext.refl _).drewN _))
          have O4 := hide (O3.out.ext ((Ext.refl W3).drewN nq))
          rw [hW4] at O4 ⊢
          clear hW4 b0 b1 m1 m2 cvx cvy O3 X3
          have b0 := (R1.out.ext X4.out).cell (i := 0) rfl
          have b1 := (R1.out.ext X4.out).cell (i := 1) rfl
          have m1 := X4.out.keeps.cell HM.out.1
          have m2 := X4.out.keeps.cell HM.out.2
          have cvx := fun (t : Nat) => str_any ((D1.out.ext X4.out).drewN t) n1 c1 HE.out.1
          have cvy := fun (t : Nat) => str_any ((HRY.out.1.ext X4.out).drewN t) p1 d1 HP1.out
          go_wp2_with (first | ((with_reducible show wpList _ _ _ (⟨some 47, _, _, _, _, _⟩ :: _) _ _); refine wpList_gives (gives_buildSlice rfl [(0, .agg #[.slice B1 p1 d1, .slice B2 p2 d2])] rfl (build_cell _ _ _ B1 B2 p1 p2 d1 d2 rfl rfl) ⟨rfl, rfl⟩) rfl ?_) | (at_builtin; refine wpList_pushC rfl (.tmp 42) (.tmp 47) rfl _ (outK L x k ++ [x]) y B1 B2 p1 p2 d1 d2 rfl rfl O4.out HP1.out HP2.out (by rw [← HP1.out]; exact HRY.out.2.2.1) (by rw [← HP2.out]; exact HRY.out.2.2.2) HRY.out.1 HRY.out.2.1 X4.out (by have := HOL.out; rw [List.length_append]; simp; omega) ?_; intro vW5 W5 ho hx; have O5 := hide ho; have X5 := hide hx; clear ho hx))
          rw [← HOK.out] at O5
          refine ⟨⟨k + 1, by omega, HD2.out, by go_num, O5, X5⟩, by simp [intOf]; omega⟩
      · have hless : Op.bytesLess x.1 y.1 = true := gt_less HR.out (show ix L x.1 < k by rw [HQ.out]; exact hkq) HY.out
        have hne : (y.1 == x.1) = false := beq_eq_false_iff_ne.2 (ne_of_less hless).symm
        have hdone : decide (q < k) = true := decide_eq_true hkq
        have HOK := hide (outK_gt (show ix L x.1 < k by rw [HQ.out]; exact hkq) HY.out)
        have HD2 : Hid (Value.bool true = Value.bool (decide (q < k + 1))) := hide (by rw [decide_eq_true (by omega)])
        rw [hdone]
        clear hdone hkq hless
        have b0 := (R1.out.ext HX.out).cell (i := 0) rfl
        have b1 := (R1.out.ext HX.out).cell (i := 1) rfl
        have m1 := HX.out.keeps.cell HM.out.1
        have m2 := HX.out.keeps.cell HM.out.2
        have cvx := fun (t : Nat) => str_any ((D1.out.ext HX.out).drewN t) n1 c1 HE.out.1
        have cvy := fun (t : Nat) => str_any ((HRY.out.1.ext HX.out).drewN t) p1 d1 HP1.out
        go_wp2
        go_quiet (fail)
        obtain ⟨W2, hW2⟩ : ∃ W2, wr.drewN nq = W2 := ⟨_, rfl⟩
        have X2 : Hid (Ext W1 W2) := hide (by rw [← hW2]; exact HX.out.trans ((Ext.refl _).drewN _))
        have O2 := hide (HO.out.ext ((Ext.refl wr).drewN nq))
        rw [hW2] at O2 ⊢
        clear hW2 b0 b1 m1 m2 cvx cvy HO HX
        have b0 := (R1.out.ext X2.out).cell (i := 0) rfl
        have b1 := (R1.out.ext X2.out).cell (i := 1) rfl
        have m1 := X2.out.keeps.cell HM.out.1
        have m2 := X2.out.keeps.cell HM.out.2
        have cvx := fun (t : Nat) => str_any ((D1.out.ext X2.out).drewN t) n1 c1 HE.out.1
        have cvy := fun (t : Nat) => str_any ((HRY.out.1.ext X2.out).drewN t) p1 d1 HP1.out
        go_wp2
        go_quiet (fail)
        obtain ⟨W3, hW3⟩ : ∃ W3, W2.drewN nq = W3 := ⟨_, rfl⟩
        have X3 : Hid (Ext W1 W3) := hide (by rw [← hW3]; exact X2.out.trans ((Ext.refl _).drewN _))
        have O3 := hide (O2.out.ext ((Ext.refl W2).drewN nq))
        rw [hW3] at O3 ⊢
        clear hW3 b0 b1 m1 m2 cvx cvy O2 X2
        have b0 := (R1.out.ext X3.out).cell (i := 0) rfl
        have b1 := (R1.out.ext X3.out).cell (i := 1) rfl
        have m1 := X3.out.keeps.cell HM.out.1
        have m2 := X3.out.keeps.cell HM.out.2
        have cvx := fun (t : Nat) => str_any ((D1.out.ext X3.out).drewN t) n1 c1 HE.out.1
        have cvy := fun (t : Nat) => str_any ((HRY.out.1.ext X3.out).drewN t) p1 d1 HP1.out
        go_wp2_with (first | ((with_reducible show wpList _ _ _ (⟨some 47, _, _, _, _, _⟩ :: _) _ _); refine wpList_gives (gives_buildSlice rfl [(0, .agg #[.slice B1 p1 d1, .slice B2 p2 d2])] rfl (build_cell _ _ _ B1 B2 p1 p2 d1 d2 rfl rfl) ⟨rfl, rfl⟩) rfl ?_) | (at_builtin; refine wpList_pushC rfl (.tmp 42) (.tmp 47) rfl _ (outK L x k) y B1 B2 p1 p2 d1 d2 rfl rfl O3.out HP1.out HP2.out (by rw [← HP1.out]; exact HRY.out.2.2.1) (by rw [← HP2.out]; exact HRY.out.2.2.2) HRY.out.1 HRY.out.2.1 X3.out (by have := HOL.out; omega) ?_; intro vW4 W4 ho hx; have O4 := hide ho; have X4 := hide hx; clear ho hx))
        rw [← HOK.out] at O4
        refine ⟨⟨k + 1, by omega, HD2.out, by go_num, O4, X4⟩, by simp [intOf]; omega⟩
    · have hki : ¬ (k : Int) < (n : Int) := by omega
      obtain rfl : k = n := by omega
      have KB := build_cell
      by_cases hqk : q < k
      · have hd : decide (q < k) = true := decide_eq_true hqk
        have HOE := hide (outK_end (show ix L x.1 < k by rw [HQ.out]; exact hqk) (by rw [HN.out]; exact Nat.le_refl _))
        rw [hd]
        clear hd hlt hqk
        go_wp2
        go_ret
        have hc := OwnV.cells HO.out HX.out
        rw [HOE.out, HRL.out] at hc
        exact Ret.mk (X1.out.trans HX.out) hc
      · have hd : decide (q < k) = false := decide_eq_false hqk
        have HOE := hide (outK_last (L := L) (x := x) (by rw [HQ.out, HN.out]; have := HQN.out; omega))
        rw [HN.out, HRL.out] at HOE
        rw [hd]
        clear hd hlt hqk
        go_wp2_with (first | ((with_reducible show wpList _ _ _ (⟨some 53, _, _, _, _, _⟩ :: _) _ _); refine wpList_gives (gives_buildSlice rfl [(0, .agg #[.slice A1 n1 c1, .slice A2 n2 c2])] rfl (build_cell _ _ _ A1 A2 n1 n2 c1 c2 rfl rfl) ⟨rfl, rfl⟩) rfl ?_) | (at_builtin; refine wpList_pushC rfl (.tmp 51) (.tmp 53) rfl _ (outK L x k) x A1 A2 n1 n2 c1 c2 rfl rfl HO.out HE.out.1 HE.out.2.1 HE.out.2.2.1 HE.out.2.2.2 D1.out D2.out HX.out (by have := HOL.out; omega) ?_; intro vW2 W2 ho hx; have O2 := hide ho; have X2 := hide hx; clear ho hx))
        rw [HOE.out] at O2
        go_ret
        exact Ret.mk (X1.out.trans X2.out) (OwnV.cells O2.out X2.out)
end Go.Proofs.Ytmamhinpkioogaa
