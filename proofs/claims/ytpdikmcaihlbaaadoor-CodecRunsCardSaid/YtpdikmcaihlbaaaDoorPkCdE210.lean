/-
  The walk of CodecRuns.
-/
import Derived.BigQuiet
import Derived.Test.YtpdikmcaihlbaaaDoorPkCdE26
import Derived.Test.YtpdikmcaihlbaaaDoorPkCdE27
import Derived.Test.YtpdikmcaihlbaaaDoorPkCdE28
import Derived.Test.YtpdikmcaihlbaaaDoorPkCdE29
set_option linter.unusedVariables false
set_option linter.unusedSimpArgs false

namespace Go.Proofs.YtpdikmcaihlbaaaDoor
open Go.RowKit

theorem Ext.trans' {w w1 w2 : World} (h : Ext w w1) (k : Below w.heap.size w1 w2) : Ext w w2 := Below.trans h k
set_option maxRecDepth 20000 in
set_option maxHeartbeats 1600000 in
theorem runs_great (A B : Option Addr) (n m c d : Nat) (w : World) (hn : n ≤ 4398046511104) (hm : m ≤ 4398046511104) (hT : Tabs w) (hs : 60 < n + m) :
    Calls Tryd.prog 9 #[.slice A n c, .slice B m d] w (RetB w true) := by
  have hsI : (60 : Int) < (n : Int) + (m : Int) := by omega
  have hnI : (n : Int) ≤ 4398046511104 := by omega
  have hmI : (m : Int) ≤ 4398046511104 := by omega
  have KA := hide (fun (W : World) (hW : Ext w W) => awake_any W (hT.ext hW))
  clear hT
  go_enter Tryd.func9, Tryd.ntmps9
  go_upto_region 2 with (go_at_call 11; (with_reducible refine (KA.out _ (Ext.refl _)).mono ?_); rintro e w1 ⟨rfl, hx1⟩; have X1 := hide hx1)
  go_wp2_with (go_at_call 11; (with_reducible refine (KA.out _ X1.out).mono ?_); rintro e w2 ⟨rfl, hx2⟩; have X2 := hide (X1.out.trans hx2))
  go_ret
  exact ⟨rfl, X2.out⟩
set_option maxRecDepth 20000 in
set_option maxHeartbeats 12800000 in
theorem runs_small (A B : Option Addr) (L M : List Vl) (n m c d : Nat) (w : World) (hA : RdV w A L) (hB : RdV w B M) (hn : L.length = n) (hm : M.length = m) (hbL : ∀ x ∈ L, VlIn x) (hbM : ∀ x ∈ M, VlIn x) (hT : Tabs w) (hs : n + m ≤ 60) :
    Calls Tryd.prog 9 #[.slice A n c, .slice B m d] w (RetB w true) := by
  have hsI : ¬ (60 : Int) < (n : Int) + (m : Int) := by omega
  have hnI : (n : Int) ≤ 60 := by omega
  have hmI : (m : Int) ≤ 60 := by omega
  have KA := hide (fun (W : World) (hW : Ext w W) => awake_any W (hT.ext hW))
  have HRA := hide hA
  have HRB := hide hB
  have HN := hide hn
  have HM := hide hm
  have HBL := hide hbL
  have HBM := hide hbM
  have HT := hide hT
  have HSUM := hide hs
  clear hA hB hn hm hbL hbM hT hs
  go_enter Tryd.func9, Tryd.ntmps9
  go_upto_region 5 with (go_at_call 11; (with_reducible refine (KA.out _ (Ext.refl _)).mono ?_); rintro e w1 ⟨rfl, hx1⟩; have X1 := hide hx1)
  clear KA hsI
  go_loopw [5, 7] (fun pv iv wr => ∃ i : Nat, i ≤ n ∧ iv = .int .i64 (i : Int) ∧ Hid ((L.take i).all vOk = true) ∧ Hid (Own wr w.heap.size pv (keysV (L.take i))) ∧ Hid (Ext w wr)) (fun _ iv _ => n - (intOf iv).toNat)
  case atStart => exact ⟨0, Nat.zero_le _, rfl, hide rfl, hide (Own.nil _ _), X1⟩
  case round =>
    obtain ⟨i, hi, rfl, HA, HO, HX⟩ := hrel
    obtain ⟨wr, Hwr⟩ := worldOf HX
    subst Hwr
    by_cases hlt : i < n
    · have hii : (i : Int) < (n : Int) := by omega
      obtain ⟨x, hx⟩ : ∃ x, L[i]? = some x := ⟨_, List.getElem?_eq_getElem (by rw [HN.out]; exact hlt)⟩
      obtain ⟨b, off, hA, hc⟩ := HRA.out (by intro h; rw [h] at hx; cases hx)
      subst hA
      have VI := HBL.out x (List.mem_of_getElem? hx)
      have HXX := hide hx
      have XW := hide (HX.out)
      have c0 := XW.out.keeps.cell (hc i x hx).1
      have c1 := XW.out.keeps.cell (hc i x hx).2.1
      have c2 := XW.out.keeps.cell (hc i x hx).2.2
      have HC := hide (show ∀ W, Ext wr W → W.cell? ⟨b, off + i * 3, none⟩ = some (.int .u8 x.1) ∧ W.cell? ⟨b, off + i * 3 + 1, none⟩ = some (.int .i64 x.2.1) ∧ W.cell? ⟨b, off + i * 3 + 2, none⟩ = some (.string x.2.2) from fun W hW => ⟨(XW.out.trans hW).keeps.cell (hc i x hx).1, (XW.out.trans hW).keeps.cell (hc i x hx).2.1, (XW.out.trans hW).keeps.cell (hc i x hx).2.2⟩)
      clear hc hx
      cases hv : vOk x with
      | false =>
        have KK := hide (key_no x wr VI (HT.out.ext XW.out) hv)
        have KF := hide (fun (W : World) (hW : Ext wr W) => rform_any x W VI (HT.out.ext (XW.out.trans hW)))
        rw [hv] at KF
        go_wp2_with (first
          | (go_at_call 19; (with_reducible refine KK.out.mono ?_); rintro e w2 ⟨hx2, rfl⟩; obtain ⟨d0, d1, d2⟩ := HC.out _ hx2; have Y2 := hide hx2; have X2 := hide (XW.out.trans hx2))
          | (go_at_call 13; (with_reducible refine (KF.out _ Y2.out).mono ?_); rintro e w3 ⟨rfl, hx3⟩; have X3 := hide (X2.out.trans hx3)))
        go_ret
        exact ⟨rfl, X3.out⟩
      | true =>
        obtain ⟨KV, HKV⟩ : ∃ p, Hid (keyV x = p) := ⟨_, hide rfl⟩
        obtain ⟨_, _, _, hkl, _⟩ := meant_key x VI hv
        have KK := hide (key_yes x wr VI (HT.out.ext XW.out) hv)
        rw [HKV.out] at KK hkl
        have HKL := hide hkl
        have HA' : Hid ((L.take (i + 1)).all vOk = true) := hide (by rw [List.take_add_one, HXX.out]; simp [HA.out, hv])
        have HNX : Hid (keysV (L.take (i + 1)) = keysV (L.take i) ++ KV) := hide (by rw [keysV_next HXX.out, HKV.out])
        have HCL : Hid ((keysV (L.take i)).length ≤ 123 * 60) := hide (Nat.le_trans (keysV_len _ HA.out (fun y hy => HBL.out y (List.mem_of_mem_take hy))) (Nat.mul_le_mul_left 123 (by rw [List.length_take]; have := HSUM.out; omega)))
        obtain ⟨cur, HCUR⟩ : ∃ cur, Hid (keysV (L.take i) = cur) := ⟨_, hide rfl⟩
        rw [HCUR.out] at HO HCL HNX
        clear hkl hv
        go_upto_region 6 with (first
          | (go_at_call 19; (with_reducible refine KK.out.mono ?_); rintro e w2 ⟨hx2, v2, rfl, AK, cK, rfl, hcK, hrK⟩; have Y2 := hide hx2; have O2 := hide (HO.out.ext hx2); have RK2 := hide hrK; clear hx2 hrK)
          | (at_builtin; refine wpList_cat rfl (.tmp 53) (.tmp 54) rfl w.heap.size _ cur KV _ _ _ rfl rfl rfl O2.out RK2.out (Nat.le_trans HX.out.size Y2.out.size) (by have := HCL.out; have := HKL.out; omega) ?_; intro v3 w3 ho3 hb3; have O3 := hide ho3; have Y3 := hide (show Ext w w3 from (HX.out.trans Y2.out).trans' hb3); clear ho3 hb3))
        go_wp2
        exact ⟨⟨i + 1, by omega, by go_num, HA', hide (by rw [HNX.out]; exact O3.out), Y3⟩, by simp [intOf]; omega⟩
    · obtain rfl : n = i := by omega
      have hii : ¬ (n : Int) < (n : Int) := by omega
      have HAL : Hid (L.all vOk = true) := hide (by have h := HA.out; rw [List.take_of_length_le (by rw [HN.out]; exact Nat.le_refl _)] at h; exact h)
      have HOL := HO.out
      rw [List.take_of_length_le (by rw [HN.out]; exact Nat.le_refl _)] at HOL
      obtain ⟨P, HP⟩ : ∃ P, Hid (keysV L = P) := ⟨_, hide rfl⟩
      obtain ⟨PL, HPL⟩ : ∃ u, Hid (P.length = u) := ⟨_, hide rfl⟩
      have HPB : Hid (PL ≤ 123 * 60) := hide (by rw [← HPL.out, ← HP.out]; exact Nat.le_trans (keysV_len L HAL.out HBL.out) (Nat.mul_le_mul_left 123 (by rw [HN.out]; have := HSUM.out; omega)))
      rw [HP.out] at HOL
      obtain ⟨AP, cP, hvP, hcP, hrP⟩ := HOL.bytes
      rw [HPL.out] at hvP hcP
      subst hvP
      have RP := hide hrP
      have HCP := hide hcP
      have XA := HX
      have HAL1 := HAL
      clear HAL HX HO HOL HA hrP hcP X1 hi hlt
      go_upto_region 12 with fail
      go_loopw [6, 10] (fun qv jv wq => ∃ j : Nat, j ≤ m ∧ jv = .int .i64 (j : Int) ∧ Hid ((M.take j).all vOk = true) ∧ Hid (Own wq wr.heap.size qv (keysV (M.take j))) ∧ Hid (Ext wr wq)) (fun _ jv _ => m - (intOf jv).toNat)
      case atStart => exact ⟨0, Nat.zero_le _, rfl, hide rfl, hide (Own.nil _ _), hide (Ext.refl _)⟩
      case round =>
        obtain ⟨j, hi, rfl, HA, HO, HX⟩ := hrel
        obtain ⟨wq, HWQ⟩ := worldOf HX
        subst HWQ
        by_cases hlt : j < m
        · have hii : (j : Int) < (m : Int) := by omega
          obtain ⟨x, hx⟩ : ∃ x, M[j]? = some x := ⟨_, List.getElem?_eq_getElem (by rw [HM.out]; exact hlt)⟩
          obtain ⟨b, off, hA, hc⟩ := HRB.out (by intro h; rw [h] at hx; cases hx)
          subst hA
          have VI := HBM.out x (List.mem_of_getElem? hx)
          have HXX := hide hx
          have XW := hide (XA.out.trans HX.out)
          have c0 := XW.out.keeps.cell (hc j x hx).1
          have c1 := XW.out.keeps.cell (hc j x hx).2.1
          have c2 := XW.out.keeps.cell (hc j x hx).2.2
          have HC := hide (show ∀ W, Ext wq W → W.cell? ⟨b, off + j * 3, none⟩ = some (.int .u8 x.1) ∧ W.cell? ⟨b, off + j * 3 + 1, none⟩ = some (.int .i64 x.2.1) ∧ W.cell? ⟨b, off + j * 3 + 2, none⟩ = some (.string x.2.2) from fun W hW => ⟨(XW.out.trans hW).keeps.cell (hc j x hx).1, (XW.out.trans hW).keeps.cell (hc j x hx).2.1, (XW.out.trans hW).keeps.cell (hc j x hx).2.2⟩)
          clear hc hx
          cases hv : vOk x with
          | false =>
            have KK := hide (key_no x wq VI (HT.out.ext XW.out) hv)
            have KF := hide (fun (W : World) (hW : Ext wq W) => rform_any x W VI (HT.out.ext (XW.out.trans hW)))
            rw [hv] at KF
            go_wp2_with (first
              | (go_at_call 19; (with_reducible refine KK.out.mono ?_); rintro e w2 ⟨hx2, rfl⟩; obtain ⟨d0, d1, d2⟩ := HC.out _ hx2; have Y2 := hide hx2; have X2 := hide (XW.out.trans hx2))
              | (go_at_call 13; (with_reducible refine (KF.out _ Y2.out).mono ?_); rintro e w3 ⟨rfl, hx3⟩; have X3 := hide (X2.out.trans hx3)))
            go_ret
            exact ⟨rfl, X3.out⟩
          | true =>
            obtain ⟨KV, HKV⟩ : ∃ p, Hid (keyV x = p) := ⟨_, hide rfl⟩
            obtain ⟨_, _, _, hkl, _⟩ := meant_key x VI hv
            have KK := hide (key_yes x wq VI (HT.out.ext XW.out) hv)
            rw [HKV.out] at KK hkl
            have HKL := hide hkl
            have HA' : Hid ((M.take (j + 1)).all vOk = true) := hide (by rw [List.take_add_one, HXX.out]; simp [HA.out, hv])
            have HNX : Hid (keysV (M.take (j + 1)) = keysV (M.take j) ++ KV) := hide (by rw [keysV_next HXX.out, HKV.out])
            have HCL : Hid ((keysV (M.take j)).length ≤ 123 * 60) := hide (Nat.le_trans (keysV_len _ HA.out (fun y hy => HBM.out y (List.mem_of_mem_take hy))) (Nat.mul_le_mul_left 123 (by rw [List.length_take]; have := HSUM.out; omega)))
            obtain ⟨cur, HCUR⟩ : ∃ cur, Hid (keysV (M.take j) = cur) := ⟨_, hide rfl⟩
            rw [HCUR.out] at HO HCL HNX
            clear hkl hv
            go_upto_region 13 with (first
              | (go_at_call 19; (with_reducible refine KK.out.mono ?_); rintro e w2 ⟨hx2, v2, rfl, AK, cK, rfl, hcK, hrK⟩; have Y2 := hide hx2; have O2 := hide (HO.out.ext hx2); have RK2 := hide hrK; clear hx2 hrK)
              | (at_builtin; refine wpList_cat rfl (.tmp 78) (.tmp 79) rfl wr.heap.size _ cur KV _ _ _ rfl rfl rfl O2.out RK2.out (Nat.le_trans HX.out.size Y2.out.size) (by have := HCL.out; have := HKL.out; omega) ?_; intro v3 w3 ho3 hb3; have O3 := hide ho3; have Y3 := hide (show Ext wr w3 from (HX.out.trans Y2.out).trans' hb3); clear ho3 hb3))
            go_wp2
            exact ⟨⟨j + 1, by omega, by go_num, HA', hide (by rw [HNX.out]; exact O3.out), Y3⟩, by simp [intOf]; omega⟩
        · obtain rfl : m = j := by omega
          have hii : ¬ (m : Int) < (m : Int) := by omega
          have HAL : Hid (M.all vOk = true) := hide (by have h := HA.out; rw [List.take_of_length_le (by rw [HM.out]; exact Nat.le_refl _)] at h; exact h)
          have HOL := HO.out
          rw [List.take_of_length_le (by rw [HM.out]; exact Nat.le_refl _)] at HOL
          obtain ⟨Q, HQ⟩ : ∃ Q, Hid (keysV M = Q) := ⟨_, hide rfl⟩
          obtain ⟨QL, HQL⟩ : ∃ u, Hid (Q.length = u) := ⟨_, hide rfl⟩
          rw [HQ.out] at HOL
          obtain ⟨AQ, cQ, hvQ, hcQ, hrQ⟩ := HOL.bytes
          rw [HQL.out] at hvQ hcQ
          subst hvQ
          have RQ := hide hrQ
          have HCQ := hide hcQ
          have RPQ := hide (RP.out.ext HX.out)
          have XB := hide (XA.out.trans HX.out)
          have HALM := HAL
          clear HX HO HOL HA hrQ hcQ RP XA hi hlt
          go_upto_region 20 with fail
          go_loopw [13, 14] (fun av iv wz => ∃ i a : Nat, i ≤ n ∧ iv = .int .i64 (i : Int) ∧ av = .int .i64 (a : Int) ∧ Hid ((keysV (L.take i)).length = a) ∧ Hid (Ext wq wz)) (fun _ iv _ => n - (intOf iv).toNat)
          case atStart => exact ⟨0, 0, Nat.zero_le _, rfl, rfl, hide rfl, hide (Ext.refl _)⟩
          case round =>
            obtain ⟨i, a, hi, rfl, rfl, HLA, HX⟩ := hrel
            obtain ⟨wz, HWZ⟩ := worldOf HX
            subst HWZ
            by_cases hlt : i < n
            · have hii : (i : Int) < (n : Int) := by omega
              obtain ⟨x, hx⟩ : ∃ x, L[i]? = some x := ⟨_, List.getElem?_eq_getElem (by rw [HN.out]; exact hlt)⟩
              obtain ⟨b, off, hA, hc⟩ := HRA.out (by intro h; rw [h] at hx; cases hx)
              subst hA
              have XW := hide (XB.out.trans HX.out)
              have hax : a ≤ PL := by
                have h := HLA.out
                rw [← h, ← HPL.out, ← HP.out, keysV_split hx]
                simp only [List.length_append]; omega
              obtain ⟨a', HLA'⟩ : ∃ a', Hid ((keysV (L.take (i + 1))).length = a') := ⟨_, hide rfl⟩
              have KR := hide (show Calls Tryd.prog 20 #[.slice AP PL cP, .int .i64 (a : Int)] wz (RkC wz (x, (a' : Int), 0)) from by
                have hpb := HPB.out
                have h := readKey_any AP P PL cP (a : Int) wz (RPQ.out.ext HX.out) HPL.out HCP.out (by omega) (by omega) (by omega) (HT.out.ext XW.out)
                have e := runs_read hx (List.all_eq_true.1 HAL1.out x (List.mem_of_getElem? hx)) (HBL.out x (List.mem_of_getElem? hx))
                rw [HP.out, HLA.out, HLA'.out] at e
                rw [e] at h
                exact h)
              have HC := hide (show ∀ W, Ext wz W → W.cell? ⟨b, off + i * 3, none⟩ = some (.int .u8 x.1) ∧ W.cell? ⟨b, off + i * 3 + 1, none⟩ = some (.int .i64 x.2.1) ∧ W.cell? ⟨b, off + i * 3 + 2, none⟩ = some (.string x.2.2) from fun W hW => ⟨(XW.out.trans hW).keeps.cell (hc i x hx).1, (XW.out.trans hW).keeps.cell (hc i x hx).2.1, (XW.out.trans hW).keeps.cell (hc i x hx).2.2⟩)
              clear hc hx hax
              go_upto_region 23 with (go_at_call 20; (with_reducible refine KR.out.mono ?_); rintro e w4 ⟨hx4, rfl⟩; have Y4 := hide hx4; clear hx4)
              obtain ⟨W5, hY5, hB5, hgg⟩ : ∃ W, Ext wz W ∧ Rw W w4.heap.size 26 [.int .u8 x.1, .int .i64 x.2.1, .string x.2.2] ∧ w4.alloc (.cells #[.int .u8 x.1, .int .i64 x.2.1, .string x.2.2] 26) = W := ⟨_, Y4.out.trans (Ext.alloc _ _), Rw.new _ _ _, rfl⟩
              rw [hgg]
              clear hgg
              have Y5 := hide hY5
              have d0 := hB5.cell (i := 0) rfl
              have d1 := hB5.cell (i := 1) rfl
              have d2 := hB5.cell (i := 2) rfl
              obtain ⟨c0, c1, c2⟩ := HC.out _ hY5
              clear hY5 hB5 Y4
              go_quiet (fail)
              go_wp2
              exact ⟨⟨i + 1, a', by omega, by go_num, rfl, HLA', hide ((HX.out.trans Y5.out).trans (Ext.drewn _ _))⟩, by simp [intOf]; omega⟩
            · obtain rfl : n = i := by omega
              have hii : ¬ (n : Int) < (n : Int) := by omega
              obtain rfl : a = PL := by rw [← HPL.out, ← HP.out, ← HLA.out, List.take_of_length_le (by rw [HN.out]; exact Nat.le_refl _)]
              have XC := hide (XB.out.trans HX.out)
              have RPZ := hide (RPQ.out.ext HX.out)
              have RQZ := hide (RQ.out.ext HX.out)
              clear HX RPQ RQ XB hi hlt HLA
              go_upto_region 27 with fail
              go_loopw [18] (fun iv wy => ∃ i : Nat, i ≤ n ∧ i ≤ m ∧ iv = .int .i64 (i : Int) ∧ Hid (L.take i = M.take i) ∧ Hid (Ext wz wy)) (fun iv _ => n - (intOf iv).toNat)
              case atStart => exact ⟨0, Nat.zero_le _, Nat.zero_le _, rfl, hide rfl, hide (Ext.refl _)⟩
              case round =>
                obtain ⟨i, hi, him, rfl, HTK, HX⟩ := hrel
                obtain ⟨wy, HWY⟩ := worldOf HX
                subst HWY
                have XY := hide (XC.out.trans HX.out)
                have RPY := hide (RPZ.out.ext HX.out)
                have RQY := hide (RQZ.out.ext HX.out)
                by_cases hlt : i < n
                · have hii : (i : Int) < (n : Int) := by omega
                  by_cases hlm : i < m
                  · have hij : (i : Int) < (m : Int) := by omega
                    obtain ⟨x, hx⟩ : ∃ x, L[i]? = some x := ⟨_, List.getElem?_eq_getElem (by rw [HN.out]; exact hlt)⟩
                    obtain ⟨y, hy⟩ : ∃ y, M[i]? = some y := ⟨_, List.getElem?_eq_getElem (by rw [HM.out]; exact hlm)⟩
                    obtain ⟨b, off, hA, hc⟩ := HRA.out (by intro h; rw [h] at hx; cases hx)
                    obtain ⟨b', off', hB, hc'⟩ := HRB.out (by intro h; rw [h] at hy; cases hy)
                    subst hA hB
                    obtain ⟨eb, HEB⟩ : ∃ eb, Hid (decide (x = y) = eb) := ⟨_, hide rfl⟩
                    have HCX : Hid (∀ j v, [Value.int .u8 x.1, .int .i64 x.2.1, .string x.2.2][j]? = some v → wy.cell? ⟨b, off + i * 3 + j, none⟩ = some v) := hide (fun j v hj => by
                      match j, hj with
                      | 0, hj => injection hj with hj; subst hj; exact XY.out.keeps.cell (hc i x hx).1
                      | 1, hj => injection hj with hj; subst hj; exact XY.out.keeps.cell (hc i x hx).2.1
                      | 2, hj => injection hj with hj; subst hj; exact XY.out.keeps.cell (hc i x hx).2.2
                      | j + 3, hj => cases hj)
                    have HCY : Hid (∀ j v, [Value.int .u8 y.1, .int .i64 y.2.1, .string y.2.2][j]? = some v → wy.cell? ⟨b', off' + i * 3 + j, none⟩ = some v) := hide (fun j v hj => by
                      match j, hj with
                      | 0, hj => injection hj with hj; subst hj; exact XY.out.keeps.cell (hc' i y hy).1
                      | 1, hj => injection hj with hj; subst hj; exact XY.out.keeps.cell (hc' i y hy).2.1
                      | 2, hj => injection hj with hj; subst hj; exact XY.out.keeps.cell (hc' i y hy).2.2
                      | j + 3, hj => cases hj)
                    have HXI := hide hx
                    have HYI := hide hy
                    clear hc hc' hx hy
                    go_upto_region 27 with fail
                    rename_i hK
                    refine wp_region_sp (Nat.le_refl _) [
                        Sp.is (.int .i64 (i : Int)),
                        Sp.is (.slice (some ⟨b, off, none⟩) n c),
                        Sp.is (.int .i64 (n : Int)),
                        Sp.is (.bool true),
                        Sp.is (.bool true),
                        Sp.is (.int .i64 (i : Int)),
                        Sp.is (.slice (some ⟨b', off', none⟩) m d),
                        Sp.is (.int .i64 (m : Int)),
                        Sp.is (.bool true),
                        Sp.is (.bool true),
                        Sp.is (.bool true),
                        Sp.is (.slice (some ⟨b, off, none⟩) n c),
                        Sp.is (.int .i64 (i : Int)),
                        Sp.is (.pointer (some ⟨b, off + i * 3, none⟩)),
                        Sp.is (.agg #[.int .u8 x.1, .int .i64 x.2.1, .string x.2.2]),
                        Sp.is (.slice (some ⟨b', off', none⟩) m d),
                        Sp.is (.int .i64 (i : Int)),
                        Sp.is (.pointer (some ⟨b', off' + i * 3, none⟩)),
                        Sp.is (.agg #[.int .u8 y.1, .int .i64 y.2.1, .string y.2.2]),
                        Sp.is (.bool eb),
                        Sp.is (.bool eb)] (by kernel_rfl) (by kernel_rfl) ?_ ?_
                    · refine ⟨?_, ?_, ?_, ?_, ?_, ?_, ?_, ?_, ?_, ?_, ?_, ?_, ?_, ?_, ?_, ?_, ?_, ?_, ?_, ?_, ?_, trivial⟩
                      · intro az wz hx hB hk H
                        refine .inl ⟨wanted_none rfl, ?_⟩
                        refine gives_move rfl ?_
                        rw [(ev (show az.tmps[18]? = some (.int .i64 (i : Int)) from hk 18 rfl))]
                        exact ⟨Grw.refl _ _, rfl⟩
                      · intro az wz hx hB hk H
                        refine .inl ⟨wanted_none rfl, ?_⟩
                        refine gives_move rfl ?_
                        rw [(ev (show az.tmps[0]? = some (.slice (some ⟨b, off, none⟩) n c) from hk 0 rfl))]
                        exact ⟨Grw.refl _ _, rfl⟩
                      · intro az wz hx hB hk H
                        obtain ⟨v106, h106, s106⟩ := H 1 rfl _ rfl 106 rfl
                        refine .inl ⟨wanted_none rfl, ?_⟩
                        exact gives_len rfl ⟨_, Tryd.underlying22⟩ (show az.eval (.tmp 106) = .slice (some ⟨b, off, none⟩) n c from by rw [ev h106]; exact s106) ⟨Grw.refl _ _, rfl⟩
                      · intro az wz hx hB hk H
                        obtain ⟨v105, h105, s105⟩ := H 0 rfl _ rfl 105 rfl
                        obtain ⟨v107, h107, s107⟩ := H 2 rfl _ rfl 107 rfl
                        refine .inl ⟨wanted_none rfl, ?_⟩
                        refine gives_lss_int (k := .i64) (i : Int) (n : Int) rfl (by rw [ev h105]; exact s105) (by rw [ev h107]; exact s107) ⟨Grw.refl _ _, ?_⟩
                        show Value.bool (decide ((i : Int) < (n : Int))) = .bool true
                        rw [decide_eq_true hii]
                      · intro az wz hx hB hk H
                        obtain ⟨v108, h108, s108⟩ := H 3 rfl _ rfl 108 rfl
                        refine .inl ⟨wanted_none rfl, ?_⟩
                        refine gives_move rfl ?_
                        rw [(ev h108)]
                        exact ⟨Grw.refl _ _, s108⟩
                      · intro az wz hx hB hk H
                        obtain ⟨v109, h109, s109⟩ := H 4 rfl _ rfl 109 rfl
                        have g0 : az.tmps[109]? = some (.bool true) := by rw [h109]; exact congrArg some s109
                        refine .inl ⟨wanted_yes _ rfl rfl rfl g0, ?_⟩
                        refine gives_move rfl ?_
                        rw [(ev (show az.tmps[18]? = some (.int .i64 (i : Int)) from hk 18 rfl))]
                        exact ⟨Grw.refl _ _, rfl⟩
                      · intro az wz hx hB hk H
                        obtain ⟨v109, h109, s109⟩ := H 4 rfl _ rfl 109 rfl
                        have g0 : az.tmps[109]? = some (.bool true) := by rw [h109]; exact congrArg some s109
                        refine .inl ⟨wanted_yes _ rfl rfl rfl g0, ?_⟩
                        refine gives_move rfl ?_
                        rw [(ev (show az.tmps[1]? = some (.slice (some ⟨b', off', none⟩) m d) from hk 1 rfl))]
                        exact ⟨Grw.refl _ _, rfl⟩
                      · intro az wz hx hB hk H
                        obtain ⟨v109, h109, s109⟩ := H 4 rfl _ rfl 109 rfl
                        obtain ⟨v111, h111, s111⟩ := H 6 rfl _ rfl 111 rfl
                        have g0 : az.tmps[109]? = some (.bool true) := by rw [h109]; exact congrArg some s109
                        refine .inl ⟨wanted_yes _ rfl rfl rfl g0, ?_⟩
                        exact gives_len rfl ⟨_, Tryd.underlying22⟩ (show az.eval (.tmp 111) = .slice (some ⟨b', off', none⟩) m d from by rw [ev h111]; exact s111) ⟨Grw.refl _ _, rfl⟩
                      · intro az wz hx hB hk H
                        obtain ⟨v109, h109, s109⟩ := H 4 rfl _ rfl 109 rfl
                        obtain ⟨v110, h110, s110⟩ := H 5 rfl _ rfl 110 rfl
                        obtain ⟨v112, h112, s112⟩ := H 7 rfl _ rfl 112 rfl
                        have g0 : az.tmps[109]? = some (.bool true) := by rw [h109]; exact congrArg some s109
                        refine .inl ⟨wanted_yes _ rfl rfl rfl g0, ?_⟩
                        refine gives_lss_int (k := .i64) (i : Int) (m : Int) rfl (by rw [ev h110]; exact s110) (by rw [ev h112]; exact s112) ⟨Grw.refl _ _, ?_⟩
                        show Value.bool (decide ((i : Int) < (m : Int))) = .bool true
                        rw [decide_eq_true hij]
                      · intro az wz hx hB hk H
                        obtain ⟨v109, h109, s109⟩ := H 4 rfl _ rfl 109 rfl
                        obtain ⟨v113, h113, s113⟩ := H 8 rfl _ rfl 113 rfl
                        refine .inl ⟨wanted_none rfl, ?_⟩
                        refine gives_pick true rfl ?_ ?_
                        · rw [(ev h109)]
                          exact s109
                        · show Grw _ _ _ ∧ _
                          rw [if_pos rfl, (ev h113)]
                          exact ⟨Grw.refl _ _, s113⟩
                      · intro az wz hx hB hk H
                        obtain ⟨v114, h114, s114⟩ := H 9 rfl _ rfl 114 rfl
                        refine .inl ⟨wanted_none rfl, ?_⟩
                        refine gives_move rfl ?_
                        rw [(ev h114)]
                        exact ⟨Grw.refl _ _, s114⟩
                      · intro az wz hx hB hk H
                        obtain ⟨v115, h115, s115⟩ := H 10 rfl _ rfl 115 rfl
                        have g0 : az.tmps[115]? = some (.bool true) := by rw [h115]; exact congrArg some s115
                        refine .inl ⟨wanted_yes _ rfl rfl rfl g0, ?_⟩
                        refine gives_move rfl ?_
                        rw [(ev (show az.tmps[0]? = some (.slice (some ⟨b, off, none⟩) n c) from hk 0 rfl))]
                        exact ⟨Grw.refl _ _, rfl⟩
                      · intro az wz hx hB hk H
                        obtain ⟨v115, h115, s115⟩ := H 10 rfl _ rfl 115 rfl
                        have g0 : az.tmps[115]? = some (.bool true) := by rw [h115]; exact congrArg some s115
                        refine .inl ⟨wanted_yes _ rfl rfl rfl g0, ?_⟩
                        refine gives_move rfl ?_
                        rw [(ev (show az.tmps[18]? = some (.int .i64 (i : Int)) from hk 18 rfl))]
                        exact ⟨Grw.refl _ _, rfl⟩
                      · intro az wz hx hB hk H
                        obtain ⟨v115, h115, s115⟩ := H 10 rfl _ rfl 115 rfl
                        obtain ⟨v116, h116, s116⟩ := H 11 rfl _ rfl 116 rfl
                        obtain ⟨v117, h117, s117⟩ := H 12 rfl _ rfl 117 rfl
                        have g0 : az.tmps[115]? = some (.bool true) := by rw [h115]; exact congrArg some s115
                        refine .inl ⟨wanted_yes _ rfl rfl rfl g0, ?_⟩
                        exact gives_indexP rfl (ev (show az.tmps[116]? = some (.slice (some ⟨b, off, none⟩) n c) from by rw [h116, s116])) (ev (show az.tmps[117]? = some (.int .i64 (i : Int)) from by rw [h117, s117])) (run_indexV b off n c i hlt _) ⟨Grw.refl _ _, rfl⟩
                      · intro az wz hx hB hk H
                        obtain ⟨v115, h115, s115⟩ := H 10 rfl _ rfl 115 rfl
                        obtain ⟨v118, h118, s118⟩ := H 13 rfl _ rfl 118 rfl
                        have g0 : az.tmps[115]? = some (.bool true) := by rw [h115]; exact congrArg some s115
                        refine .inl ⟨wanted_yes _ rfl rfl rfl g0, ?_⟩
                        refine gives_load_at 26 (.tmp 118) rfl b (off + i * 3) (ev (show az.tmps[118]? = some (.pointer (some ⟨b, off + i * 3, none⟩)) from by rw [h118, s118])) [.int .u8 x.1, .int .i64 x.2.1, .string x.2.2] 3 (agg_struct Tryd.underlying26 wz) (by kernel_rfl) rfl (fun j v hj => hx.keeps.cell (HCX.out j v hj)) ⟨Grw.refl _ _, rfl⟩
                      · intro az wz hx hB hk H
                        obtain ⟨v115, h115, s115⟩ := H 10 rfl _ rfl 115 rfl
                        have g0 : az.tmps[115]? = some (.bool true) := by rw [h115]; exact congrArg some s115
                        refine .inl ⟨wanted_yes _ rfl rfl rfl g0, ?_⟩
                        refine gives_move rfl ?_
                        rw [(ev (show az.tmps[1]? = some (.slice (some ⟨b', off', none⟩) m d) from hk 1 rfl))]
                        exact ⟨Grw.refl _ _, rfl⟩
                      · intro az wz hx hB hk H
                        obtain ⟨v115, h115, s115⟩ := H 10 rfl _ rfl 115 rfl
                        have g0 : az.tmps[115]? = some (.bool true) := by rw [h115]; exact congrArg some s115
                        refine .inl ⟨wanted_yes _ rfl rfl rfl g0, ?_⟩
                        refine gives_move rfl ?_
                        rw [(ev (show az.tmps[18]? = some (.int .i64 (i : Int)) from hk 18 rfl))]
                        exact ⟨Grw.refl _ _, rfl⟩
                      · intro az wz hx hB hk H
                        obtain ⟨v115, h115, s115⟩ := H 10 rfl _ rfl 115 rfl
                        obtain ⟨v120, h120, s120⟩ := H 15 rfl _ rfl 120 rfl
                        obtain ⟨v121, h121, s121⟩ := H 16 rfl _ rfl 121 rfl
                        have g0 : az.tmps[115]? = some (.bool true) := by rw [h115]; exact congrArg some s115
                        refine .inl ⟨wanted_yes _ rfl rfl rfl g0, ?_⟩
                        exact gives_indexP rfl (ev (show az.tmps[120]? = some (.slice (some ⟨b', off', none⟩) m d) from by rw [h120, s120])) (ev (show az.tmps[121]? = some (.int .i64 (i : Int)) from by rw [h121, s121])) (run_indexV b' off' m d i hlm _) ⟨Grw.refl _ _, rfl⟩
                      · intro az wz hx hB hk H
                        obtain ⟨v115, h115, s115⟩ := H 10 rfl _ rfl 115 rfl
                        obtain ⟨v122, h122, s122⟩ := H 17 rfl _ rfl 122 rfl
                        have g0 : az.tmps[115]? = some (.bool true) := by rw [h115]; exact congrArg some s115
                        refine .inl ⟨wanted_yes _ rfl rfl rfl g0, ?_⟩
                        refine gives_load_at 26 (.tmp 122) rfl b' (off' + i * 3) (ev (show az.tmps[122]? = some (.pointer (some ⟨b', off' + i * 3, none⟩)) from by rw [h122, s122])) [.int .u8 y.1, .int .i64 y.2.1, .string y.2.2] 3 (agg_struct Tryd.underlying26 wz) (by kernel_rfl) rfl (fun j v hj => hx.keeps.cell (HCY.out j v hj)) ⟨Grw.refl _ _, rfl⟩
                      · intro az wz hx hB hk H
                        obtain ⟨v115, h115, s115⟩ := H 10 rfl _ rfl 115 rfl
                        obtain ⟨v119, h119, s119⟩ := H 14 rfl _ rfl 119 rfl
                        obtain ⟨v123, h123, s123⟩ := H 18 rfl _ rfl 123 rfl
                        have g0 : az.tmps[115]? = some (.bool true) := by rw [h115]; exact congrArg some s115
                        refine .inl ⟨wanted_yes _ rfl rfl rfl g0, ?_⟩
                        refine gives_of_run (w' := wz) (v := .bool eb) ?_ ⟨Grw.refl _ _, rfl⟩
                        rw [← HEB.out, veq_split]
                        rw [s119] at h119
                        rw [s123] at h123
                        simp [execOp, go_sem, h119, h123, Tryd.underlying26]
                        by_cases e1 : x.1 = y.1 <;> by_cases e2 : x.2.1 = y.2.1 <;> by_cases e3 : x.2.2.toList = y.2.2.toList <;> simp [e1, e2, e3]
                      · intro az wz hx hB hk H
                        obtain ⟨v115, h115, s115⟩ := H 10 rfl _ rfl 115 rfl
                        obtain ⟨v124, h124, s124⟩ := H 19 rfl _ rfl 124 rfl
                        refine .inl ⟨wanted_none rfl, ?_⟩
                        refine gives_pick true rfl ?_ ?_
                        · rw [(ev h115)]
                          exact s115
                        · show Grw _ _ _ ∧ _
                          rw [if_pos rfl, (ev h124)]
                          exact ⟨Grw.refl _ _, s124⟩
                    · intro az wz hx hd hs hv hsame
                      obtain ⟨v105, h105, s105⟩ := hv 0 _ 105 rfl rfl
                      obtain rfl : v105 = (.int .i64 (i : Int)) := s105
                      obtain ⟨v106, h106, s106⟩ := hv 1 _ 106 rfl rfl
                      obtain rfl : v106 = (.slice (some ⟨b, off, none⟩) n c) := s106
                      obtain ⟨v107, h107, s107⟩ := hv 2 _ 107 rfl rfl
                      obtain rfl : v107 = (.int .i64 (n : Int)) := s107
                      obtain ⟨v108, h108, s108⟩ := hv 3 _ 108 rfl rfl
                      obtain rfl : v108 = (.bool true) := s108
                      obtain ⟨v109, h109, s109⟩ := hv 4 _ 109 rfl rfl
                      obtain rfl : v109 = (.bool true) := s109
                      obtain ⟨v110, h110, s110⟩ := hv 5 _ 110 rfl rfl
                      obtain rfl : v110 = (.int .i64 (i : Int)) := s110
                      obtain ⟨v111, h111, s111⟩ := hv 6 _ 111 rfl rfl
                      obtain rfl : v111 = (.slice (some ⟨b', off', none⟩) m d) := s111
                      obtain ⟨v112, h112, s112⟩ := hv 7 _ 112 rfl rfl
                      obtain rfl : v112 = (.int .i64 (m : Int)) := s112
                      obtain ⟨v113, h113, s113⟩ := hv 8 _ 113 rfl rfl
                      obtain rfl : v113 = (.bool true) := s113
                      obtain ⟨v114, h114, s114⟩ := hv 9 _ 114 rfl rfl
                      obtain rfl : v114 = (.bool true) := s114
                      obtain ⟨v115, h115, s115⟩ := hv 10 _ 115 rfl rfl
                      obtain rfl : v115 = (.bool true) := s115
                      obtain ⟨v116, h116, s116⟩ := hv 11 _ 116 rfl rfl
                      obtain rfl : v116 = (.slice (some ⟨b, off, none⟩) n c) := s116
                      obtain ⟨v117, h117, s117⟩ := hv 12 _ 117 rfl rfl
                      obtain rfl : v117 = (.int .i64 (i : Int)) := s117
                      obtain ⟨v118, h118, s118⟩ := hv 13 _ 118 rfl rfl
                      obtain rfl : v118 = (.pointer (some ⟨b, off + i * 3, none⟩)) := s118
                      obtain ⟨v119, h119, s119⟩ := hv 14 _ 119 rfl rfl
                      obtain rfl : v119 = (.agg #[.int .u8 x.1, .int .i64 x.2.1, .string x.2.2]) := s119
                      obtain ⟨v120, h120, s120⟩ := hv 15 _ 120 rfl rfl
                      obtain rfl : v120 = (.slice (some ⟨b', off', none⟩) m d) := s120
                      obtain ⟨v121, h121, s121⟩ := hv 16 _ 121 rfl rfl
                      obtain rfl : v121 = (.int .i64 (i : Int)) := s121
                      obtain ⟨v122, h122, s122⟩ := hv 17 _ 122 rfl rfl
                      obtain rfl : v122 = (.pointer (some ⟨b', off' + i * 3, none⟩)) := s122
                      obtain ⟨v123, h123, s123⟩ := hv 18 _ 123 rfl rfl
                      obtain rfl : v123 = (.agg #[.int .u8 y.1, .int .i64 y.2.1, .string y.2.2]) := s123
                      obtain ⟨v124, h124, s124⟩ := hv 19 _ 124 rfl rfl
                      obtain rfl : v124 = (.bool eb) := s124
                      obtain ⟨v125, h125, s125⟩ := hv 20 _ 125 rfl rfl
                      obtain rfl : v125 = (.bool eb) := s125
                      have hfr := frame_last (k := 21) [(105, (.int .i64 (i : Int))), (106, (.slice (some ⟨b, off, none⟩) n c)), (107, (.int .i64 (n : Int))), (108, (.bool true)), (109, (.bool true)), (110, (.int .i64 (i : Int))), (111, (.slice (some ⟨b', off', none⟩) m d)), (112, (.int .i64 (m : Int))), (113, (.bool true)), (114, (.bool true)), (115, (.bool true)), (116, (.slice (some ⟨b, off, none⟩) n c)), (117, (.int .i64 (i : Int))), (118, (.pointer (some ⟨b, off + i * 3, none⟩))), (119, (.agg #[.int .u8 x.1, .int .i64 x.2.1, .string x.2.2])), (120, (.slice (some ⟨b', off', none⟩) m d)), (121, (.int .i64 (i : Int))), (122, (.pointer (some ⟨b', off' + i * 3, none⟩))), (123, (.agg #[.int .u8 y.1, .int .i64 y.2.1, .string y.2.2])), (124, (.bool eb)), (125, (.bool eb))] hs (by kernel_rfl) (by simp only [List.forall_mem_cons, List.not_mem_nil, false_implies, implies_true, and_true]; exact ⟨h105, h106, h107, h108, h109, h110, h111, h112, h113, h114, h115, h116, h117, h118, h119, h120, h121, h122, h123, h124, h125⟩) (fun t' h => hsame t' fun i o ho => h i o (by intro e; subst e; cases ho) ho)
                      simp only [List.foldl_cons, List.foldl_nil, List.setIfInBounds_toArray, List.set_cons_succ, List.set_cons_zero] at hfr
                      obtain ⟨tm, df⟩ := az
                      simp only [] at hfr hd
                      subst hfr hd
                      clear hv hsame hs h105 h106 h107 h108 h109 h110 h111 h112 h113 h114 h115 h116 h117 h118 h119 h120 h121 h122 h123 h124 h125
                      refine hK _ _ ?_
                      clear hK
                      have X7 := hide ((Ext.refl wy).grw hx)
                      clear hx
                      cases eb with
                      | true =>
                        obtain rfl := of_decide_eq_true HEB.out
                        go_wp2
                        exact ⟨⟨i + 1, by omega, by omega, by go_num, hide (by rw [List.take_add_one, List.take_add_one, HTK.out, HXI.out, HYI.out]), hide (HX.out.trans X7.out)⟩, by simp [intOf]; omega⟩
                      | false =>
                        have hne := of_decide_eq_false HEB.out
                        obtain ⟨lb, HLB⟩ : ∃ lb, Hid (lessV x y = lb) := ⟨_, hide rfl⟩
                        have HLS : Hid (Op.bytesLess P Q = lb) := hide (by
                          rw [← HP.out, ← HQ.out, ← HLB.out]
                          exact runs_less HTK.out HXI.out HYI.out (List.all_eq_true.1 HAL1.out x (List.mem_of_getElem? HXI.out)) (List.all_eq_true.1 HALM.out y (List.mem_of_getElem? HYI.out)) (HBL.out x (List.mem_of_getElem? HXI.out)) (HBM.out y (List.mem_of_getElem? HYI.out)) hne)
                        have KL := hide (fun (W : World) => less_any x y W)
                        rw [HLB.out] at KL
                        have HCX2 := hide (fun (j : Nat) (v : Value) (hj : [Value.int .u8 x.1, .int .i64 x.2.1, .string x.2.2][j]? = some v) => X7.out.keeps.cell (HCX.out j v hj))
                        have HCY2 := hide (fun (j : Nat) (v : Value) (hj : [Value.int .u8 y.1, .int .i64 y.2.1, .string y.2.2][j]? = some v) => X7.out.keeps.cell (HCY.out j v hj))
                        clear HCX HCY hne
                        go_upto_region 29 with fail
                        rename_i hK
                        refine wp_region_sp (Nat.le_refl _) [
                            Sp.is (.int .i64 (i : Int)),
                            Sp.is (.slice (some ⟨b', off', none⟩) m d),
                            Sp.is (.int .i64 (m : Int)),
                            Sp.is (.bool true),
                            Sp.is (.bool true),
                            Sp.is (.int .i64 (i : Int)),
                            Sp.is (.slice (some ⟨b, off, none⟩) n c),
                            Sp.is (.int .i64 (n : Int)),
                            Sp.is (.bool false),
                            Sp.is (.bool false),
                            Sp.is (.slice (some ⟨b, off, none⟩) n c),
                            Sp.is (.int .i64 (i : Int)),
                            Sp.is (.pointer (some ⟨b, off + i * 3, none⟩)),
                            Sp.is (.agg #[.int .u8 x.1, .int .i64 x.2.1, .string x.2.2]),
                            Sp.is (.slice (some ⟨b', off', none⟩) m d),
                            Sp.is (.int .i64 (i : Int)),
                            Sp.is (.pointer (some ⟨b', off' + i * 3, none⟩)),
                            Sp.is (.agg #[.int .u8 y.1, .int .i64 y.2.1, .string y.2.2]),
                            Sp.is (.bool lb),
                            Sp.is (.bool lb),
                            Sp.is (.bool lb),
                            Sp.is (.bool lb)] (by kernel_rfl) (by kernel_rfl) ?_ ?_
                        · refine ⟨?_, ?_, ?_, ?_, ?_, ?_, ?_, ?_, ?_, ?_, ?_, ?_, ?_, ?_, ?_, ?_, ?_, ?_, ?_, ?_, ?_, ?_, trivial⟩
                          · intro az wz hx hB hk H
                            refine .inl ⟨wanted_none rfl, ?_⟩
                            refine gives_move rfl ?_
                            rw [(ev (show az.tmps[18]? = some (.int .i64 (i : Int)) from hk 18 rfl))]
                            exact ⟨Grw.refl _ _, rfl⟩
                          · intro az wz hx hB hk H
                            refine .inl ⟨wanted_none rfl, ?_⟩
                            refine gives_move rfl ?_
                            rw [(ev (show az.tmps[1]? = some (.slice (some ⟨b', off', none⟩) m d) from hk 1 rfl))]
                            exact ⟨Grw.refl _ _, rfl⟩
                          · intro az wz hx hB hk H
                            obtain ⟨v129, h129, s129⟩ := H 1 rfl _ rfl 129 rfl
                            refine .inl ⟨wanted_none rfl, ?_⟩
                            exact gives_len rfl ⟨_, Tryd.underlying22⟩ (show az.eval (.tmp 129) = .slice (some ⟨b', off', none⟩) m d from by rw [ev h129]; exact s129) ⟨Grw.refl _ _, rfl⟩
                          · intro az wz hx hB hk H
                            obtain ⟨v128, h128, s128⟩ := H 0 rfl _ rfl 128 rfl
                            obtain ⟨v130, h130, s130⟩ := H 2 rfl _ rfl 130 rfl
                            refine .inl ⟨wanted_none rfl, ?_⟩
                            refine gives_lss_int (k := .i64) (i : Int) (m : Int) rfl (by rw [ev h128]; exact s128) (by rw [ev h130]; exact s130) ⟨Grw.refl _ _, ?_⟩
                            show Value.bool (decide ((i : Int) < (m : Int))) = .bool true
                            rw [decide_eq_true hij]
                          · intro az wz hx hB hk H
                            obtain ⟨v131, h131, s131⟩ := H 3 rfl _ rfl 131 rfl
                            refine .inl ⟨wanted_none rfl, ?_⟩
                            refine gives_move rfl ?_
                            rw [(ev h131)]
                            exact ⟨Grw.refl _ _, s131⟩
                          · intro az wz hx hB hk H
                            obtain ⟨v132, h132, s132⟩ := H 4 rfl _ rfl 132 rfl
                            have g0 : az.tmps[132]? = some (.bool true) := by rw [h132]; exact congrArg some s132
                            refine .inl ⟨wanted_yes _ rfl rfl rfl g0, ?_⟩
                            refine gives_move rfl ?_
                            rw [(ev (show az.tmps[18]? = some (.int .i64 (i : Int)) from hk 18 rfl))]
                            exact ⟨Grw.refl _ _, rfl⟩
                          · intro az wz hx hB hk H
                            obtain ⟨v132, h132, s132⟩ := H 4 rfl _ rfl 132 rfl
                            have g0 : az.tmps[132]? = some (.bool true) := by rw [h132]; exact congrArg some s132
                            refine .inl ⟨wanted_yes _ rfl rfl rfl g0, ?_⟩
                            refine gives_move rfl ?_
                            rw [(ev (show az.tmps[0]? = some (.slice (some ⟨b, off, none⟩) n c) from hk 0 rfl))]
                            exact ⟨Grw.refl _ _, rfl⟩
                          · intro az wz hx hB hk H
                            obtain ⟨v132, h132, s132⟩ := H 4 rfl _ rfl 132 rfl
                            obtain ⟨v134, h134, s134⟩ := H 6 rfl _ rfl 134 rfl
                            have g0 : az.tmps[132]? = some (.bool true) := by rw [h132]; exact congrArg some s132
                            refine .inl ⟨wanted_yes _ rfl rfl rfl g0, ?_⟩
                            exact gives_len rfl ⟨_, Tryd.underlying22⟩ (show az.eval (.tmp 134) = .slice (some ⟨b, off, none⟩) n c from by rw [ev h134]; exact s134) ⟨Grw.refl _ _, rfl⟩
                          · intro az wz hx hB hk H
                            obtain ⟨v132, h132, s132⟩ := H 4 rfl _ rfl 132 rfl
                            obtain ⟨v133, h133, s133⟩ := H 5 rfl _ rfl 133 rfl
                            obtain ⟨v135, h135, s135⟩ := H 7 rfl _ rfl 135 rfl
                            have g0 : az.tmps[132]? = some (.bool true) := by rw [h132]; exact congrArg some s132
                            refine .inl ⟨wanted_yes _ rfl rfl rfl g0, ?_⟩
                            refine gives_of_run (w' := wz) (v := .bool false) ?_ ⟨Grw.refl _ _, rfl⟩
                            rw [s133] at h133
                            rw [s135] at h135
                            simp [execOp, go_sem, h133, h135]
                            omega
                          · intro az wz hx hB hk H
                            obtain ⟨v132, h132, s132⟩ := H 4 rfl _ rfl 132 rfl
                            obtain ⟨v136, h136, s136⟩ := H 8 rfl _ rfl 136 rfl
                            have g0 : az.tmps[132]? = some (.bool true) := by rw [h132]; exact congrArg some s132
                            refine .inl ⟨wanted_yes _ rfl rfl rfl g0, ?_⟩
                            refine gives_move rfl ?_
                            rw [(ev h136)]
                            exact ⟨Grw.refl _ _, s136⟩
                          · intro az wz hx hB hk H
                            obtain ⟨v137, h137, s137⟩ := H 9 rfl _ rfl 137 rfl
                            have g0 : az.tmps[137]? = some (.bool false) := by rw [h137]; exact congrArg some s137
                            refine .inl ⟨wanted_yes _ rfl rfl rfl g0, ?_⟩
                            refine gives_move rfl ?_
                            rw [(ev (show az.tmps[0]? = some (.slice (some ⟨b, off, none⟩) n c) from hk 0 rfl))]
                            exact ⟨Grw.refl _ _, rfl⟩
                          · intro az wz hx hB hk H
                            obtain ⟨v137, h137, s137⟩ := H 9 rfl _ rfl 137 rfl
                            have g0 : az.tmps[137]? = some (.bool false) := by rw [h137]; exact congrArg some s137
                            refine .inl ⟨wanted_yes _ rfl rfl rfl g0, ?_⟩
                            refine gives_move rfl ?_
                            rw [(ev (show az.tmps[18]? = some (.int .i64 (i : Int)) from hk 18 rfl))]
                            exact ⟨Grw.refl _ _, rfl⟩
                          · intro az wz hx hB hk H
                            obtain ⟨v137, h137, s137⟩ := H 9 rfl _ rfl 137 rfl
                            obtain ⟨v138, h138, s138⟩ := H 10 rfl _ rfl 138 rfl
                            obtain ⟨v139, h139, s139⟩ := H 11 rfl _ rfl 139 rfl
                            have g0 : az.tmps[137]? = some (.bool false) := by rw [h137]; exact congrArg some s137
                            refine .inl ⟨wanted_yes _ rfl rfl rfl g0, ?_⟩
                            exact gives_indexP rfl (ev (show az.tmps[138]? = some (.slice (some ⟨b, off, none⟩) n c) from by rw [h138, s138])) (ev (show az.tmps[139]? = some (.int .i64 (i : Int)) from by rw [h139, s139])) (run_indexV b off n c i hlt _) ⟨Grw.refl _ _, rfl⟩
                          · intro az wz hx hB hk H
                            obtain ⟨v137, h137, s137⟩ := H 9 rfl _ rfl 137 rfl
                            obtain ⟨v140, h140, s140⟩ := H 12 rfl _ rfl 140 rfl
                            have g0 : az.tmps[137]? = some (.bool false) := by rw [h137]; exact congrArg some s137
                            refine .inl ⟨wanted_yes _ rfl rfl rfl g0, ?_⟩
                            refine gives_load_at 26 (.tmp 140) rfl b (off + i * 3) (ev (show az.tmps[140]? = some (.pointer (some ⟨b, off + i * 3, none⟩)) from by rw [h140, s140])) [.int .u8 x.1, .int .i64 x.2.1, .string x.2.2] 3 (agg_struct Tryd.underlying26 wz) (by kernel_rfl) rfl (fun j v hj => hx.keeps.cell (HCX2.out j v hj)) ⟨Grw.refl _ _, rfl⟩
                          · intro az wz hx hB hk H
                            obtain ⟨v137, h137, s137⟩ := H 9 rfl _ rfl 137 rfl
                            have g0 : az.tmps[137]? = some (.bool false) := by rw [h137]; exact congrArg some s137
                            refine .inl ⟨wanted_yes _ rfl rfl rfl g0, ?_⟩
                            refine gives_move rfl ?_
                            rw [(ev (show az.tmps[1]? = some (.slice (some ⟨b', off', none⟩) m d) from hk 1 rfl))]
                            exact ⟨Grw.refl _ _, rfl⟩
                          · intro az wz hx hB hk H
                            obtain ⟨v137, h137, s137⟩ := H 9 rfl _ rfl 137 rfl
                            have g0 : az.tmps[137]? = some (.bool false) := by rw [h137]; exact congrArg some s137
                            refine .inl ⟨wanted_yes _ rfl rfl rfl g0, ?_⟩
                            refine gives_move rfl ?_
                            rw [(ev (show az.tmps[18]? = some (.int .i64 (i : Int)) from hk 18 rfl))]
                            exact ⟨Grw.refl _ _, rfl⟩
                          · intro az wz hx hB hk H
                            obtain ⟨v137, h137, s137⟩ := H 9 rfl _ rfl 137 rfl
                            obtain ⟨v142, h142, s142⟩ := H 14 rfl _ rfl 142 rfl
                            obtain ⟨v143, h143, s143⟩ := H 15 rfl _ rfl 143 rfl
                            have g0 : az.tmps[137]? = some (.bool false) := by rw [h137]; exact congrArg some s137
                            refine .inl ⟨wanted_yes _ rfl rfl rfl g0, ?_⟩
                            exact gives_indexP rfl (ev (show az.tmps[142]? = some (.slice (some ⟨b', off', none⟩) m d) from by rw [h142, s142])) (ev (show az.tmps[143]? = some (.int .i64 (i : Int)) from by rw [h143, s143])) (run_indexV b' off' m d i hlm _) ⟨Grw.refl _ _, rfl⟩
                          · intro az wz hx hB hk H
                            obtain ⟨v137, h137, s137⟩ := H 9 rfl _ rfl 137 rfl
                            obtain ⟨v144, h144, s144⟩ := H 16 rfl _ rfl 144 rfl
                            have g0 : az.tmps[137]? = some (.bool false) := by rw [h137]; exact congrArg some s137
                            refine .inl ⟨wanted_yes _ rfl rfl rfl g0, ?_⟩
                            refine gives_load_at 26 (.tmp 144) rfl b' (off' + i * 3) (ev (show az.tmps[144]? = some (.pointer (some ⟨b', off' + i * 3, none⟩)) from by rw [h144, s144])) [.int .u8 y.1, .int .i64 y.2.1, .string y.2.2] 3 (agg_struct Tryd.underlying26 wz) (by kernel_rfl) rfl (fun j v hj => hx.keeps.cell (HCY2.out j v hj)) ⟨Grw.refl _ _, rfl⟩
                          · intro az wz hx hB hk H
                            obtain ⟨v137, h137, s137⟩ := H 9 rfl _ rfl 137 rfl
                            obtain ⟨v141, h141, s141⟩ := H 13 rfl _ rfl 141 rfl
                            obtain ⟨v145, h145, s145⟩ := H 17 rfl _ rfl 145 rfl
                            have g0 : az.tmps[137]? = some (.bool false) := by rw [h137]; exact congrArg some s137
                            refine .inl ⟨wanted_yes _ rfl rfl rfl g0, ?_⟩
                            refine gives_call rfl Tryd.call23 (by simp only [List.map_toArray, List.map_cons, List.map_nil, ev h141, ev h145]; rw [s141, s145]) ?_
                            exact (KL.out wz).mono fun e w' ⟨he, hx'⟩ => Ret.grw (⟨_, he, hx', rfl⟩ : Ret wz (Is (.bool lb)) e w') hB
                          · intro az wz hx hB hk H
                            obtain ⟨v132, h132, s132⟩ := H 4 rfl _ rfl 132 rfl
                            obtain ⟨v137, h137, s137⟩ := H 9 rfl _ rfl 137 rfl
                            obtain ⟨v146, h146, s146⟩ := H 18 rfl _ rfl 146 rfl
                            have g0 : az.tmps[132]? = some (.bool true) := by rw [h132]; exact congrArg some s132
                            refine .inl ⟨wanted_yes _ rfl rfl rfl g0, ?_⟩
                            refine gives_pick false rfl ?_ ?_
                            · rw [(ev h137)]
                              exact s137
                            · show Grw _ _ _ ∧ _
                              rw [if_neg (by decide), (ev h146)]
                              exact ⟨Grw.refl _ _, s146⟩
                          · intro az wz hx hB hk H
                            obtain ⟨v132, h132, s132⟩ := H 4 rfl _ rfl 132 rfl
                            obtain ⟨v147, h147, s147⟩ := H 19 rfl _ rfl 147 rfl
                            refine .inl ⟨wanted_none rfl, ?_⟩
                            refine gives_pick true rfl ?_ ?_
                            · rw [(ev h132)]
                              exact s132
                            · show Grw _ _ _ ∧ _
                              rw [if_pos rfl, (ev h147)]
                              exact ⟨Grw.refl _ _, s147⟩
                          · intro az wz hx hB hk H
                            obtain ⟨v148, h148, s148⟩ := H 20 rfl _ rfl 148 rfl
                            refine .inl ⟨wanted_none rfl, ?_⟩
                            refine gives_assign rfl ?_
                            rw [(ev h148)]
                            exact ⟨Grw.refl _ _, s148⟩
                        · intro az wz hx hd hs hv hsame
                          obtain ⟨v128, h128, s128⟩ := hv 0 _ 128 rfl rfl
                          obtain rfl : v128 = (.int .i64 (i : Int)) := s128
                          obtain ⟨v129, h129, s129⟩ := hv 1 _ 129 rfl rfl
                          obtain rfl : v129 = (.slice (some ⟨b', off', none⟩) m d) := s129
                          obtain ⟨v130, h130, s130⟩ := hv 2 _ 130 rfl rfl
                          obtain rfl : v130 = (.int .i64 (m : Int)) := s130
                          obtain ⟨v131, h131, s131⟩ := hv 3 _ 131 rfl rfl
                          obtain rfl : v131 = (.bool true) := s131
                          obtain ⟨v132, h132, s132⟩ := hv 4 _ 132 rfl rfl
                          obtain rfl : v132 = (.bool true) := s132
                          obtain ⟨v133, h133, s133⟩ := hv 5 _ 133 rfl rfl
                          obtain rfl : v133 = (.int .i64 (i : Int)) := s133
                          obtain ⟨v134, h134, s134⟩ := hv 6 _ 134 rfl rfl
                          obtain rfl : v134 = (.slice (some ⟨b, off, none⟩) n c) := s134
                          obtain ⟨v135, h135, s135⟩ := hv 7 _ 135 rfl rfl
                          obtain rfl : v135 = (.int .i64 (n : Int)) := s135
                          obtain ⟨v136, h136, s136⟩ := hv 8 _ 136 rfl rfl
                          obtain rfl : v136 = (.bool false) := s136
                          obtain ⟨v137, h137, s137⟩ := hv 9 _ 137 rfl rfl
                          obtain rfl : v137 = (.bool false) := s137
                          obtain ⟨v138, h138, s138⟩ := hv 10 _ 138 rfl rfl
                          obtain rfl : v138 = (.slice (some ⟨b, off, none⟩) n c) := s138
                          obtain ⟨v139, h139, s139⟩ := hv 11 _ 139 rfl rfl
                          obtain rfl : v139 = (.int .i64 (i : Int)) := s139
                          obtain ⟨v140, h140, s140⟩ := hv 12 _ 140 rfl rfl
                          obtain rfl : v140 = (.pointer (some ⟨b, off + i * 3, none⟩)) := s140
                          obtain ⟨v141, h141, s141⟩ := hv 13 _ 141 rfl rfl
                          obtain rfl : v141 = (.agg #[.int .u8 x.1, .int .i64 x.2.1, .string x.2.2]) := s141
                          obtain ⟨v142, h142, s142⟩ := hv 14 _ 142 rfl rfl
                          obtain rfl : v142 = (.slice (some ⟨b', off', none⟩) m d) := s142
                          obtain ⟨v143, h143, s143⟩ := hv 15 _ 143 rfl rfl
                          obtain rfl : v143 = (.int .i64 (i : Int)) := s143
                          obtain ⟨v144, h144, s144⟩ := hv 16 _ 144 rfl rfl
                          obtain rfl : v144 = (.pointer (some ⟨b', off' + i * 3, none⟩)) := s144
                          obtain ⟨v145, h145, s145⟩ := hv 17 _ 145 rfl rfl
                          obtain rfl : v145 = (.agg #[.int .u8 y.1, .int .i64 y.2.1, .string y.2.2]) := s145
                          obtain ⟨v146, h146, s146⟩ := hv 18 _ 146 rfl rfl
                          obtain rfl : v146 = (.bool lb) := s146
                          obtain ⟨v147, h147, s147⟩ := hv 19 _ 147 rfl rfl
                          obtain rfl : v147 = (.bool lb) := s147
                          obtain ⟨v148, h148, s148⟩ := hv 20 _ 148 rfl rfl
                          obtain rfl : v148 = (.bool lb) := s148
                          obtain ⟨v19, h19, s19⟩ := hv 21 _ 19 rfl rfl
                          obtain rfl : v19 = (.bool lb) := s19
                          have hfr := frame_last (k := 22) [(128, (.int .i64 (i : Int))), (129, (.slice (some ⟨b', off', none⟩) m d)), (130, (.int .i64 (m : Int))), (131, (.bool true)), (132, (.bool true)), (133, (.int .i64 (i : Int))), (134, (.slice (some ⟨b, off, none⟩) n c)), (135, (.int .i64 (n : Int))), (136, (.bool false)), (137, (.bool false)), (138, (.slice (some ⟨b, off, none⟩) n c)), (139, (.int .i64 (i : Int))), (140, (.pointer (some ⟨b, off + i * 3, none⟩))), (141, (.agg #[.int .u8 x.1, .int .i64 x.2.1, .string x.2.2])), (142, (.slice (some ⟨b', off', none⟩) m d)), (143, (.int .i64 (i : Int))), (144, (.pointer (some ⟨b', off' + i * 3, none⟩))), (145, (.agg #[.int .u8 y.1, .int .i64 y.2.1, .string y.2.2])), (146, (.bool lb)), (147, (.bool lb)), (148, (.bool lb)), (19, (.bool lb))] hs (by kernel_rfl) (by simp only [List.forall_mem_cons, List.not_mem_nil, false_implies, implies_true, and_true]; exact ⟨h128, h129, h130, h131, h132, h133, h134, h135, h136, h137, h138, h139, h140, h141, h142, h143, h144, h145, h146, h147, h148, h19⟩) (fun t' h => hsame t' fun i o ho => h i o (by intro e; subst e; cases ho) ho)
                          simp only [List.foldl_cons, List.foldl_nil, List.setIfInBounds_toArray, List.set_cons_succ, List.set_cons_zero] at hfr
                          obtain ⟨tm, df⟩ := az
                          simp only [] at hfr hd
                          subst hfr hd
                          clear hv hsame hs h128 h129 h130 h131 h132 h133 h134 h135 h136 h137 h138 h139 h140 h141 h142 h143 h144 h145 h146 h147 h148 h19
                          refine hK _ _ ?_
                          clear hK
                          have X9 := hide ((Ext.refl _).grw hx)
                          clear hx
                          go_wp2_with (first
                            | (refine wpList_str (by rfl) (.tmp 155) rfl P ⟨AP, cP, (by rw [HPL.out]; rfl), (by rw [HPL.out]; exact HCP.out), RPY.out.ext (X7.out.trans X9.out)⟩ ?_)
                            | (refine wpList_str (by rfl) (.tmp 157) rfl Q ⟨AQ, cQ, (by rw [HQL.out]; rfl), (by rw [HQL.out]; exact HCQ.out), RQY.out.ext (X7.out.trans X9.out)⟩ ?_))
                          have hls := HLS.out
                          go_ret
                          refine ⟨?_, XY.out.trans (X7.out.trans X9.out)⟩
                          simp [hls]
                  · obtain rfl : m = i := by omega
                    have hij : ¬ (m : Int) < (m : Int) := by omega
                    obtain ⟨lb, HLB⟩ : ∃ lb, Hid (false = lb) := ⟨_, hide rfl⟩
                    have HLS : Hid (Op.bytesLess P Q = lb) := hide (by
                      rw [← HP.out, ← HQ.out, ← HLB.out]
                      refine runs_end (L := L) (M := M) ?_
                      rw [HM.out, HTK.out, List.take_of_length_le (by rw [HM.out]; exact Nat.le_refl _)])
                    go_upto_region 27 with fail
                    go_quiet (fail)
                    go_upto_region 29 with fail
                    go_quiet (fail)
                    go_wp2_with (first
                      | (refine wpList_str (by rfl) (.tmp 155) rfl P ⟨AP, cP, (by rw [HPL.out]; rfl), (by rw [HPL.out]; exact HCP.out), RPY.out.ext (Ext.drewn _ _)⟩ ?_)
                      | (refine wpList_str (by rfl) (.tmp 157) rfl Q ⟨AQ, cQ, (by rw [HQL.out]; rfl), (by rw [HQL.out]; exact HCQ.out), RQY.out.ext (Ext.drewn _ _)⟩ ?_))
                    have hls := HLS.out
                    rw [← HLB.out] at hls
                    go_ret
                    refine ⟨?_, XY.out.trans (Ext.drewn _ _)⟩
                    simp [hls]
                · obtain rfl : n = i := by omega
                  have hii : ¬ (n : Int) < (n : Int) := by omega
                  by_cases hnm : n < m
                  · have hij : (n : Int) < (m : Int) := by omega
                    obtain ⟨lb, HLB⟩ : ∃ lb, Hid (true = lb) := ⟨_, hide rfl⟩
                    have HLS : Hid (Op.bytesLess P Q = lb) := hide (by
                      rw [← HP.out, ← HQ.out, ← HLB.out]
                      refine runs_more (L := L) (M := M) ?_ (by rw [HN.out, HM.out]; exact hnm)
                      rw [HN.out, ← HTK.out, List.take_of_length_le (by rw [HN.out]; exact Nat.le_refl _)])
                    go_upto_region 27 with fail
                    go_quiet (fail)
                    go_upto_region 29 with fail
                    go_quiet (fail)
                    go_wp2_with (first
                      | (refine wpList_str (by rfl) (.tmp 155) rfl P ⟨AP, cP, (by rw [HPL.out]; rfl), (by rw [HPL.out]; exact HCP.out), RPY.out.ext (Ext.drewn _ _)⟩ ?_)
                      | (refine wpList_str (by rfl) (.tmp 157) rfl Q ⟨AQ, cQ, (by rw [HQL.out]; rfl), (by rw [HQL.out]; exact HCQ.out), RQY.out.ext (Ext.drewn _ _)⟩ ?_))
                    have hls := HLS.out
                    rw [← HLB.out] at hls
                    go_ret
                    refine ⟨?_, XY.out.trans (Ext.drewn _ _)⟩
                    simp [hls]
                  · have hij : ¬ (n : Int) < (m : Int) := by omega
                    obtain ⟨lb, HLB⟩ : ∃ lb, Hid (false = lb) := ⟨_, hide rfl⟩
                    have HLS : Hid (Op.bytesLess P Q = lb) := hide (by
                      rw [← HP.out, ← HQ.out, ← HLB.out]
                      obtain rfl : n = m := by omega
                      refine runs_end (L := L) (M := M) ?_
                      rw [HM.out, HTK.out, List.take_of_length_le (by rw [HM.out]; exact Nat.le_refl _)])
                    go_upto_region 27 with fail
                    go_quiet (fail)
                    go_upto_region 29 with fail
                    go_quiet (fail)
                    go_wp2_with (first
                      | (refine wpList_str (by rfl) (.tmp 155) rfl P ⟨AP, cP, (by rw [HPL.out]; rfl), (by rw [HPL.out]; exact HCP.out), RPY.out.ext (Ext.drewn _ _)⟩ ?_)
                      | (refine wpList_str (by rfl) (.tmp 157) rfl Q ⟨AQ, cQ, (by rw [HQL.out]; rfl), (by rw [HQL.out]; exact HCQ.out), RQY.out.ext (Ext.drewn _ _)⟩ ?_))
                    have hls := HLS.out
                    rw [← HLB.out] at hls
                    go_ret
                    refine ⟨?_, XY.out.trans (Ext.drewn _ _)⟩
                    simp [hls]
theorem codecRuns_walk (A B : Option Addr) (L M : List Vl) (n m c d : Nat) (w : World) (hA : RdV w A L) (hB : RdV w B M) (hn : L.length = n) (hm : M.length = m) (hbL : ∀ x ∈ L, VlIn x) (hbM : ∀ x ∈ M, VlIn x) (hT : Tabs w) (hnl : n ≤ 4398046511104) (hml : m ≤ 4398046511104) :
    Calls Tryd.prog 9 #[.slice A n c, .slice B m d] w (RetB w true) := by
  by_cases hs : 60 < n + m
  · exact runs_great A B n m c d w hnl hml hT hs
  · exact runs_small A B L M n m c d w hA hB hn hm hbL hbM hT (by omega)
end Go.Proofs.YtpdikmcaihlbaaaDoor
