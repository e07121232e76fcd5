/-
  The document's Key and ReadKey.
  Values of many cells read within a region that draws its order.
  The document's Same, of lists that are alike.
-/
import Derived.RegionTactic
import Derived.BigQuiet
import Derived.Test.YtpdikmcaihlbaaaDoorPkCdE21
import Derived.Test.YtpdikmcaihlbaaaDoorPkCdE22
import Derived.Test.YtpdikmcaihlbaaaDoorPkCdE23
import Derived.Test.YtpdikmcaihlbaaaDoorPkCdE26
import Derived.Test.YtpdikmcaihlbaaaDoorPkCdE27
set_option linter.unusedVariables false
set_option linter.unusedSimpArgs false

namespace Go.Proofs.YtpdikmcaihlbaaaDoor
open Go.RowKit

theorem noS_le : noS.size ≤ 9223372036854775807 := by decide
theorem vlin (k n : Int) (s : ByteArray) (h0 : 0 ≤ k) (h1 : k < 256) (h2 : -9223372036854775808 ≤ n) (h3 : n < 9223372036854775808) (h4 : s.size ≤ 9223372036854775807) : VlIn (k, n, s) := ⟨⟨h0, h1⟩, ⟨h2, h3⟩, h4⟩
theorem set_below {w w1 : World} {b i : Nat} {v : Value} (h : Ext w w1) (hb : w.heap.size ≤ b) : Ext w (w1.setCell ⟨b, i, none⟩ v) := ext_set h hb
set_option maxRecDepth 20000 in
set_option maxHeartbeats 3200000 in
theorem rrk_int_no (A : Option Addr) (l : List UInt8) (n c a : Nat) (w : World) (hr : Rd w A l) (hn : l.length = n) (hnc : n ≤ c) (hl : n ≤ 140737488351232) (hT : Tabs w) (x : UInt8) (h0 : l[a]? = some x) (hk : x.toNat = 1) (h8 : n < a + 1 + 8) :
    Calls Tryd.prog 22 #[.slice A n c, .int .i64 (a : Int)] w (RkC w ((0, 0, noS), 0, 3)) := by
  have hal : a < n := by rw [← hn]; exact (List.getElem?_eq_some_iff.1 h0).1
  have hnI : (n : Int) ≤ 140737488351232 := by omega
  have haI : (a : Int) < (n : Int) := by omega
  have hb1 : ¬ (a : Int) < 0 := by omega
  have hb2 : ¬ (n : Int) < (a : Int) := by omega
  have hb3 : ((a : Int) == (n : Int)) = false := by simp; omega
  obtain ⟨b, off, hA, hc⟩ := hr (by intro h; rw [h] at h0; cases h0)
  subst hA
  have hcx := hc a x h0
  rw [show (x.toNat : Int) = 1 from by rw [hk]; rfl] at hcx
  have hrn := rdOrd_no l (a + 1) (by omega) (by omega)
  have HRD := hide hr
  have HT := hide hT
  have hcx1 := (Ext.alloc w (.cells #[.int .u8 0, .int .i64 0, .string ⟨#[]⟩] 26)).keeps.cell hcx
  clear hc hr hT hcx
  go_enter Tryd.func22, Tryd.ntmps22
  go_upto_region 8 with fail
  obtain ⟨W2, hX2, hB4, hB7, hgg⟩ : ∃ W, Ext w W ∧ Rw W w.heap.size 26 [.int .u8 0, .int .i64 0, .string ⟨#[]⟩] ∧ Rw W (w.heap.size + 1) 26 [.int .u8 1, .int .i64 0, .string ⟨#[]⟩] ∧ (w.alloc (.cells #[.int .u8 0, .int .i64 0, .string ⟨#[]⟩] 26)).alloc (.cells #[.int .u8 1, .int .i64 0, .string ⟨#[]⟩] 26) = W := by
    have e1 : (w.alloc (.cells #[.int .u8 0, .int .i64 0, .string ⟨#[]⟩] 26)).heap.size = w.heap.size + 1 := by simp
    refine ⟨_, (Ext.alloc _ _).trans (Ext.alloc _ _), (Rw.new w 26 [.int .u8 0, .int .i64 0, .string ⟨#[]⟩]).alloc _, ?_, rfl⟩
    have h := Rw.new (w.alloc (.cells #[.int .u8 0, .int .i64 0, .string ⟨#[]⟩] 26)) 26 [.int .u8 1, .int .i64 0, .string ⟨#[]⟩]
    rw [e1] at h
    exact h
  rw [hgg]
  clear hgg hcx1
  have X2 := hide hX2
  have B4 := hide hB4
  have B7 := hide hB7
  clear hX2 hB4 hB7
  have KR := hide (show Calls Tryd.prog 35 #[.slice (some ⟨b, off, none⟩) n c, .int .i64 ((a : Int) + 1)] W2 (Three .i64 (0, 0, 3) W2) from by
    have h := rreadInt_any (some ⟨b, off, none⟩) c l (((a + 1 : Nat) : Int)) W2 (HRD.out.ext X2.out) (by omega) (by omega)
    rw [hrn, hn] at h
    exact h)
  have q0 := B7.out.cell (i := 0) rfl
  have q1 := B7.out.cell (i := 1) rfl
  have q2 := B7.out.cell (i := 2) rfl
  have b1 := B7.out.frozen 1
  go_upto_region 19 with (go_at_call 35; (with_reducible refine KR.out.mono ?_); rintro e w3 ⟨rfl, rfl⟩)
  clear q0 q1 q2 b1
  have B43 := hide (B4.out.far (p := ⟨w.heap.size + 1, 1, none⟩) (by simp) (.int .i64 0))
  have X3 := hide (set_below (i := 1) (v := .int .i64 0) X2.out (Nat.le_succ w.heap.size))
  have d0 := B43.out.cell (i := 0) rfl
  have d1 := B43.out.cell (i := 1) rfl
  have d2 := B43.out.cell (i := 2) rfl
  have f0 := B43.out.frozen 0
  have f1 := B43.out.frozen 1
  have f2 := B43.out.frozen 2
  go_wp2
  have ZS := ((B43.out.set 0 (.int .u8 0)).set 1 (.int .i64 0)).set 2 (.string ⟨#[]⟩)
  have XS := ext_set3 X3.out (Nat.le_refl _) (.int .u8 0) (.int .i64 0) (.string ⟨#[]⟩)
  have y0 := ZS.cell (i := 0) rfl
  have y1 := ZS.cell (i := 1) rfl
  have y2 := ZS.cell (i := 2) rfl
  refine bodyPost_ret (v := .tuple #[.agg #[.int .u8 0, .int .i64 0, .string ⟨#[]⟩], .int .i64 0, .int .i64 3]) (by simp [results, Tryd.results22, go_sem, y0, y1, y2]; try rfl) rfl ⟨XS, rfl⟩
set_option maxRecDepth 20000 in
set_option maxHeartbeats 3200000 in
theorem rrk_int_yes (A : Option Addr) (l : List UInt8) (n c a : Nat) (w : World) (hr : Rd w A l) (hn : l.length = n) (hnc : n ≤ c) (hl : n ≤ 140737488351232) (hT : Tabs w) (x : UInt8) (h0 : l[a]? = some x) (hk : x.toNat = 1) (nn : Int) (hnn : a + 1 + 8 ≤ n ∧ numAt l (a + 1) = nn ∧ -9223372036854775808 ≤ nn ∧ nn < 9223372036854775808) :
    Calls Tryd.prog 22 #[.slice A n c, .int .i64 (a : Int)] w (RkC w (if vOk (1, nn, noS) = true then ((1, nn, noS), ((a + 1 + 8 : Nat) : Int), 0) else ((0, 0, noS), 0, 3))) := by
  have hal : a < n := by rw [← hn]; exact (List.getElem?_eq_some_iff.1 h0).1
  have hnI : (n : Int) ≤ 140737488351232 := by omega
  have haI : (a : Int) < (n : Int) := by omega
  have hb1 : ¬ (a : Int) < 0 := by omega
  have hb2 : ¬ (n : Int) < (a : Int) := by omega
  have hb3 : ((a : Int) == (n : Int)) = false := by simp; omega
  obtain ⟨b, off, hA, hc⟩ := hr (by intro h; rw [h] at h0; cases h0)
  subst hA
  have hcx := hc a x h0
  rw [show (x.toNat : Int) = 1 from by rw [hk]; rfl] at hcx
  have hrn := rdOrd_yes l (a + 1) (by omega)
  rw [hnn.2.1] at hrn
  have VIN := hide (show VlIn (1, nn, noS) from vlin _ _ _ (by decide) (by decide) hnn.2.2.1 hnn.2.2.2 noS_le)
  obtain ⟨rr, HRR⟩ : ∃ rr : Vl × Int × Int, Hid (Eq (α := Vl × Int × Int) (if vOk (1, nn, noS) = true then ((1, nn, noS), ((a + 1 + 8 : Nat) : Int), 0) else ((0, 0, noS), 0, 3)) rr) := ⟨_, hide rfl⟩
  rw [HRR.out]
  have HRD := hide hr
  have HT := hide hT
  have hcx1 := (Ext.alloc w (.cells #[.int .u8 0, .int .i64 0, .string ⟨#[]⟩] 26)).keeps.cell hcx
  clear hc hr hT hcx
  go_enter Tryd.func22, Tryd.ntmps22
  go_upto_region 8 with fail
  obtain ⟨W2, hX2, hB4, hB7, hgg⟩ : ∃ W, Ext w W ∧ Rw W w.heap.size 26 [.int .u8 0, .int .i64 0, .string ⟨#[]⟩] ∧ Rw W (w.heap.size + 1) 26 [.int .u8 1, .int .i64 0, .string ⟨#[]⟩] ∧ (w.alloc (.cells #[.int .u8 0, .int .i64 0, .string ⟨#[]⟩] 26)).alloc (.cells #[.int .u8 1, .int .i64 0, .string ⟨#[]⟩] 26) = W := by
    have e1 : (w.alloc (.cells #[.int .u8 0, .int .i64 0, .string ⟨#[]⟩] 26)).heap.size = w.heap.size + 1 := by simp
    refine ⟨_, (Ext.alloc _ _).trans (Ext.alloc _ _), (Rw.new w 26 [.int .u8 0, .int .i64 0, .string ⟨#[]⟩]).alloc _, ?_, rfl⟩
    have h := Rw.new (w.alloc (.cells #[.int .u8 0, .int .i64 0, .string ⟨#[]⟩] 26)) 26 [.int .u8 1, .int .i64 0, .string ⟨#[]⟩]
    rw [e1] at h
    exact h
  rw [hgg]
  clear hgg hcx1
  have X2 := hide hX2
  have B4 := hide hB4
  have B7 := hide hB7
  clear hX2 hB4 hB7
  have KR := hide (show Calls Tryd.prog 35 #[.slice (some ⟨b, off, none⟩) n c, .int .i64 ((a : Int) + 1)] W2 (Three .i64 (nn, ((a + 1 + 8 : Nat) : Int), 0) W2) from by
    have h := rreadInt_any (some ⟨b, off, none⟩) c l (((a + 1 : Nat) : Int)) W2 (HRD.out.ext X2.out) (by omega) (by omega)
    rw [hrn, hn] at h
    exact h)
  have q0 := B7.out.cell (i := 0) rfl
  have q1 := B7.out.cell (i := 1) rfl
  have q2 := B7.out.cell (i := 2) rfl
  have b1 := B7.out.frozen 1
  obtain ⟨kk, HKK⟩ : ∃ kk : Nat, Hid (a + 1 + 8 = kk) := ⟨_, hide rfl⟩
  rw [HKK.out] at KR HRR
  clear hnn
  go_upto_region 18 with (go_at_call 35; (with_reducible refine KR.out.mono ?_); rintro e w3 ⟨rfl, rfl⟩)
  clear q0 q1 q2 b1
  obtain ⟨W3, hX3, hB43, hB73, hgg⟩ : ∃ W, Ext w W ∧ Rw W w.heap.size 26 [.int .u8 0, .int .i64 0, .string ⟨#[]⟩] ∧ Rw W (w.heap.size + 1) 26 [.int .u8 1, .int .i64 nn, .string ⟨#[]⟩] ∧ W2.setCell ⟨w.heap.size + 1, 1, none⟩ (.int .i64 nn) = W := ⟨_, set_below X2.out (Nat.le_succ w.heap.size), B4.out.far (p := ⟨w.heap.size + 1, 1, none⟩) (by simp) (.int .i64 nn), B7.out.set 1 (.int .i64 nn), rfl⟩
  rw [hgg]
  clear hgg
  have X3 := hide hX3
  have B43 := hide hB43
  have B73 := hide hB73
  clear hX3 hB43 hB73
  obtain ⟨vb, HVB⟩ : ∃ vb, Hid (vOk (1, nn, noS) = vb) := ⟨_, hide rfl⟩
  have KF := hide (rform_any (1, nn, noS) W3 VIN.out (HT.out.ext X3.out))
  rw [HVB.out] at KF
  unfold noS at KF
  have q0 := B73.out.cell (i := 0) rfl
  have q1 := B73.out.cell (i := 1) rfl
  have q2 := B73.out.cell (i := 2) rfl
  cases vb with
  | false =>
    obtain rfl : rr = ((0, 0, noS), 0, 3) := by rw [← HRR.out, if_neg (by rw [HVB.out]; decide)]
    go_upto_region 19 with (go_at_call 13; (with_reducible refine KF.out.mono ?_); rintro e w4 ⟨rfl, hx4⟩; have X4 := hide (X3.out.trans hx4); have B44 := hide (B43.out.ext hx4))
    have d0 := B44.out.cell (i := 0) rfl
    have d1 := B44.out.cell (i := 1) rfl
    have d2 := B44.out.cell (i := 2) rfl
    have f0 := B44.out.frozen 0
    have f1 := B44.out.frozen 1
    have f2 := B44.out.frozen 2
    go_wp2
    have ZS := ((B44.out.set 0 (.int .u8 0)).set 1 (.int .i64 0)).set 2 (.string ⟨#[]⟩)
    have XS := ext_set3 X4.out (Nat.le_refl _) (.int .u8 0) (.int .i64 0) (.string ⟨#[]⟩)
    have y0 := ZS.cell (i := 0) rfl
    have y1 := ZS.cell (i := 1) rfl
    have y2 := ZS.cell (i := 2) rfl
    refine bodyPost_ret (v := .tuple #[.agg #[.int .u8 0, .int .i64 0, .string ⟨#[]⟩], .int .i64 0, .int .i64 3]) (by simp [results, Tryd.results22, go_sem, y0, y1, y2]; try rfl) rfl ⟨XS, rfl⟩
  | true =>
    obtain rfl : rr = ((1, nn, noS), (kk : Int), 0) := by rw [← HRR.out, if_pos HVB.out]
    go_upto_region 20 with (go_at_call 13; (with_reducible refine KF.out.mono ?_); rintro e w4 ⟨rfl, hx4⟩; have X4 := hide (X3.out.trans hx4); have B44 := hide (B43.out.ext hx4); have B74 := hide (B73.out.ext hx4))
    clear q0 q1 q2
    have d0 := B44.out.cell (i := 0) rfl
    have d1 := B44.out.cell (i := 1) rfl
    have d2 := B44.out.cell (i := 2) rfl
    have f0 := B44.out.frozen 0
    have f1 := B44.out.frozen 1
    have f2 := B44.out.frozen 2
    have q0 := B74.out.cell (i := 0) rfl
    have q1 := B74.out.cell (i := 1) rfl
    have q2 := B74.out.cell (i := 2) rfl
    go_wp2
    have ZS := ((B44.out.set 0 (.int .u8 1)).set 1 (.int .i64 nn)).set 2 (.string ⟨#[]⟩)
    have XS := ext_set3 X4.out (Nat.le_refl _) (.int .u8 1) (.int .i64 nn) (.string ⟨#[]⟩)
    have y0 := ZS.cell (i := 0) rfl
    have y1 := ZS.cell (i := 1) rfl
    have y2 := ZS.cell (i := 2) rfl
    refine bodyPost_ret (v := .tuple #[.agg #[.int .u8 1, .int .i64 nn, .string ⟨#[]⟩], .int .i64 (kk : Int), .int .i64 0]) (by simp [results, Tryd.results22, go_sem, y0, y1, y2]; try rfl) rfl ⟨XS, rfl⟩
set_option maxRecDepth 20000 in
set_option maxHeartbeats 3200000 in
theorem rrk_txt_no (A : Option Addr) (l : List UInt8) (n c a : Nat) (w : World) (hr : Rd w A l) (hn : l.length = n) (hnc : n ≤ c) (hl : n ≤ 140737488351232) (hT : Tabs w) (x : UInt8) (h0 : l[a]? = some x) (hk : x.toNat = 2) (hp : parse (l.drop (a + 1)) = none) :
    Calls Tryd.prog 22 #[.slice A n c, .int .i64 (a : Int)] w (RkC w ((0, 0, noS), 0, 3)) := by
  have hal : a < n := by rw [← hn]; exact (List.getElem?_eq_some_iff.1 h0).1
  have hnI : (n : Int) ≤ 140737488351232 := by omega
  have haI : (a : Int) < (n : Int) := by omega
  have hb1 : ¬ (a : Int) < 0 := by omega
  have hb2 : ¬ (n : Int) < (a : Int) := by omega
  have hb3 : ((a : Int) == (n : Int)) = false := by simp; omega
  obtain ⟨b, off, hA, hc⟩ := hr (by intro h; rw [h] at h0; cases h0)
  subst hA
  have hcx := hc a x h0
  rw [show (x.toNat : Int) = 2 from by rw [hk]; rfl] at hcx
  have hrn := rdTxt_none l (a + 1) (by omega) hp
  have HRD := hide hr
  have HT := hide hT
  have hcx1 := (Ext.alloc w (.cells #[.int .u8 0, .int .i64 0, .string ⟨#[]⟩] 26)).keeps.cell hcx
  clear hc hr hT hcx
  go_enter Tryd.func22, Tryd.ntmps22
  go_upto_region 8 with fail
  obtain ⟨W2, hX2, hB4, hB7, hgg⟩ : ∃ W, Ext w W ∧ Rw W w.heap.size 26 [.int .u8 0, .int .i64 0, .string ⟨#[]⟩] ∧ Rw W (w.heap.size + 1) 26 [.int .u8 2, .int .i64 0, .string ⟨#[]⟩] ∧ (w.alloc (.cells #[.int .u8 0, .int .i64 0, .string ⟨#[]⟩] 26)).alloc (.cells #[.int .u8 2, .int .i64 0, .string ⟨#[]⟩] 26) = W := by
    have e1 : (w.alloc (.cells #[.int .u8 0, .int .i64 0, .string ⟨#[]⟩] 26)).heap.size = w.heap.size + 1 := by simp
    refine ⟨_, (Ext.alloc _ _).trans (Ext.alloc _ _), (Rw.new w 26 [.int .u8 0, .int .i64 0, .string ⟨#[]⟩]).alloc _, ?_, rfl⟩
    have h := Rw.new (w.alloc (.cells #[.int .u8 0, .int .i64 0, .string ⟨#[]⟩] 26)) 26 [.int .u8 2, .int .i64 0, .string ⟨#[]⟩]
    rw [e1] at h
    exact h
  rw [hgg]
  clear hgg hcx1
  have X2 := hide hX2
  have B4 := hide hB4
  have B7 := hide hB7
  clear hX2 hB4 hB7
  have KR := hide (show Calls Tryd.prog 41 #[.slice (some ⟨b, off, none⟩) n c, .int .i64 ((a : Int) + 1)] W2 (Ret W2 (Is (.tuple #[.string ⟨#[]⟩, .int .i64 0, .int .i64 3]))) from by
    have h := rreadText_any (some ⟨b, off, none⟩) c l (((a + 1 : Nat) : Int)) W2 (HRD.out.ext X2.out) (by omega) (by omega)
    rw [hrn, hn] at h
    exact h)
  have q0 := B7.out.cell (i := 0) rfl
  have q1 := B7.out.cell (i := 1) rfl
  have q2 := B7.out.cell (i := 2) rfl
  have b1 := B7.out.frozen 2
  go_upto_region 18 with (go_at_call 41; (with_reducible refine KR.out.mono ?_); rintro e w3 ⟨v3, rfl, hx3, rfl⟩; have Y3 := hide (X2.out.trans hx3); have B4a := hide (B4.out.ext hx3); have B7a := hide (B7.out.ext hx3); have b1 := B7a.out.frozen 2; have q2 := B7a.out.cell (i := 2) rfl; have q0 := B7a.out.cell (i := 0) rfl)
  clear q0 q1 q2 b1
  obtain ⟨W3, hX3, hB43, hB73, hgg⟩ : ∃ W, Ext w W ∧ Rw W w.heap.size 26 [.int .u8 0, .int .i64 0, .string ⟨#[]⟩] ∧ Rw W (w.heap.size + 1) 26 [.int .u8 2, .int .i64 0, .string ⟨#[]⟩] ∧ w3.setCell ⟨w.heap.size + 1, 2, none⟩ (.string ⟨#[]⟩) = W := ⟨_, set_below Y3.out (Nat.le_succ w.heap.size), B4a.out.far (p := ⟨w.heap.size + 1, 2, none⟩) (by simp) (.string ⟨#[]⟩), B7a.out.set 2 (.string ⟨#[]⟩), rfl⟩
  rw [hgg]
  clear hgg
  have X3 := hide hX3
  have B43 := hide hB43
  have B73 := hide hB73
  clear hX3 hB43 hB73
  have d0 := B43.out.cell (i := 0) rfl
  have d1 := B43.out.cell (i := 1) rfl
  have d2 := B43.out.cell (i := 2) rfl
  have f0 := B43.out.frozen 0
  have f1 := B43.out.frozen 1
  have f2 := B43.out.frozen 2
  go_wp2
  have ZS := ((B43.out.set 0 (.int .u8 0)).set 1 (.int .i64 0)).set 2 (.string ⟨#[]⟩)
  have XS := ext_set3 X3.out (Nat.le_refl _) (.int .u8 0) (.int .i64 0) (.string ⟨#[]⟩)
  have y0 := ZS.cell (i := 0) rfl
  have y1 := ZS.cell (i := 1) rfl
  have y2 := ZS.cell (i := 2) rfl
  refine bodyPost_ret (v := .tuple #[.agg #[.int .u8 0, .int .i64 0, .string ⟨#[]⟩], .int .i64 0, .int .i64 3]) (by simp [results, Tryd.results22, go_sem, y0, y1, y2]; try rfl) rfl ⟨XS, rfl⟩
set_option maxRecDepth 20000 in
set_option maxHeartbeats 3200000 in
theorem rrk_txt_yes (A : Option Addr) (l : List UInt8) (n c a : Nat) (w : World) (hr : Rd w A l) (hn : l.length = n) (hnc : n ≤ c) (hl : n ≤ 140737488351232) (hT : Tabs w) (x : UInt8) (h0 : l[a]? = some x) (hk : x.toNat = 2) (tx : List UInt8) (m : Nat) (hp : parse (l.drop (a + 1)) = some (tx, m)) :
    Calls Tryd.prog 22 #[.slice A n c, .int .i64 (a : Int)] w (RkC w (if vOk (2, 0, ⟨tx.toArray⟩) = true then ((2, 0, ⟨tx.toArray⟩), ((a + 1 + m : Nat) : Int), 0) else ((0, 0, noS), 0, 3))) := by
  have hal : a < n := by rw [← hn]; exact (List.getElem?_eq_some_iff.1 h0).1
  have hnI : (n : Int) ≤ 140737488351232 := by omega
  have haI : (a : Int) < (n : Int) := by omega
  have hb1 : ¬ (a : Int) < 0 := by omega
  have hb2 : ¬ (n : Int) < (a : Int) := by omega
  have hb3 : ((a : Int) == (n : Int)) = false := by simp; omega
  obtain ⟨b, off, hA, hc⟩ := hr (by intro h; rw [h] at h0; cases h0)
  subst hA
  have hcx := hc a x h0
  rw [show (x.toNat : Int) = 2 from by rw [hk]; rfl] at hcx
  have hrn := rdTxt_some l (a + 1) (by omega) tx m hp
  have hml := parse_len _ _ _ hp
  rw [List.length_drop] at hml
  have VIN := hide (show VlIn (2, 0, ⟨tx.toArray⟩) from vlin _ _ _ (by decide) (by decide) (by decide) (by decide) (by show tx.toArray.size ≤ _; rw [List.size_toArray]; omega))
  obtain ⟨rr, HRR⟩ : ∃ rr : Vl × Int × Int, Hid (Eq (α := Vl × Int × Int) (if vOk (2, 0, ⟨tx.toArray⟩) = true then ((2, 0, ⟨tx.toArray⟩), ((a + 1 + m : Nat) : Int), 0) else ((0, 0, noS), 0, 3)) rr) := ⟨_, hide rfl⟩
  rw [HRR.out]
  have HRD := hide hr
  have HT := hide hT
  have hcx1 := (Ext.alloc w (.cells #[.int .u8 0, .int .i64 0, .string ⟨#[]⟩] 26)).keeps.cell hcx
  clear hc hr hT hcx
  go_enter Tryd.func22, Tryd.ntmps22
  go_upto_region 8 with fail
  obtain ⟨W2, hX2, hB4, hB7, hgg⟩ : ∃ W, Ext w W ∧ Rw W w.heap.size 26 [.int .u8 0, .int .i64 0, .string ⟨#[]⟩] ∧ Rw W (w.heap.size + 1) 26 [.int .u8 2, .int .i64 0, .string ⟨#[]⟩] ∧ (w.alloc (.cells #[.int .u8 0, .int .i64 0, .string ⟨#[]⟩] 26)).alloc (.cells #[.int .u8 2, .int .i64 0, .string ⟨#[]⟩] 26) = W := by
    have e1 : (w.alloc (.cells #[.int .u8 0, .int .i64 0, .string ⟨#[]⟩] 26)).heap.size = w.heap.size + 1 := by simp
    refine ⟨_, (Ext.alloc _ _).trans (Ext.alloc _ _), (Rw.new w 26 [.int .u8 0, .int .i64 0, .string ⟨#[]⟩]).alloc _, ?_, rfl⟩
    have h := Rw.new (w.alloc (.cells #[.int .u8 0, .int .i64 0, .string ⟨#[]⟩] 26)) 26 [.int .u8 2, .int .i64 0, .string ⟨#[]⟩]
    rw [e1] at h
    exact h
  rw [hgg]
  clear hgg hcx1
  have X2 := hide hX2
  have B4 := hide hB4
  have B7 := hide hB7
  clear hX2 hB4 hB7
  have KR := hide (show Calls Tryd.prog 41 #[.slice (some ⟨b, off, none⟩) n c, .int .i64 ((a : Int) + 1)] W2 (Ret W2 (Is (.tuple #[.string ⟨tx.toArray⟩, .int .i64 ((a + 1 + m : Nat) : Int), .int .i64 0]))) from by
    have h := rreadText_any (some ⟨b, off, none⟩) c l (((a + 1 : Nat) : Int)) W2 (HRD.out.ext X2.out) (by omega) (by omega)
    rw [hrn, hn] at h
    exact h)
  have q0 := B7.out.cell (i := 0) rfl
  have q1 := B7.out.cell (i := 1) rfl
  have q2 := B7.out.cell (i := 2) rfl
  have b1 := B7.out.frozen 2
  obtain ⟨kk, HKK⟩ : ∃ kk : Nat, Hid (a + 1 + m = kk) := ⟨_, hide rfl⟩
  rw [HKK.out] at KR HRR
  clear hml hp hrn
  go_upto_region 18 with (go_at_call 41; (with_reducible refine KR.out.mono ?_); rintro e w3 ⟨v3, rfl, hx3, rfl⟩; have Y3 := hide (X2.out.trans hx3); have B4a := hide (B4.out.ext hx3); have B7a := hide (B7.out.ext hx3); have b1 := B7a.out.frozen 2; have q2 := B7a.out.cell (i := 2) rfl; have q0 := B7a.out.cell (i := 0) rfl)
  clear q0 q1 q2 b1
  obtain ⟨W3, hX3, hB43, hB73, hgg⟩ : ∃ W, Ext w W ∧ Rw W w.heap.size 26 [.int .u8 0, .int .i64 0, .string ⟨#[]⟩] ∧ Rw W (w.heap.size + 1) 26 [.int .u8 2, .int .i64 0, .string ⟨tx.toArray⟩] ∧ w3.setCell ⟨w.heap.size + 1, 2, none⟩ (.string ⟨tx.toArray⟩) = W := ⟨_, set_below Y3.out (Nat.le_succ w.heap.size), B4a.out.far (p := ⟨w.heap.size + 1, 2, none⟩) (by simp) (.string ⟨tx.toArray⟩), B7a.out.set 2 (.string ⟨tx.toArray⟩), rfl⟩
  rw [hgg]
  clear hgg
  have X3 := hide hX3
  have B43 := hide hB43
  have B73 := hide hB73
  clear hX3 hB43 hB73
  obtain ⟨vb, HVB⟩ : ∃ vb, Hid (vOk (2, 0, ⟨tx.toArray⟩) = vb) := ⟨_, hide rfl⟩
  have KF := hide (rform_any (2, 0, ⟨tx.toArray⟩) W3 VIN.out (HT.out.ext X3.out))
  rw [HVB.out] at KF
  have q0 := B73.out.cell (i := 0) rfl
  have q1 := B73.out.cell (i := 1) rfl
  have q2 := B73.out.cell (i := 2) rfl
  cases vb with
  | false =>
    obtain rfl : rr = ((0, 0, noS), 0, 3) := by rw [← HRR.out, if_neg (by rw [HVB.out]; decide)]
    go_upto_region 19 with (go_at_call 13; (with_reducible refine KF.out.mono ?_); rintro e w4 ⟨rfl, hx4⟩; have X4 := hide (X3.out.trans hx4); have B44 := hide (B43.out.ext hx4))
    have d0 := B44.out.cell (i := 0) rfl
    have d1 := B44.out.cell (i := 1) rfl
    have d2 := B44.out.cell (i := 2) rfl
    have f0 := B44.out.frozen 0
    have f1 := B44.out.frozen 1
    have f2 := B44.out.frozen 2
    go_wp2
    have ZS := ((B44.out.set 0 (.int .u8 0)).set 1 (.int .i64 0)).set 2 (.string ⟨#[]⟩)
    have XS := ext_set3 X4.out (Nat.le_refl _) (.int .u8 0) (.int .i64 0) (.string ⟨#[]⟩)
    have y0 := ZS.cell (i := 0) rfl
    have y1 := ZS.cell (i := 1) rfl
    have y2 := ZS.cell (i := 2) rfl
    refine bodyPost_ret (v := .tuple #[.agg #[.int .u8 0, .int .i64 0, .string ⟨#[]⟩], .int .i64 0, .int .i64 3]) (by simp [results, Tryd.results22, go_sem, y0, y1, y2]; try rfl) rfl ⟨XS, rfl⟩
  | true =>
    obtain rfl : rr = ((2, 0, ⟨tx.toArray⟩), (kk : Int), 0) := by rw [← HRR.out, if_pos HVB.out]
    go_upto_region 20 with (go_at_call 13; (with_reducible refine KF.out.mono ?_); rintro e w4 ⟨rfl, hx4⟩; have X4 := hide (X3.out.trans hx4); have B44 := hide (B43.out.ext hx4); have B74 := hide (B73.out.ext hx4))
    clear q0 q1 q2
    have d0 := B44.out.cell (i := 0) rfl
    have d1 := B44.out.cell (i := 1) rfl
    have d2 := B44.out.cell (i := 2) rfl
    have f0 := B44.out.frozen 0
    have f1 := B44.out.frozen 1
    have f2 := B44.out.frozen 2
    have q0 := B74.out.cell (i := 0) rfl
    have q1 := B74.out.cell (i := 1) rfl
    have q2 := B74.out.cell (i := 2) rfl
    go_wp2
    have ZS := ((B44.out.set 0 (.int .u8 2)).set 1 (.int .i64 0)).set 2 (.string ⟨tx.toArray⟩)
    have XS := ext_set3 X4.out (Nat.le_refl _) (.int .u8 2) (.int .i64 0) (.string ⟨tx.toArray⟩)
    have y0 := ZS.cell (i := 0) rfl
    have y1 := ZS.cell (i := 1) rfl
    have y2 := ZS.cell (i := 2) rfl
    refine bodyPost_ret (v := .tuple #[.agg #[.int .u8 2, .int .i64 0, .string ⟨tx.toArray⟩], .int .i64 (kk : Int), .int .i64 0]) (by simp [results, Tryd.results22, go_sem, y0, y1, y2]; try rfl) rfl ⟨XS, rfl⟩
set_option maxRecDepth 20000 in
set_option maxHeartbeats 3200000 in
theorem rrk_bool_no (A : Option Addr) (l : List UInt8) (n c a : Nat) (w : World) (hr : Rd w A l) (hn : l.length = n) (hnc : n ≤ c) (hl : n ≤ 140737488351232) (hT : Tabs w) (x : UInt8) (h0 : l[a]? = some x) (hk : x.toNat = 3) (hy : l[a + 1]? = none) :
    Calls Tryd.prog 22 #[.slice A n c, .int .i64 (a : Int)] w (RkC w ((0, 0, noS), 0, 3)) := by
  have hal : a < n := by rw [← hn]; exact (List.getElem?_eq_some_iff.1 h0).1
  have hnI : (n : Int) ≤ 140737488351232 := by omega
  have haI : (a : Int) < (n : Int) := by omega
  have hb1 : ¬ (a : Int) < 0 := by omega
  have hb2 : ¬ (n : Int) < (a : Int) := by omega
  have hb3 : ((a : Int) == (n : Int)) = false := by simp; omega
  obtain ⟨b, off, hA, hc⟩ := hr (by intro h; rw [h] at h0; cases h0)
  subst hA
  have hcx := hc a x h0
  rw [show (x.toNat : Int) = 3 from by rw [hk]; rfl] at hcx
  have hge : (n : Int) ≤ (a : Int) + 1 := by have h := List.getElem?_eq_none_iff.1 hy; omega
  have HRD := hide hr
  have HT := hide hT
  have hcx1 := (Ext.alloc w (.cells #[.int .u8 0, .int .i64 0, .string ⟨#[]⟩] 26)).keeps.cell hcx
  clear hc hr hT hcx
  go_enter Tryd.func22, Tryd.ntmps22
  go_upto_region 8 with fail
  obtain ⟨W2, hX2, hB4, hB7, hgg⟩ : ∃ W, Ext w W ∧ Rw W w.heap.size 26 [.int .u8 0, .int .i64 0, .string ⟨#[]⟩] ∧ Rw W (w.heap.size + 1) 26 [.int .u8 3, .int .i64 0, .string ⟨#[]⟩] ∧ (w.alloc (.cells #[.int .u8 0, .int .i64 0, .string ⟨#[]⟩] 26)).alloc (.cells #[.int .u8 3, .int .i64 0, .string ⟨#[]⟩] 26) = W := by
    have e1 : (w.alloc (.cells #[.int .u8 0, .int .i64 0, .string ⟨#[]⟩] 26)).heap.size = w.heap.size + 1 := by simp
    refine ⟨_, (Ext.alloc _ _).trans (Ext.alloc _ _), (Rw.new w 26 [.int .u8 0, .int .i64 0, .string ⟨#[]⟩]).alloc _, ?_, rfl⟩
    have h := Rw.new (w.alloc (.cells #[.int .u8 0, .int .i64 0, .string ⟨#[]⟩] 26)) 26 [.int .u8 3, .int .i64 0, .string ⟨#[]⟩]
    rw [e1] at h
    exact h
  rw [hgg]
  clear hgg hcx1
  have X2 := hide hX2
  have B4 := hide hB4
  have B7 := hide hB7
  clear hX2 hB4 hB7
  have q0 := B7.out.cell (i := 0) rfl
  have q1 := B7.out.cell (i := 1) rfl
  have q2 := B7.out.cell (i := 2) rfl
  go_upto_region 15 with fail
  have d0 := B4.out.cell (i := 0) rfl
  have d1 := B4.out.cell (i := 1) rfl
  have d2 := B4.out.cell (i := 2) rfl
  have f0 := B4.out.frozen 0
  have f1 := B4.out.frozen 1
  have f2 := B4.out.frozen 2
  go_wp2
  have ZS := ((B4.out.set 0 (.int .u8 0)).set 1 (.int .i64 0)).set 2 (.string ⟨#[]⟩)
  have XS := ext_set3 X2.out (Nat.le_refl _) (.int .u8 0) (.int .i64 0) (.string ⟨#[]⟩)
  have y0 := ZS.cell (i := 0) rfl
  have y1 := ZS.cell (i := 1) rfl
  have y2 := ZS.cell (i := 2) rfl
  refine bodyPost_ret (v := .tuple #[.agg #[.int .u8 0, .int .i64 0, .string ⟨#[]⟩], .int .i64 0, .int .i64 3]) (by simp [results, Tryd.results22, go_sem, y0, y1, y2]; try rfl) rfl ⟨XS, rfl⟩
set_option maxRecDepth 20000 in
set_option maxHeartbeats 3200000 in
theorem rrk_bool_yes (A : Option Addr) (l : List UInt8) (n c a : Nat) (w : World) (hr : Rd w A l) (hn : l.length = n) (hnc : n ≤ c) (hl : n ≤ 140737488351232) (hT : Tabs w) (x : UInt8) (h0 : l[a]? = some x) (hk : x.toNat = 3) (y : UInt8) (yn : Nat) (hy : l[a + 1]? = some y) (hyn : y.toNat = yn) :
    Calls Tryd.prog 22 #[.slice A n c, .int .i64 (a : Int)] w (RkC w (if vOk (3, (yn : Int), noS) = true then ((3, (yn : Int), noS), ((a + 1 + 1 : Nat) : Int), 0) else ((0, 0, noS), 0, 3))) := by
  have hal : a < n := by rw [← hn]; exact (List.getElem?_eq_some_iff.1 h0).1
  have hnI : (n : Int) ≤ 140737488351232 := by omega
  have haI : (a : Int) < (n : Int) := by omega
  have hb1 : ¬ (a : Int) < 0 := by omega
  have hb2 : ¬ (n : Int) < (a : Int) := by omega
  have hb3 : ((a : Int) == (n : Int)) = false := by simp; omega
  obtain ⟨b, off, hA, hc⟩ := hr (by intro h; rw [h] at h0; cases h0)
  subst hA
  have hcx := hc a x h0
  rw [show (x.toNat : Int) = 3 from by rw [hk]; rfl] at hcx
  have hge : ¬ (n : Int) ≤ (a : Int) + 1 := by have h := (List.getElem?_eq_some_iff.1 hy).1; omega
  have hge2 : (a : Int) + 1 < (n : Int) := by omega
  have hcy := hc (a + 1) y hy
  rw [hyn, ← Nat.add_assoc] at hcy
  have hyl : (yn : Int) < 256 := by have := y.toNat_lt; omega
  have hwy : IntKind.i64.wrap (yn : Int) = (yn : Int) := by rw [IntKind.wrap_i64]; omega
  have VIN := hide (show VlIn (3, (yn : Int), noS) from vlin _ _ _ (by decide) (by decide) (by omega) (by omega) noS_le)
  obtain ⟨rr, HRR⟩ : ∃ rr : Vl × Int × Int, Hid (Eq (α := Vl × Int × Int) (if vOk (3, (yn : Int), noS) = true then ((3, (yn : Int), noS), ((a + 1 + 1 : Nat) : Int), 0) else ((0, 0, noS), 0, 3)) rr) := ⟨_, hide rfl⟩
  rw [HRR.out]
  have HRD := hide hr
  have HT := hide hT
  have hcx1 := (Ext.alloc w (.cells #[.int .u8 0, .int .i64 0, .string ⟨#[]⟩] 26)).keeps.cell hcx
  clear hc hr hT hcx
  go_enter Tryd.func22, Tryd.ntmps22
  go_upto_region 8 with fail
  obtain ⟨W2, hX2, hB4, hB7, hgg⟩ : ∃ W, Ext w W ∧ Rw W w.heap.size 26 [.int .u8 0, .int .i64 0, .string ⟨#[]⟩] ∧ Rw W (w.heap.size + 1) 26 [.int .u8 3, .int .i64 0, .string ⟨#[]⟩] ∧ (w.alloc (.cells #[.int .u8 0, .int .i64 0, .string ⟨#[]⟩] 26)).alloc (.cells #[.int .u8 3, .int .i64 0, .string ⟨#[]⟩] 26) = W := by
    have e1 : (w.alloc (.cells #[.int .u8 0, .int .i64 0, .string ⟨#[]⟩] 26)).heap.size = w.heap.size + 1 := by simp
    refine ⟨_, (Ext.alloc _ _).trans (Ext.alloc _ _), (Rw.new w 26 [.int .u8 0, .int .i64 0, .string ⟨#[]⟩]).alloc _, ?_, rfl⟩
    have h := Rw.new (w.alloc (.cells #[.int .u8 0, .int .i64 0, .string ⟨#[]⟩] 26)) 26 [.int .u8 3, .int .i64 0, .string ⟨#[]⟩]
    rw [e1] at h
    exact h
  rw [hgg]
  clear hgg hcx1
  have X2 := hide hX2
  have B4 := hide hB4
  have B7 := hide hB7
  clear hX2 hB4 hB7
  have q0 := B7.out.cell (i := 0) rfl
  have q1 := B7.out.cell (i := 1) rfl
  have q2 := B7.out.cell (i := 2) rfl
  have b1 := B7.out.frozen 1
  have hcy2 := X2.out.keeps.cell hcy
  have hcy3 := hcy2
  rw [Nat.add_assoc] at hcy3
  clear hcy hy
  go_upto_region 17 with fail
  clear q0 q1 q2 b1
  obtain ⟨W3, hX3, hB43, hB73, hgg⟩ : ∃ W, Ext w W ∧ Rw W w.heap.size 26 [.int .u8 0, .int .i64 0, .string ⟨#[]⟩] ∧ Rw W (w.heap.size + 1) 26 [.int .u8 3, .int .i64 (yn : Int), .string ⟨#[]⟩] ∧ W2.setCell ⟨w.heap.size + 1, 1, none⟩ (.int .i64 (yn : Int)) = W := ⟨_, set_below X2.out (Nat.le_succ w.heap.size), B4.out.far (p := ⟨w.heap.size + 1, 1, none⟩) (by simp) (.int .i64 (yn : Int)), B7.out.set 1 (.int .i64 (yn : Int)), rfl⟩
  rw [hgg]
  clear hgg
  have X3 := hide hX3
  have B43 := hide hB43
  have B73 := hide hB73
  clear hX3 hB43 hB73
  go_upto_region 18 with fail
  obtain ⟨kk, HKK⟩ : ∃ kk : Int, Hid (((a + 1 + 1 : Nat) : Int) = kk) := ⟨_, hide rfl⟩
  have hkk : (a : Int) + 2 = kk := by have := HKK.out; omega
  rw [HKK.out] at HRR
  rw [hkk]
  obtain ⟨vb, HVB⟩ : ∃ vb, Hid (vOk (3, (yn : Int), noS) = vb) := ⟨_, hide rfl⟩
  have KF := hide (rform_any (3, (yn : Int), noS) W3 VIN.out (HT.out.ext X3.out))
  rw [HVB.out] at KF
  unfold noS at KF
  have q0 := B73.out.cell (i := 0) rfl
  have q1 := B73.out.cell (i := 1) rfl
  have q2 := B73.out.cell (i := 2) rfl
  cases vb with
  | false =>
    obtain rfl : rr = ((0, 0, noS), 0, 3) := by rw [← HRR.out, if_neg (by rw [HVB.out]; decide)]
    go_upto_region 19 with (go_at_call 13; (with_reducible refine KF.out.mono ?_); rintro e w4 ⟨rfl, hx4⟩; have X4 := hide (X3.out.trans hx4); have B44 := hide (B43.out.ext hx4))
    have d0 := B44.out.cell (i := 0) rfl
    have d1 := B44.out.cell (i := 1) rfl
    have d2 := B44.out.cell (i := 2) rfl
    have f0 := B44.out.frozen 0
    have f1 := B44.out.frozen 1
    have f2 := B44.out.frozen 2
    go_wp2
    have ZS := ((B44.out.set 0 (.int .u8 0)).set 1 (.int .i64 0)).set 2 (.string ⟨#[]⟩)
    have XS := ext_set3 X4.out (Nat.le_refl _) (.int .u8 0) (.int .i64 0) (.string ⟨#[]⟩)
    have y0 := ZS.cell (i := 0) rfl
    have y1 := ZS.cell (i := 1) rfl
    have y2 := ZS.cell (i := 2) rfl
    refine bodyPost_ret (v := .tuple #[.agg #[.int .u8 0, .int .i64 0, .string ⟨#[]⟩], .int .i64 0, .int .i64 3]) (by simp [results, Tryd.results22, go_sem, y0, y1, y2]; try rfl) rfl ⟨XS, rfl⟩
  | true =>
    obtain rfl : rr = ((3, (yn : Int), noS), kk, 0) := by rw [← HRR.out, if_pos HVB.out]
    go_upto_region 20 with (go_at_call 13; (with_reducible refine KF.out.mono ?_); rintro e w4 ⟨rfl, hx4⟩; have X4 := hide (X3.out.trans hx4); have B44 := hide (B43.out.ext hx4); have B74 := hide (B73.out.ext hx4))
    clear q0 q1 q2
    have d0 := B44.out.cell (i := 0) rfl
    have d1 := B44.out.cell (i := 1) rfl
    have d2 := B44.out.cell (i := 2) rfl
    have f0 := B44.out.frozen 0
    have f1 := B44.out.frozen 1
    have f2 := B44.out.frozen 2
    have q0 := B74.out.cell (i := 0) rfl
    have q1 := B74.out.cell (i := 1) rfl
    have q2 := B74.out.cell (i := 2) rfl
    go_wp2
    have ZS := ((B44.out.set 0 (.int .u8 3)).set 1 (.int .i64 (yn : Int))).set 2 (.string ⟨#[]⟩)
    have XS := ext_set3 X4.out (Nat.le_refl _) (.int .u8 3) (.int .i64 (yn : Int)) (.string ⟨#[]⟩)
    have y0 := ZS.cell (i := 0) rfl
    have y1 := ZS.cell (i := 1) rfl
    have y2 := ZS.cell (i := 2) rfl
    refine bodyPost_ret (v := .tuple #[.agg #[.int .u8 3, .int .i64 (yn : Int), .string ⟨#[]⟩], .int .i64 kk, .int .i64 0]) (by simp [results, Tryd.results22, go_sem, y0, y1, y2]; try rfl) rfl ⟨XS, rfl⟩
set_option maxRecDepth 20000 in
set_option maxHeartbeats 3200000 in
theorem rrk_else (A : Option Addr) (l : List UInt8) (n c a : Nat) (w : World) (hr : Rd w A l) (hn : l.length = n) (hnc : n ≤ c) (hl : n ≤ 140737488351232) (hT : Tabs w) (x : UInt8) (h0 : l[a]? = some x) (k : Nat) (hk : x.toNat = k) (h1 : k ≠ 1) (h2 : k ≠ 2) (h3 : k ≠ 3)  :
    Calls Tryd.prog 22 #[.slice A n c, .int .i64 (a : Int)] w (RkC w (if vOk ((k : Int), 0, noS) = true then (((k : Int), 0, noS), ((a + 1 : Nat) : Int), 0) else ((0, 0, noS), 0, 3))) := by
  have hal : a < n := by rw [← hn]; exact (List.getElem?_eq_some_iff.1 h0).1
  have hnI : (n : Int) ≤ 140737488351232 := by omega
  have haI : (a : Int) < (n : Int) := by omega
  have hb1 : ¬ (a : Int) < 0 := by omega
  have hb2 : ¬ (n : Int) < (a : Int) := by omega
  have hb3 : ((a : Int) == (n : Int)) = false := by simp; omega
  obtain ⟨b, off, hA, hc⟩ := hr (by intro h; rw [h] at h0; cases h0)
  subst hA
  have hcx := hc a x h0
  rw [show (x.toNat : Int) = (k : Int) from by rw [hk]] at hcx
  have hkl : (k : Int) < 256 := by have := x.toNat_lt; omega
  have hn1 : ((k : Int) == 1) = false := by simp; omega
  have hn2 : ((k : Int) == 2) = false := by simp; omega
  have hn3 : ((k : Int) == 3) = false := by simp; omega
  have VIN := hide (show VlIn ((k : Int), 0, noS) from vlin _ _ _ (by omega) (by omega) (by decide) (by decide) noS_le)
  obtain ⟨rr, HRR⟩ : ∃ rr : Vl × Int × Int, Hid (Eq (α := Vl × Int × Int) (if vOk ((k : Int), 0, noS) = true then (((k : Int), 0, noS), ((a + 1 : Nat) : Int), 0) else ((0, 0, noS), 0, 3)) rr) := ⟨_, hide rfl⟩
  rw [HRR.out]
  have HRD := hide hr
  have HT := hide hT
  have hcx1 := (Ext.alloc w (.cells #[.int .u8 0, .int .i64 0, .string ⟨#[]⟩] 26)).keeps.cell hcx
  clear hc hr hT hcx
  go_enter Tryd.func22, Tryd.ntmps22
  go_upto_region 8 with fail
  obtain ⟨W2, hX2, hB4, hB7, hgg⟩ : ∃ W, Ext w W ∧ Rw W w.heap.size 26 [.int .u8 0, .int .i64 0, .string ⟨#[]⟩] ∧ Rw W (w.heap.size + 1) 26 [.int .u8 (k : Int), .int .i64 0, .string ⟨#[]⟩] ∧ (w.alloc (.cells #[.int .u8 0, .int .i64 0, .string ⟨#[]⟩] 26)).alloc (.cells #[.int .u8 (k : Int), .int .i64 0, .string ⟨#[]⟩] 26) = W := by
    have e1 : (w.alloc (.cells #[.int .u8 0, .int .i64 0, .string ⟨#[]⟩] 26)).heap.size = w.heap.size + 1 := by simp
    refine ⟨_, (Ext.alloc _ _).trans (Ext.alloc _ _), (Rw.new w 26 [.int .u8 0, .int .i64 0, .string ⟨#[]⟩]).alloc _, ?_, rfl⟩
    have h := Rw.new (w.alloc (.cells #[.int .u8 0, .int .i64 0, .string ⟨#[]⟩] 26)) 26 [.int .u8 (k : Int), .int .i64 0, .string ⟨#[]⟩]
    rw [e1] at h
    exact h
  rw [hgg]
  clear hgg hcx1
  have X2 := hide hX2
  have B4 := hide hB4
  have B7 := hide hB7
  clear hX2 hB4 hB7
  have q0 := B7.out.cell (i := 0) rfl
  have q1 := B7.out.cell (i := 1) rfl
  have q2 := B7.out.cell (i := 2) rfl
  go_upto_region 18 with fail
  obtain ⟨W3, HW3⟩ : ∃ W, W = W2 := ⟨_, rfl⟩
  subst HW3
  have X3 := X2
  have B43 := B4
  have B73 := B7
  clear X2 B4 B7 q0 q1 q2
  obtain ⟨kk, HKK⟩ : ∃ kk : Int, Hid (((a + 1 : Nat) : Int) = kk) := ⟨_, hide rfl⟩
  have hkk : (a : Int) + 1 = kk := by have := HKK.out; omega
  rw [HKK.out] at HRR
  rw [hkk]
  obtain ⟨vb, HVB⟩ : ∃ vb, Hid (vOk ((k : Int), 0, noS) = vb) := ⟨_, hide rfl⟩
  have KF := hide (rform_any ((k : Int), 0, noS) W3 VIN.out (HT.out.ext X3.out))
  rw [HVB.out] at KF
  unfold noS at KF
  have q0 := B73.out.cell (i := 0) rfl
  have q1 := B73.out.cell (i := 1) rfl
  have q2 := B73.out.cell (i := 2) rfl
  cases vb with
  | false =>
    obtain rfl : rr = ((0, 0, noS), 0, 3) := by rw [← HRR.out, if_neg (by rw [HVB.out]; decide)]
    go_upto_region 19 with (go_at_call 13; (with_reducible refine KF.out.mono ?_); rintro e w4 ⟨rfl, hx4⟩; have X4 := hide (X3.out.trans hx4); have B44 := hide (B43.out.ext hx4))
    have d0 := B44.out.cell (i := 0) rfl
    have d1 := B44.out.cell (i := 1) rfl
    have d2 := B44.out.cell (i := 2) rfl
    have f0 := B44.out.frozen 0
    have f1 := B44.out.frozen 1
    have f2 := B44.out.frozen 2
    go_wp2
    have ZS := ((B44.out.set 0 (.int .u8 0)).set 1 (.int .i64 0)).set 2 (.string ⟨#[]⟩)
    have XS := ext_set3 X4.out (Nat.le_refl _) (.int .u8 0) (.int .i64 0) (.string ⟨#[]⟩)
    have y0 := ZS.cell (i := 0) rfl
    have y1 := ZS.cell (i := 1) rfl
    have y2 := ZS.cell (i := 2) rfl
    refine bodyPost_ret (v := .tuple #[.agg #[.int .u8 0, .int .i64 0, .string ⟨#[]⟩], .int .i64 0, .int .i64 3]) (by simp [results, Tryd.results22, go_sem, y0, y1, y2]; try rfl) rfl ⟨XS, rfl⟩
  | true =>
    obtain rfl : rr = (((k : Int), 0, noS), kk, 0) := by rw [← HRR.out, if_pos HVB.out]
    go_upto_region 20 with (go_at_call 13; (with_reducible refine KF.out.mono ?_); rintro e w4 ⟨rfl, hx4⟩; have X4 := hide (X3.out.trans hx4); have B44 := hide (B43.out.ext hx4); have B74 := hide (B73.out.ext hx4))
    clear q0 q1 q2
    have d0 := B44.out.cell (i := 0) rfl
    have d1 := B44.out.cell (i := 1) rfl
    have d2 := B44.out.cell (i := 2) rfl
    have f0 := B44.out.frozen 0
    have f1 := B44.out.frozen 1
    have f2 := B44.out.frozen 2
    have q0 := B74.out.cell (i := 0) rfl
    have q1 := B74.out.cell (i := 1) rfl
    have q2 := B74.out.cell (i := 2) rfl
    go_wp2
    have ZS := ((B44.out.set 0 (.int .u8 (k : Int))).set 1 (.int .i64 0)).set 2 (.string ⟨#[]⟩)
    have XS := ext_set3 X4.out (Nat.le_refl _) (.int .u8 (k : Int)) (.int .i64 0) (.string ⟨#[]⟩)
    have y0 := ZS.cell (i := 0) rfl
    have y1 := ZS.cell (i := 1) rfl
    have y2 := ZS.cell (i := 2) rfl
    refine bodyPost_ret (v := .tuple #[.agg #[.int .u8 (k : Int), .int .i64 0, .string ⟨#[]⟩], .int .i64 kk, .int .i64 0]) (by simp [results, Tryd.results22, go_sem, y0, y1, y2]; try rfl) rfl ⟨XS, rfl⟩
theorem rkc_if {w : World} {b : Bool} {v : Vl} {p : Int} {e : Ending} {w' : World} (h : RkC w (if b = true then (v, p, 0) else ((0, 0, noS), 0, 3)) e w') : RkC w (match (if b = true then some (v, p) else none : Option (Vl × Int)) with | some r => (r.1, r.2, 0) | none => ((0, 0, noS), 0, 3)) e w' := by
  cases b <;> exact h
set_option maxRecDepth 20000 in
set_option maxHeartbeats 3200000 in
theorem rrk_out (A : Option Addr) (l : List UInt8) (n c : Nat) (at_ : Int) (w : World) (hn : l.length = n) (hl : n ≤ 140737488351232) (ho : at_ < 0 ∨ (n : Int) < at_) :
    Calls Tryd.prog 22 #[.slice A n c, .int .i64 at_] w (RkC w ((0, 0, noS), 0, 1)) := by
  have y0 := (Rw.new w 26 [.int .u8 0, .int .i64 0, .string ⟨#[]⟩]).cell (i := 0) rfl
  have y1 := (Rw.new w 26 [.int .u8 0, .int .i64 0, .string ⟨#[]⟩]).cell (i := 1) rfl
  have y2 := (Rw.new w 26 [.int .u8 0, .int .i64 0, .string ⟨#[]⟩]).cell (i := 2) rfl
  by_cases hlt : at_ < 0
  · go_enter Tryd.func22, Tryd.ntmps22
    go_wp2
    refine bodyPost_ret (v := .tuple #[.agg #[.int .u8 0, .int .i64 0, .string ⟨#[]⟩], .int .i64 0, .int .i64 1]) (by simp [results, Tryd.results22, go_sem, y0, y1, y2]; try rfl) rfl ⟨Ext.alloc _ _, rfl⟩
  · have hgt : (n : Int) < at_ := by omega
    clear ho
    go_enter Tryd.func22, Tryd.ntmps22
    go_wp2
    refine bodyPost_ret (v := .tuple #[.agg #[.int .u8 0, .int .i64 0, .string ⟨#[]⟩], .int .i64 0, .int .i64 1]) (by simp [results, Tryd.results22, go_sem, y0, y1, y2]; try rfl) rfl ⟨Ext.alloc _ _, rfl⟩
set_option maxRecDepth 20000 in
set_option maxHeartbeats 3200000 in
theorem rrk_end (A : Option Addr) (n c : Nat) (w : World) (hl : n ≤ 140737488351232) :
    Calls Tryd.prog 22 #[.slice A n c, .int .i64 (n : Int)] w (RkC w ((0, 0, noS), 0, 3)) := by
  have hb1 : ¬ (n : Int) < 0 := by omega
  have hb2 : ¬ (n : Int) < (n : Int) := by omega
  have y0 := (Rw.new w 26 [.int .u8 0, .int .i64 0, .string ⟨#[]⟩]).cell (i := 0) rfl
  have y1 := (Rw.new w 26 [.int .u8 0, .int .i64 0, .string ⟨#[]⟩]).cell (i := 1) rfl
  have y2 := (Rw.new w 26 [.int .u8 0, .int .i64 0, .string ⟨#[]⟩]).cell (i := 2) rfl
  go_enter Tryd.func22, Tryd.ntmps22
  go_wp2
  refine bodyPost_ret (v := .tuple #[.agg #[.int .u8 0, .int .i64 0, .string ⟨#[]⟩], .int .i64 0, .int .i64 3]) (by simp [results, Tryd.results22, go_sem, y0, y1, y2]; try rfl) rfl ⟨Ext.alloc _ _, rfl⟩
theorem rdKey_at (l : List UInt8) (a : Nat) (ha : a ≤ l.length) : rdKey l (a : Int) = match valAt keyAt l a with | some r => (r.1, (r.2 : Int), 0) | none => ((0, 0, noS), 0, 3) := by
  unfold rdKey
  rw [if_neg (by omega), Int.toNat_natCast]
  cases valAt keyAt l a <;> rfl
theorem text_cap (ss : ByteArray) (hss : ss.size ≤ 60) : [b8 2].length + (text ss.data.toList).length ≤ 140737488355328 := by
  have h := (esc_length ss.data.toList).2
  have h2 : ss.data.toList.length = ss.size := by simp
  simp only [text, List.length_append, List.length_cons, List.length_nil]
  omega
theorem if_rd (b : Bool) (v : Vl) (k : Nat) : (match (if b = true then some (v, k) else none : Option (Vl × Nat)) with | some r => (r.1, (r.2 : Int), (0 : Int)) | none => ((0, 0, noS), 0, 3)) = (if b = true then (v, (k : Int), 0) else ((0, 0, noS), 0, 3)) := by
  cases b <;> rfl
theorem rreadKey_any (A : Option Addr) (l : List UInt8) (n c : Nat) (at_ : Int) (w : World) (hr : Rd w A l) (hn : l.length = n) (hnc : n ≤ c) (hl : n ≤ 140737488351232) (hT : Tabs w) :
    Calls Tryd.prog 22 #[.slice A n c, .int .i64 at_] w (RkC w (rdKey l at_)) := by
  by_cases ho : at_ < 0 ∨ (n : Int) < at_
  · have e : rdKey l at_ = ((0, 0, noS), 0, 1) := by unfold rdKey; rw [hn, if_pos ho]
    rw [e]
    exact rrk_out A l n c at_ w hn hl ho
  · obtain ⟨a, rfl⟩ : ∃ a : Nat, at_ = (a : Int) := ⟨at_.toNat, by omega⟩
    rw [rdKey_at l a (by omega)]
    cases h0 : l[a]? with
    | none =>
      have : a = n := by have := List.getElem?_eq_none_iff.1 h0; omega
      subst this
      have e : valAt keyAt l a = none := by unfold valAt; rw [h0]
      rw [e]
      exact rrk_end A a c w hl
    | some x =>
      have hal : a < l.length := (List.getElem?_eq_some_iff.1 h0).1
      by_cases h1 : x.toNat = 1
      · by_cases h8 : a + 1 + 8 ≤ n
        · have e : valAt keyAt l a = if vOk (1, numAt l (a + 1), noS) = true then some ((1, numAt l (a + 1), noS), a + 1 + 8) else none := by
            unfold valAt; rw [h0]; simp only; unfold rawAt; rw [if_pos h1, if_pos (by omega)]
          rw [e, if_rd]
          exact rrk_int_yes A l n c a w hr hn hnc hl hT x h0 h1 _ ⟨h8, rfl, numAt_range l (a + 1) (by omega)⟩
        · have e : valAt keyAt l a = none := by
            unfold valAt; rw [h0]; simp only; unfold rawAt; rw [if_pos h1, if_neg (by omega)]
          rw [e]
          exact rrk_int_no A l n c a w hr hn hnc hl hT x h0 h1 (by omega)
      · by_cases h2 : x.toNat = 2
        · cases hp : parse (l.drop (a + 1)) with
          | none =>
            have e : valAt keyAt l a = none := by
              unfold valAt; rw [h0]; simp only; unfold rawAt keyAt; rw [if_neg h1, if_pos h2, hp]
            rw [e]
            exact rrk_txt_no A l n c a w hr hn hnc hl hT x h0 h2 hp
          | some r =>
            obtain ⟨tx, m⟩ := r
            have e : valAt keyAt l a = if vOk (2, 0, ⟨tx.toArray⟩) = true then some ((2, 0, ⟨tx.toArray⟩), a + 1 + m) else none := by
              unfold valAt; rw [h0]; simp only; unfold rawAt keyAt; rw [if_neg h1, if_pos h2, hp]
            rw [e, if_rd]
            exact rrk_txt_yes A l n c a w hr hn hnc hl hT x h0 h2 tx m hp
        · by_cases h3 : x.toNat = 3
          · cases hy : l[a + 1]? with
            | none =>
              have e : valAt keyAt l a = none := by
                unfold valAt; rw [h0]; simp only; unfold rawAt; rw [if_neg h1, if_neg h2, if_pos h3, hy]
              rw [e]
              exact rrk_bool_no A l n c a w hr hn hnc hl hT x h0 h3 hy
            | some y =>
              have e : valAt keyAt l a = if vOk (3, (y.toNat : Int), noS) = true then some ((3, (y.toNat : Int), noS), a + 1 + 1) else none := by
                unfold valAt; rw [h0]; simp only; unfold rawAt; rw [if_neg h1, if_neg h2, if_pos h3, hy]
              rw [e, if_rd]
              exact rrk_bool_yes A l n c a w hr hn hnc hl hT x h0 h3 y _ hy rfl
          · have e : valAt keyAt l a = if vOk ((x.toNat : Int), 0, noS) = true then some (((x.toNat : Int), 0, noS), a + 1) else none := by
              unfold valAt; rw [h0]; simp only; unfold rawAt; rw [if_neg h1, if_neg h2, if_neg h3]
            rw [e, if_rd]
            exact rrk_else A l n c a w hr hn hnc hl hT x h0 _ rfl h1 h2 h3
set_option maxRecDepth 20000 in
set_option maxHeartbeats 1600000 in
theorem rkey_0 (w : World)  : Calls Tryd.prog 21 #[.agg #[.int .u8 0, .int .i64 0, .string noS]] w (Ret w (Bytes (keyV (0, 0, noS)))) := by
  have B0 := Rw.new w 26 [.int .u8 0, .int .i64 0, .string noS]
  have d0 := B0.cell (i := 0) rfl
  have d1 := B0.cell (i := 1) rfl
  have d2 := B0.cell (i := 2) rfl
  go_enter Tryd.func21, Tryd.ntmps21
  go_upto_region 2 with fail
  obtain ⟨W1, hX1, hB1, hO1, hgg⟩ : ∃ W, Ext w W ∧ Rw W w.heap.size 26 [.int .u8 0, .int .i64 0, .string noS] ∧ Own W (w.heap.size + 1) (.slice (some ⟨w.heap.size + 1, 0, none⟩) 1 1) [b8 0] ∧ (w.alloc (.cells #[.int .u8 0, .int .i64 0, .string noS] 26)).alloc (.cells #[.int .u8 0] 5) = W := by
    have e1 : (w.alloc (.cells #[.int .u8 0, .int .i64 0, .string noS] 26)).heap.size = w.heap.size + 1 := by simp
    refine ⟨_, (Ext.alloc _ _).trans (Ext.alloc _ _), B0.alloc _, ?_, rfl⟩
    have h := own_one (w.alloc (.cells #[.int .u8 0, .int .i64 0, .string noS] 26)) (w.heap.size + 1) (by rw [e1]; exact Nat.le_refl _) 0 (by decide) (by decide)
    rw [e1] at h
    exact h
  rw [hgg]
  clear hgg d0 d1 d2 B0
  have X1 := hide hX1
  have O1 := hide hO1
  have HS1 : Hid (w.heap.size + 1 ≤ W1.heap.size) := hide (by have h := hB1.lt; omega)
  have d0 := hB1.cell (i := 0) rfl
  have d1 := hB1.cell (i := 1) rfl
  have d2 := hB1.cell (i := 2) rfl
  clear hX1 hO1 hB1
  go_wp2
  go_ret
  exact ⟨_, rfl, X1.out, O1.out.bytes⟩
set_option maxRecDepth 20000 in
set_option maxHeartbeats 1600000 in
theorem rkey_1 (w : World) (nn : Int) (h0 : -9223372036854775808 ≤ nn) (h1 : nn < 9223372036854775808) : Calls Tryd.prog 21 #[.agg #[.int .u8 1, .int .i64 nn, .string noS]] w (Ret w (Bytes (keyV (1, nn, noS)))) := by
  have B0 := Rw.new w 26 [.int .u8 1, .int .i64 nn, .string noS]
  have d0 := B0.cell (i := 0) rfl
  have d1 := B0.cell (i := 1) rfl
  have d2 := B0.cell (i := 2) rfl
  go_enter Tryd.func21, Tryd.ntmps21
  go_upto_region 2 with fail
  obtain ⟨W1, hX1, hB1, hO1, hgg⟩ : ∃ W, Ext w W ∧ Rw W w.heap.size 26 [.int .u8 1, .int .i64 nn, .string noS] ∧ Own W (w.heap.size + 1) (.slice (some ⟨w.heap.size + 1, 0, none⟩) 1 1) [b8 1] ∧ (w.alloc (.cells #[.int .u8 1, .int .i64 nn, .string noS] 26)).alloc (.cells #[.int .u8 1] 5) = W := by
    have e1 : (w.alloc (.cells #[.int .u8 1, .int .i64 nn, .string noS] 26)).heap.size = w.heap.size + 1 := by simp
    refine ⟨_, (Ext.alloc _ _).trans (Ext.alloc _ _), B0.alloc _, ?_, rfl⟩
    have h := own_one (w.alloc (.cells #[.int .u8 1, .int .i64 nn, .string noS] 26)) (w.heap.size + 1) (by rw [e1]; exact Nat.le_refl _) 1 (by decide) (by decide)
    rw [e1] at h
    exact h
  rw [hgg]
  clear hgg d0 d1 d2 B0
  have X1 := hide hX1
  have O1 := hide hO1
  have HS1 : Hid (w.heap.size + 1 ≤ W1.heap.size) := hide (by have h := hB1.lt; omega)
  have d0 := hB1.cell (i := 0) rfl
  have d1 := hB1.cell (i := 1) rfl
  have d2 := hB1.cell (i := 2) rfl
  clear hX1 hO1 hB1
  go_wp2_with (first
    | (go_at_call 31; (with_reducible refine (rint_any nn _ h0 h1).mono ?_); rintro e w4 ⟨v4, rfl, hx4, A4, c4, hv4, hc4, hr4⟩; subst hv4; have X4 := hide (X1.out.trans hx4); have O4 := hide (O1.out.ext hx4))
    | (at_builtin; refine wpList_catG rfl (.tmp 11) (.tmp 14) rfl (w.heap.size + 1) _ _ (ord64 nn) A4 _ c4 rfl rfl rfl O4.out hr4 (Nat.le_trans HS1.out (Ext.size hx4)) (by simp [show (ord64 nn).length = 8 from rfl]) ?_; intro v5 w5 ho5 hb5 hs5; have X5 := hide (show Ext w w5 from Below.trans X4.out (Below.mono hb5 (Nat.le_succ _)))))
  go_ret
  exact ⟨_, rfl, X5.out, ho5.bytes⟩
set_option maxRecDepth 20000 in
set_option maxHeartbeats 1600000 in
theorem rkey_2 (w : World) (ss : ByteArray) (hss : ss.size ≤ 60) : Calls Tryd.prog 21 #[.agg #[.int .u8 2, .int .i64 0, .string ss]] w (Ret w (Bytes (keyV (2, 0, ss)))) := by
  have B0 := Rw.new w 26 [.int .u8 2, .int .i64 0, .string ss]
  have d0 := B0.cell (i := 0) rfl
  have d1 := B0.cell (i := 1) rfl
  have d2 := B0.cell (i := 2) rfl
  go_enter Tryd.func21, Tryd.ntmps21
  go_upto_region 2 with fail
  obtain ⟨W1, hX1, hB1, hO1, hgg⟩ : ∃ W, Ext w W ∧ Rw W w.heap.size 26 [.int .u8 2, .int .i64 0, .string ss] ∧ Own W (w.heap.size + 1) (.slice (some ⟨w.heap.size + 1, 0, none⟩) 1 1) [b8 2] ∧ (w.alloc (.cells #[.int .u8 2, .int .i64 0, .string ss] 26)).alloc (.cells #[.int .u8 2] 5) = W := by
    have e1 : (w.alloc (.cells #[.int .u8 2, .int .i64 0, .string ss] 26)).heap.size = w.heap.size + 1 := by simp
    refine ⟨_, (Ext.alloc _ _).trans (Ext.alloc _ _), B0.alloc _, ?_, rfl⟩
    have h := own_one (w.alloc (.cells #[.int .u8 2, .int .i64 0, .string ss] 26)) (w.heap.size + 1) (by rw [e1]; exact Nat.le_refl _) 2 (by decide) (by decide)
    rw [e1] at h
    exact h
  rw [hgg]
  clear hgg d0 d1 d2 B0
  have X1 := hide hX1
  have O1 := hide hO1
  have HS1 : Hid (w.heap.size + 1 ≤ W1.heap.size) := hide (by have h := hB1.lt; omega)
  have d0 := hB1.cell (i := 0) rfl
  have d1 := hB1.cell (i := 1) rfl
  have d2 := hB1.cell (i := 2) rfl
  clear hX1 hO1 hB1
  go_wp2_with (first
    | (go_at_call 40; (with_reducible refine (rtext_any ss _ (by omega)).mono ?_); rintro e w4 ⟨v4, rfl, hx4, A4, c4, hv4, hc4, hr4⟩; subst hv4; have X4 := hide (X1.out.trans hx4); have O4 := hide (O1.out.ext hx4))
    | (at_builtin; refine wpList_catG rfl (.tmp 18) (.tmp 21) rfl (w.heap.size + 1) _ _ (text ss.data.toList) A4 _ c4 rfl rfl rfl O4.out hr4 (Nat.le_trans HS1.out (Ext.size hx4)) (by exact text_cap ss hss) ?_; intro v5 w5 ho5 hb5 hs5; have X5 := hide (show Ext w w5 from Below.trans X4.out (Below.mono hb5 (Nat.le_succ _)))))
  go_ret
  exact ⟨_, rfl, X5.out, ho5.bytes⟩
set_option maxRecDepth 20000 in
set_option maxHeartbeats 1600000 in
theorem rkey_30 (w : World)  : Calls Tryd.prog 21 #[.agg #[.int .u8 3, .int .i64 0, .string noS]] w (Ret w (Bytes (keyV (3, 0, noS)))) := by
  have B0 := Rw.new w 26 [.int .u8 3, .int .i64 0, .string noS]
  have d0 := B0.cell (i := 0) rfl
  have d1 := B0.cell (i := 1) rfl
  have d2 := B0.cell (i := 2) rfl
  go_enter Tryd.func21, Tryd.ntmps21
  go_upto_region 2 with fail
  obtain ⟨W1, hX1, hB1, hO1, hgg⟩ : ∃ W, Ext w W ∧ Rw W w.heap.size 26 [.int .u8 3, .int .i64 0, .string noS] ∧ Own W (w.heap.size + 1) (.slice (some ⟨w.heap.size + 1, 0, none⟩) 1 1) [b8 3] ∧ (w.alloc (.cells #[.int .u8 3, .int .i64 0, .string noS] 26)).alloc (.cells #[.int .u8 3] 5) = W := by
    have e1 : (w.alloc (.cells #[.int .u8 3, .int .i64 0, .string noS] 26)).heap.size = w.heap.size + 1 := by simp
    refine ⟨_, (Ext.alloc _ _).trans (Ext.alloc _ _), B0.alloc _, ?_, rfl⟩
    have h := own_one (w.alloc (.cells #[.int .u8 3, .int .i64 0, .string noS] 26)) (w.heap.size + 1) (by rw [e1]; exact Nat.le_refl _) 3 (by decide) (by decide)
    rw [e1] at h
    exact h
  rw [hgg]
  clear hgg d0 d1 d2 B0
  have X1 := hide hX1
  have O1 := hide hO1
  have HS1 : Hid (w.heap.size + 1 ≤ W1.heap.size) := hide (by have h := hB1.lt; omega)
  have d0 := hB1.cell (i := 0) rfl
  have d1 := hB1.cell (i := 1) rfl
  have d2 := hB1.cell (i := 2) rfl
  clear hX1 hO1 hB1
  have hw0 : IntKind.u8.wrap (0 : Int) = 0 := rfl
  go_wp2_with (at_builtin; refine wpList_pushG rfl (.tmp 25) (.tmp 29) rfl (w.heap.size + 1) _ _ rfl rfl O1.out (by decide) (by decide) HS1.out (by simp) ?_; intro v5 w5 ho5 hb5 hs5; have X5 := hide (show Ext w w5 from Below.trans X1.out (Below.mono hb5 (Nat.le_succ _))))
  go_ret
  exact ⟨_, rfl, X5.out, ho5.bytes⟩
set_option maxRecDepth 20000 in
set_option maxHeartbeats 1600000 in
theorem rkey_31 (w : World)  : Calls Tryd.prog 21 #[.agg #[.int .u8 3, .int .i64 1, .string noS]] w (Ret w (Bytes (keyV (3, 1, noS)))) := by
  have B0 := Rw.new w 26 [.int .u8 3, .int .i64 1, .string noS]
  have d0 := B0.cell (i := 0) rfl
  have d1 := B0.cell (i := 1) rfl
  have d2 := B0.cell (i := 2) rfl
  go_enter Tryd.func21, Tryd.ntmps21
  go_upto_region 2 with fail
  obtain ⟨W1, hX1, hB1, hO1, hgg⟩ : ∃ W, Ext w W ∧ Rw W w.heap.size 26 [.int .u8 3, .int .i64 1, .string noS] ∧ Own W (w.heap.size + 1) (.slice (some ⟨w.heap.size + 1, 0, none⟩) 1 1) [b8 3] ∧ (w.alloc (.cells #[.int .u8 3, .int .i64 1, .string noS] 26)).alloc (.cells #[.int .u8 3] 5) = W := by
    have e1 : (w.alloc (.cells #[.int .u8 3, .int .i64 1, .string noS] 26)).heap.size = w.heap.size + 1 := by simp
    refine ⟨_, (Ext.alloc _ _).trans (Ext.alloc _ _), B0.alloc _, ?_, rfl⟩
    have h := own_one (w.alloc (.cells #[.int .u8 3, .int .i64 1, .string noS] 26)) (w.heap.size + 1) (by rw [e1]; exact Nat.le_refl _) 3 (by decide) (by decide)
    rw [e1] at h
    exact h
  rw [hgg]
  clear hgg d0 d1 d2 B0
  have X1 := hide hX1
  have O1 := hide hO1
  have HS1 : Hid (w.heap.size + 1 ≤ W1.heap.size) := hide (by have h := hB1.lt; omega)
  have d0 := hB1.cell (i := 0) rfl
  have d1 := hB1.cell (i := 1) rfl
  have d2 := hB1.cell (i := 2) rfl
  clear hX1 hO1 hB1
  have hw0 : IntKind.u8.wrap (1 : Int) = 1 := rfl
  go_wp2_with (at_builtin; refine wpList_pushG rfl (.tmp 25) (.tmp 29) rfl (w.heap.size + 1) _ _ rfl rfl O1.out (by decide) (by decide) HS1.out (by simp) ?_; intro v5 w5 ho5 hb5 hs5; have X5 := hide (show Ext w w5 from Below.trans X1.out (Below.mono hb5 (Nat.le_succ _))))
  go_ret
  exact ⟨_, rfl, X5.out, ho5.bytes⟩
theorem rkey_any (x : Vl) (w : World) (h : vOk x = true) (hb : VlIn x) : Calls Tryd.prog 21 #[.agg #[.int .u8 x.1, .int .i64 x.2.1, .string x.2.2]] w (Ret w (Bytes (keyV x))) := by
  rcases vl_cases x h hb with rfl | ⟨n, rfl, h0, h1⟩ | ⟨s, rfl, hs, ho⟩ | rfl | rfl
  · exact rkey_0 w
  · exact rkey_1 w n h0 h1
  · exact rkey_2 w s hs
  · exact rkey_30 w
  · exact rkey_31 w
end Go.Proofs.YtpdikmcaihlbaaaDoor
namespace Go.Proofs.YtpdikmcaihlbaaaDoor
open Go.RowKit

theorem run_loadVar_at {P : Program} (w : World) (g off : Nat) (ty : TypeId) (vs : List Value) (n : Nat) (ha : (isAgg ty).run P w = .ok true w) (hi : (P.info? ty).map (·.size) = some n) (hn : n = vs.length)
    (hc : ∀ j v, vs[j]? = some v → w.cell? ⟨g, off + j, none⟩ = some v) : (loadVar ty ⟨g, off, none⟩).run P w = .ok (.agg vs.toArray) w := by
  have hl : (loadCells ⟨g, off, none⟩ vs.length).run P w = .ok vs.toArray w :=
    run_loadCells_list (P := P) w ⟨g, off, none⟩ vs (fun j v hv => by rw [add_flat]; exact hc j v hv)
  cases hq : P.info? ty with
  | none => simp [hq] at hi
  | some i =>
    have hs : i.size = vs.length := by simp [hq] at hi; omega
    simp [loadVar, Sem.run_bind, ha, sizeOf, typeInfo, hq, hs, hl]
theorem agg_struct {P : Program} {ty : Nat} {fs : Array Field} (hu : P.underlying ty = some (.struct fs)) (w : World) : (isAgg ty).run P w = .ok true w := by
  unfold isAgg
  rw [Sem.run_bind, run_underlying hu w]
  simp
theorem gives_load_at {P : Program} {o : Oper} {a : Act} {w : World} {R : Value → World → Prop} (ty : TypeId) (x : Operand) (ho : o.op = .load ty x) (g off : Nat) (hx : a.eval x = .pointer (some ⟨g, off, none⟩)) (vs : List Value) (n : Nat) (ha : (isAgg ty).run P w = .ok true w) (hi : (P.info? ty).map (·.size) = some n) (hn : n = vs.length)
    (hc : ∀ j v, vs[j]? = some v → w.cell? ⟨g, off + j, none⟩ = some v) (hR : R (.agg vs.toArray) w) : gives P o a w R := by
  unfold gives execOp
  simp only [ho, hx, Instr.loadAt, Instr.sureAddr, Sem.run_bind, Sem.run_pure, Result.andThen_ok, run_loadVar_at w g off ty vs n ha hi hn hc]
  exact hR
end Go.Proofs.YtpdikmcaihlbaaaDoor
namespace Go.Proofs.YtpdikmcaihlbaaaDoor
open Go.RowKit

set_option maxRecDepth 20000 in
set_option maxHeartbeats 3200000 in
theorem same_yes (A B : Option Addr) (L : List Vl) (n c d : Nat) (w : World) (hA : RdV w A L) (hB : RdV w B L) (hn : L.length = n) (hl : n ≤ 140737488355328) :
    Calls Tryd.prog 17 #[.slice A n c, .slice B n d] w (RetB w true) := by
  have hnI : (n : Int) ≤ 140737488355328 := by omega
  have HA := hide hA
  have HB := hide hB
  have HN := hide hn
  clear hA hB hn hl
  go_enter Tryd.func17, Tryd.ntmps17
  go_upto_region 4 with fail
  go_loopw [5] (fun iv wr => ∃ i : Nat, i ≤ n ∧ iv = .int .i64 (i : Int) ∧ Hid (Ext w wr)) (fun iv _ => n - (intOf iv).toNat)
  case atStart => exact ⟨0, Nat.zero_le _, rfl, hide (Ext.refl _)⟩
  case round =>
    obtain ⟨i, hi, rfl, HX⟩ := hrel
    obtain ⟨wr, HWR⟩ := worldOf HX
    subst HWR
    by_cases hlt : i < n
    · have hii : (i : Int) < (n : Int) := by omega
      obtain ⟨x, hx⟩ : ∃ x, L[i]? = some x := ⟨_, List.getElem?_eq_getElem (by rw [HN.out]; exact hlt)⟩
      obtain ⟨b, off, hA, hc⟩ := HA.out (by intro h; rw [h] at hx; cases hx)
      obtain ⟨b', off', hB, hc'⟩ := HB.out (by intro h; rw [h] at hx; cases hx)
      subst hA hB
      have c0 := HX.out.keeps.cell (hc i x hx).1
      have c1 := HX.out.keeps.cell (hc i x hx).2.1
      have c2 := HX.out.keeps.cell (hc i x hx).2.2
      have d0 := HX.out.keeps.cell (hc' i x hx).1
      have d1 := HX.out.keeps.cell (hc' i x hx).2.1
      have d2 := HX.out.keeps.cell (hc' i x hx).2.2
      clear hc hc' hx
      go_upto_region 6 with fail
      go_quiet (fail)
      go_wp2
      exact ⟨⟨i + 1, by omega, by go_num, hide (HX.out.trans (Ext.drewn _ _))⟩, by simp [intOf]; omega⟩
    · obtain rfl : i = n := by omega
      have hii : ¬ (i : Int) < (i : Int) := by omega
      go_wp2
      go_ret
      exact ⟨rfl, HX.out⟩
end Go.Proofs.YtpdikmcaihlbaaaDoor
