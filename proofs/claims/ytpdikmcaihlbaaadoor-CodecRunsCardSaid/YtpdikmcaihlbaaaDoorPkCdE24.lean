/-
  The reader of the codec: value, of bools and numbers.
-/
import Derived.Test.YtpdikmcaihlbaaaDoorPkCdE23
set_option linter.unusedVariables false
set_option linter.unusedSimpArgs false

namespace Go.Proofs.YtpdikmcaihlbaaaDoor
open Go.RowKit

set_option maxRecDepth 20000 in
set_option maxHeartbeats 3200000 in
theorem value_bool_no (g : Nat) (A : Option Addr) (l : List UInt8) (n c a : Nat) (F : Value) (w0 w : World) (hr0 : Rd w0 A l) (hx : Ext w0 w) (hg : w0.heap.size ≤ g) (hgw : g < w.heap.size) (hn : l.length = n) (hnc : n ≤ c) (hl : n ≤ 140737488351232) (han : a ≤ n) (hR : RdrC w g A n c a) (hT : Tabs w0) (x : UInt8) (h0 : l[a]? = some x) (h1 : x.toNat = 3) (hy : l[a + 1]? = none) :
    Calls Tryd.prog 38 #[.pointer (some ⟨g, 0, none⟩), F] w (OneC w g A n c none) := by
  have hnI : (n : Int) ≤ 140737488351232 := by omega
  have HG := hide (show w0.heap.size ≤ g ∧ g < w.heap.size from ⟨hg, hgw⟩)
  have HT := hide hT
  have HX := hide hx
  have KO := hide (one_any g A l n c a w0 (w.alloc (.cells #[.int .u8 0, .int .i64 0, .string ⟨#[]⟩] 26)) hr0 (hx.trans (Ext.alloc _ _)) hg hn hnc hl han (Rw.ext hR (Ext.alloc _ _)))
  have BZ := hide (Rw.new w 26 [.int .u8 0, .int .i64 0, .string ⟨#[]⟩])
  rw [h0] at KO
  have han1 : a + 1 ≤ n := by have h2 := (List.getElem?_eq_some_iff.1 h0).1; omega
  have HR0 := hide hr0
  have KO2 := hide (show Calls Tryd.prog 48 #[.pointer (some ⟨g, 0, none⟩)] (w.alloc (.cells #[.int .u8 0, .int .i64 0, .string ⟨#[]⟩] 26)) (OneC (w.alloc (.cells #[.int .u8 0, .int .i64 0, .string ⟨#[]⟩] 26)) g A n c (some (.int .u8 3, a + 1))) from by have h := KO.out; simp only [h1] at h; exact h)
  clear KO hR hr0 hx hg hgw
  go_enter Tryd.func38, Tryd.ntmps38
  go_upto_region 2 with (go_at_call 48; (with_reducible refine KO2.out.mono ?_); rintro e w2 ⟨hg2, rfl, hr2⟩; have G2 := hide hg2; have R2 := hide hr2)
  obtain ⟨W3, hX3, hV3, hgg⟩ : ∃ W, Ext w2 W ∧ Rw W w2.heap.size 26 [.int .u8 3, .int .i64 0, .string ⟨#[]⟩] ∧ w2.alloc (.cells #[.int .u8 3, .int .i64 0, .string ⟨#[]⟩] 26) = W := ⟨_, Ext.alloc _ _, Rw.new _ _ _, rfl⟩
  rw [hgg]
  obtain ⟨hv, HHV⟩ : ∃ h, Hid (w2.heap.size = h) := ⟨_, hide rfl⟩
  rw [HHV.out] at hV3 ⊢
  have Z2 := hide (show Rw w2 w.heap.size 26 [.int .u8 0, .int .i64 0, .string ⟨#[]⟩] from (G2.out.block w.heap.size BZ.out.lt (fun e => by injection e with e; have := HG.out.2; omega)).trans BZ.out)
  have V3 := hide hV3
  have Z3 := hide (Z2.out.ext hX3)
  have R3 := hide (Rw.ext R2.out hX3)
  have G3 := hide (show w.grownBy W3 (some g) from grown_ext ⟨G2.out.os, G2.out.tape, G2.out.output, Nat.le_trans (Ext.alloc w _).size G2.out.size, fun k hk hne => (G2.out.block k (Nat.lt_of_lt_of_le hk (Ext.alloc w _).size) hne).trans ((Ext.alloc w _).block k hk)⟩ hX3)
  have X03 := hide (show Ext w0 W3 from ⟨G3.out.os.trans HX.out.os, G3.out.tape.trans HX.out.tape, G3.out.output.trans HX.out.output, Nat.le_trans HX.out.size G3.out.size, fun j hj => (G3.out.block j (Nat.lt_of_lt_of_le hj HX.out.size) (fun e => by injection e with e; have := HG.out.1; omega)).trans (HX.out.block j hj)⟩)
  have HNE := hide (show g ≠ w.heap.size ∧ hv ≠ w.heap.size from ⟨by have := HG.out.2; omega, by have h1 := Z2.out.lt; have := HHV.out; omega⟩)
  have HNE2 := hide (show hv ≠ g from by have h1 := R2.out.lt; have := HHV.out; omega)
  clear hgg hX3 hV3 G2 R2 Z2 KO2
  have d0 := V3.out.cell (i := 0) rfl
  have f1 := V3.out.frozen 1
  have c1 := V3.out.cell (i := 1) rfl
  have KO3 := hide (one_any g A l n c (a + 1) w0 W3 HR0.out X03.out HG.out.1 hn hnc hl han1 R3.out)
  rw [hy] at KO3
  have KO4 := hide (show Calls Tryd.prog 48 #[.pointer (some ⟨g, 0, none⟩)] W3 (OneC W3 g A n c none) from KO3.out)
  go_wp2_with (go_at_call 48; (with_reducible refine KO4.out.mono ?_); rintro e w4 ⟨hg4, rfl⟩)
  exact ⟨rfl, ⟨hg4.os.trans G3.out.os, hg4.tape.trans G3.out.tape, hg4.output.trans G3.out.output, Nat.le_trans G3.out.size hg4.size, fun j hj hne => (hg4.block j (Nat.lt_of_lt_of_le hj G3.out.size) hne).trans (G3.out.block j hj hne)⟩, rfl⟩
set_option maxRecDepth 20000 in
set_option maxHeartbeats 3200000 in
theorem value_bool (g : Nat) (A : Option Addr) (l : List UInt8) (n c a : Nat) (F : Value) (w0 w : World) (hr0 : Rd w0 A l) (hx : Ext w0 w) (hg : w0.heap.size ≤ g) (hgw : g < w.heap.size) (hn : l.length = n) (hnc : n ≤ c) (hl : n ≤ 140737488351232) (han : a ≤ n) (hR : RdrC w g A n c a) (hT : Tabs w0) (x : UInt8) (h0 : l[a]? = some x) (h1 : x.toNat = 3) (y : UInt8) (hy : l[a + 1]? = some y) :
    Calls Tryd.prog 38 #[.pointer (some ⟨g, 0, none⟩), F] w (OneC w g A n c (if vOk (3, (y.toNat : Int), noS) = true then some (.agg #[.int .u8 3, .int .i64 (y.toNat : Int), .string noS], a + 1 + 1) else none)) := by
  have hnI : (n : Int) ≤ 140737488351232 := by omega
  have HG := hide (show w0.heap.size ≤ g ∧ g < w.heap.size from ⟨hg, hgw⟩)
  have HT := hide hT
  have HX := hide hx
  have KO := hide (one_any g A l n c a w0 (w.alloc (.cells #[.int .u8 0, .int .i64 0, .string ⟨#[]⟩] 26)) hr0 (hx.trans (Ext.alloc _ _)) hg hn hnc hl han (Rw.ext hR (Ext.alloc _ _)))
  have BZ := hide (Rw.new w 26 [.int .u8 0, .int .i64 0, .string ⟨#[]⟩])
  rw [h0] at KO
  have han1 : a + 1 ≤ n := by have h2 := (List.getElem?_eq_some_iff.1 h0).1; omega
  have HR0 := hide hr0
  have KO2 := hide (show Calls Tryd.prog 48 #[.pointer (some ⟨g, 0, none⟩)] (w.alloc (.cells #[.int .u8 0, .int .i64 0, .string ⟨#[]⟩] 26)) (OneC (w.alloc (.cells #[.int .u8 0, .int .i64 0, .string ⟨#[]⟩] 26)) g A n c (some (.int .u8 3, a + 1))) from by have h := KO.out; simp only [h1] at h; exact h)
  clear KO hR hr0 hx hg hgw
  go_enter Tryd.func38, Tryd.ntmps38
  go_upto_region 2 with (go_at_call 48; (with_reducible refine KO2.out.mono ?_); rintro e w2 ⟨hg2, rfl, hr2⟩; have G2 := hide hg2; have R2 := hide hr2)
  obtain ⟨W3, hX3, hV3, hgg⟩ : ∃ W, Ext w2 W ∧ Rw W w2.heap.size 26 [.int .u8 3, .int .i64 0, .string ⟨#[]⟩] ∧ w2.alloc (.cells #[.int .u8 3, .int .i64 0, .string ⟨#[]⟩] 26) = W := ⟨_, Ext.alloc _ _, Rw.new _ _ _, rfl⟩
  rw [hgg]
  obtain ⟨hv, HHV⟩ : ∃ h, Hid (w2.heap.size = h) := ⟨_, hide rfl⟩
  rw [HHV.out] at hV3 ⊢
  have Z2 := hide (show Rw w2 w.heap.size 26 [.int .u8 0, .int .i64 0, .string ⟨#[]⟩] from (G2.out.block w.heap.size BZ.out.lt (fun e => by injection e with e; have := HG.out.2; omega)).trans BZ.out)
  have V3 := hide hV3
  have Z3 := hide (Z2.out.ext hX3)
  have R3 := hide (Rw.ext R2.out hX3)
  have G3 := hide (show w.grownBy W3 (some g) from grown_ext ⟨G2.out.os, G2.out.tape, G2.out.output, Nat.le_trans (Ext.alloc w _).size G2.out.size, fun k hk hne => (G2.out.block k (Nat.lt_of_lt_of_le hk (Ext.alloc w _).size) hne).trans ((Ext.alloc w _).block k hk)⟩ hX3)
  have X03 := hide (show Ext w0 W3 from ⟨G3.out.os.trans HX.out.os, G3.out.tape.trans HX.out.tape, G3.out.output.trans HX.out.output, Nat.le_trans HX.out.size G3.out.size, fun j hj => (G3.out.block j (Nat.lt_of_lt_of_le hj HX.out.size) (fun e => by injection e with e; have := HG.out.1; omega)).trans (HX.out.block j hj)⟩)
  have HNE := hide (show g ≠ w.heap.size ∧ hv ≠ w.heap.size from ⟨by have := HG.out.2; omega, by have h1 := Z2.out.lt; have := HHV.out; omega⟩)
  have HNE2 := hide (show hv ≠ g from by have h1 := R2.out.lt; have := HHV.out; omega)
  have HNE3 := hide (show w.heap.size ≤ hv from by have h1 := Z2.out.lt; have := HHV.out; omega)
  clear hgg hX3 hV3 G2 R2 Z2 KO2
  have d0 := V3.out.cell (i := 0) rfl
  have f1 := V3.out.frozen 1
  have c1 := V3.out.cell (i := 1) rfl
  have KO3 := hide (one_any g A l n c (a + 1) w0 W3 HR0.out X03.out HG.out.1 hn hnc hl han1 R3.out)
  rw [hy] at KO3
  have hyl := y.toNat_lt
  have KO4 := hide (show Calls Tryd.prog 48 #[.pointer (some ⟨g, 0, none⟩)] W3 (OneC W3 g A n c (some (.int .u8 (y.toNat : Int), a + 1 + 1))) from KO3.out)
  have hwz : IntKind.i64.wrap (y.toNat : Int) = (y.toNat : Int) := by rw [IntKind.wrap_i64]; omega
  go_upto_region 9 with (go_at_call 48; (with_reducible refine KO4.out.mono ?_); rintro e w4 ⟨hg4, rfl, hr4⟩; have f1b := (show Rw w4 hv 26 [.int .u8 3, .int .i64 0, .string ⟨#[]⟩] from (hg4.block hv V3.out.lt (fun e => HNE2.out (by injection e))).trans V3.out).frozen 1; have c1b := (show Rw w4 hv 26 [.int .u8 3, .int .i64 0, .string ⟨#[]⟩] from (hg4.block hv V3.out.lt (fun e => HNE2.out (by injection e))).trans V3.out).cell (i := 1) rfl; have c0b := (show Rw w4 hv 26 [.int .u8 3, .int .i64 0, .string ⟨#[]⟩] from (hg4.block hv V3.out.lt (fun e => HNE2.out (by injection e))).trans V3.out).cell (i := 0) rfl; have G4a := hide (show w.grownBy w4 (some g) from ⟨hg4.os.trans G3.out.os, hg4.tape.trans G3.out.tape, hg4.output.trans G3.out.output, Nat.le_trans G3.out.size hg4.size, fun j hj hne => (hg4.block j (Nat.lt_of_lt_of_le hj G3.out.size) hne).trans (G3.out.block j hj hne)⟩); have V4a := hide (show Rw w4 hv 26 [.int .u8 3, .int .i64 0, .string ⟨#[]⟩] from (hg4.block hv V3.out.lt (fun e => HNE2.out (by injection e))).trans V3.out); have Z4a := hide (show Rw w4 w.heap.size 26 [.int .u8 0, .int .i64 0, .string ⟨#[]⟩] from (hg4.block w.heap.size Z3.out.lt (fun e => HNE.out.1 (by injection e with e; exact e.symm))).trans Z3.out); have R4a := hide (show Rw w4 g 62 [.slice A n c, .int .i64 ((a + 1 + 1 : Nat) : Int)] from hr4))
  obtain ⟨W5, hV5, hZ5, hR5, hG5, hgg⟩ : ∃ W, Rw W hv 26 [.int .u8 3, .int .i64 (y.toNat : Int), .string ⟨#[]⟩] ∧ Rw W w.heap.size 26 [.int .u8 0, .int .i64 0, .string ⟨#[]⟩] ∧ Rw W g 62 [.slice A n c, .int .i64 ((a + 1 + 1 : Nat) : Int)] ∧ w.grownBy W (some g) ∧ w4.setCell ⟨hv, 1, none⟩ (.int .i64 (y.toNat : Int)) = W := ⟨_, V4a.out.set 1 _, Z4a.out.far (p := ⟨hv, 1, none⟩) (fun e => HNE.out.2 e.symm) _, R4a.out.far (p := ⟨hv, 1, none⟩) (fun e => HNE2.out e.symm) _, grown_below G4a.out HNE3.out rfl, rfl⟩
  rw [hgg]
  have V5 := hide hV5
  have Z5 := hide hZ5
  have R5 := hide hR5
  have G5 := hide hG5
  have X05 := hide (show Ext w0 W5 from ⟨G5.out.os.trans HX.out.os, G5.out.tape.trans HX.out.tape, G5.out.output.trans HX.out.output, Nat.le_trans HX.out.size G5.out.size, fun j hj => (G5.out.block j (Nat.lt_of_lt_of_le hj HX.out.size) (fun e => by injection e with e; have := HG.out.1; omega)).trans (HX.out.block j hj)⟩)
  clear hgg hV5 hZ5 hR5 hG5 d0 f1 c1 f1b c1b c0b G4a V4a Z4a R4a
  have d0 := V5.out.cell (i := 0) rfl
  have d1 := V5.out.cell (i := 1) rfl
  have d2 := V5.out.cell (i := 2) rfl
  have KF := hide (form_any (3, (y.toNat : Int), noS) W5 ⟨⟨by simp only; omega, by simp only; omega⟩, ⟨by simp only; omega, by simp only; omega⟩, by show (0 : Nat) ≤ _; omega⟩ (HT.out.ext X05.out))
  cases hvo : vOk (3, (y.toNat : Int), noS) with
  | false =>
    rw [hvo] at KF
    have KM := hide (fun (W : World) => must_any false W)
    rw [if_neg (by decide)]
    unfold noS at KF
    go_wp2_with (first
      | (go_at_call 12; (with_reducible refine KF.out.mono ?_); rintro e w4 ⟨rfl, hx4⟩)
      | (go_at_call 49; (with_reducible refine (KM.out _).mono ?_); rintro e x ⟨rfl, hx5⟩; have hx5 := hx5.symm; subst hx5))
    exact ⟨rfl, grown_ext G5.out hx4, rfl⟩
  | true =>
    rw [hvo] at KF
    have KM := hide (fun (W : World) => must_any true W)
    rw [if_pos rfl]
    unfold noS at KF
    go_upto_region 10 with (first
      | (go_at_call 12; (with_reducible refine KF.out.mono ?_); rintro e w4 ⟨rfl, hx4⟩; have V4 := hide (V5.out.ext hx4); have Z4 := hide (Z5.out.ext hx4); have R4 := hide (R5.out.ext hx4); have G4 := hide (grown_ext G5.out hx4))
      | (go_at_call 49; (with_reducible refine (KM.out _).mono ?_); rintro e x ⟨rfl, hx5⟩; have hx5 := hx5.symm; subst hx5))
    clear d0 d1 d2
    have e0 := V4.out.cell (i := 0) rfl
    have e1 := V4.out.cell (i := 1) rfl
    have e2 := V4.out.cell (i := 2) rfl
    have f0 := Z4.out.cell (i := 0) rfl
    have f1 := Z4.out.cell (i := 1) rfl
    have f2 := Z4.out.cell (i := 2) rfl
    have g0 := Z4.out.frozen 0
    have g1 := Z4.out.frozen 1
    have g2 := Z4.out.frozen 2
    go_wp2
    have ZS := ((Z4.out.set 0 (.int .u8 3)).set 1 (.int .i64 (y.toNat : Int))).set 2 (.string ⟨#[]⟩)
    have RS := ((R4.out.far (p := ⟨w.heap.size, 0, none⟩) HNE.out.1 (.int .u8 3)).far (p := ⟨w.heap.size, 1, none⟩) HNE.out.1 (.int .i64 (y.toNat : Int))).far (p := ⟨w.heap.size, 2, none⟩) HNE.out.1 (.string ⟨#[]⟩)
    have GS := grown_below (grown_below (grown_below G4.out (Nat.le_refl _) (i := 0) (v := .int .u8 3) rfl) (Nat.le_refl _) (i := 1) (v := .int .i64 (y.toNat : Int)) rfl) (Nat.le_refl _) (i := 2) (v := .string ⟨#[]⟩) rfl
    obtain ⟨wz, hwz⟩ : ∃ wz, ((w4.setCell ⟨w.heap.size, 0, none⟩ (.int .u8 3)).setCell ⟨w.heap.size, 1, none⟩ (.int .i64 (y.toNat : Int))).setCell ⟨w.heap.size, 2, none⟩ (.string ⟨#[]⟩) = wz := ⟨_, rfl⟩
    rw [hwz] at ZS RS GS ⊢
    have y0 := ZS.cell (i := 0) rfl
    have y1 := ZS.cell (i := 1) rfl
    have y2 := ZS.cell (i := 2) rfl
    refine bodyPost_ret (v := .agg #[.int .u8 3, .int .i64 (y.toNat : Int), .string ⟨#[]⟩]) (by simp [results, Tryd.results38, go_sem, y0, y1, y2]; try rfl) rfl ?_
    exact ⟨GS, rfl, RS⟩
set_option maxRecDepth 20000 in
set_option maxHeartbeats 3200000 in
theorem value_int_no (g : Nat) (A : Option Addr) (l : List UInt8) (n c a : Nat) (F : Value) (w0 w : World) (hr0 : Rd w0 A l) (hx : Ext w0 w) (hg : w0.heap.size ≤ g) (hgw : g < w.heap.size) (hn : l.length = n) (hnc : n ≤ c) (hl : n ≤ 140737488351232) (han : a ≤ n) (hR : RdrC w g A n c a) (hT : Tabs w0) (x : UInt8) (h0 : l[a]? = some x) (h1 : x.toNat = 1) (hy : ¬ a + 1 + 8 ≤ n) :
    Calls Tryd.prog 38 #[.pointer (some ⟨g, 0, none⟩), F] w (OneC w g A n c none) := by
  have hnI : (n : Int) ≤ 140737488351232 := by omega
  have HG := hide (show w0.heap.size ≤ g ∧ g < w.heap.size from ⟨hg, hgw⟩)
  have HT := hide hT
  have HX := hide hx
  have KO := hide (one_any g A l n c a w0 (w.alloc (.cells #[.int .u8 0, .int .i64 0, .string ⟨#[]⟩] 26)) hr0 (hx.trans (Ext.alloc _ _)) hg hn hnc hl han (Rw.ext hR (Ext.alloc _ _)))
  have BZ := hide (Rw.new w 26 [.int .u8 0, .int .i64 0, .string ⟨#[]⟩])
  rw [h0] at KO
  have han1 : a + 1 ≤ n := by have h2 := (List.getElem?_eq_some_iff.1 h0).1; omega
  have HR0 := hide hr0
  have KO2 := hide (show Calls Tryd.prog 48 #[.pointer (some ⟨g, 0, none⟩)] (w.alloc (.cells #[.int .u8 0, .int .i64 0, .string ⟨#[]⟩] 26)) (OneC (w.alloc (.cells #[.int .u8 0, .int .i64 0, .string ⟨#[]⟩] 26)) g A n c (some (.int .u8 1, a + 1))) from by have h := KO.out; simp only [h1] at h; exact h)
  clear KO hR hr0 hx hg hgw
  go_enter Tryd.func38, Tryd.ntmps38
  go_upto_region 2 with (go_at_call 48; (with_reducible refine KO2.out.mono ?_); rintro e w2 ⟨hg2, rfl, hr2⟩; have G2 := hide hg2; have R2 := hide hr2)
  obtain ⟨W3, hX3, hV3, hgg⟩ : ∃ W, Ext w2 W ∧ Rw W w2.heap.size 26 [.int .u8 1, .int .i64 0, .string ⟨#[]⟩] ∧ w2.alloc (.cells #[.int .u8 1, .int .i64 0, .string ⟨#[]⟩] 26) = W := ⟨_, Ext.alloc _ _, Rw.new _ _ _, rfl⟩
  rw [hgg]
  obtain ⟨hv, HHV⟩ : ∃ h, Hid (w2.heap.size = h) := ⟨_, hide rfl⟩
  rw [HHV.out] at hV3 ⊢
  have Z2 := hide (show Rw w2 w.heap.size 26 [.int .u8 0, .int .i64 0, .string ⟨#[]⟩] from (G2.out.block w.heap.size BZ.out.lt (fun e => by injection e with e; have := HG.out.2; omega)).trans BZ.out)
  have V3 := hide hV3
  have Z3 := hide (Z2.out.ext hX3)
  have R3 := hide (Rw.ext R2.out hX3)
  have G3 := hide (show w.grownBy W3 (some g) from grown_ext ⟨G2.out.os, G2.out.tape, G2.out.output, Nat.le_trans (Ext.alloc w _).size G2.out.size, fun k hk hne => (G2.out.block k (Nat.lt_of_lt_of_le hk (Ext.alloc w _).size) hne).trans ((Ext.alloc w _).block k hk)⟩ hX3)
  have X03 := hide (show Ext w0 W3 from ⟨G3.out.os.trans HX.out.os, G3.out.tape.trans HX.out.tape, G3.out.output.trans HX.out.output, Nat.le_trans HX.out.size G3.out.size, fun j hj => (G3.out.block j (Nat.lt_of_lt_of_le hj HX.out.size) (fun e => by injection e with e; have := HG.out.1; omega)).trans (HX.out.block j hj)⟩)
  have HNE := hide (show g ≠ w.heap.size ∧ hv ≠ w.heap.size from ⟨by have := HG.out.2; omega, by have h1 := Z2.out.lt; have := HHV.out; omega⟩)
  have HNE2 := hide (show hv ≠ g from by have h1 := R2.out.lt; have := HHV.out; omega)
  clear hgg hX3 hV3 G2 R2 Z2 KO2
  have d0 := V3.out.cell (i := 0) rfl
  have f1 := V3.out.frozen 1
  have c1 := V3.out.cell (i := 1) rfl
  have KO3 := hide (number_any g A l n c (a + 1) w0 W3 HR0.out X03.out hn hnc hl han1 R3.out)
  rw [if_neg hy] at KO3
  have KO4 := KO3
  go_wp2_with (go_at_call 53; (with_reducible refine KO4.out.mono ?_); rintro e w4 ⟨hg4, rfl⟩)
  exact ⟨rfl, ⟨hg4.os.trans G3.out.os, hg4.tape.trans G3.out.tape, hg4.output.trans G3.out.output, Nat.le_trans G3.out.size hg4.size, fun j hj hne => (hg4.block j (Nat.lt_of_lt_of_le hj G3.out.size) hne).trans (G3.out.block j hj hne)⟩, rfl⟩
set_option maxRecDepth 20000 in
set_option maxHeartbeats 3200000 in
theorem value_int (g : Nat) (A : Option Addr) (l : List UInt8) (n c a : Nat) (F : Value) (w0 w : World) (hr0 : Rd w0 A l) (hx : Ext w0 w) (hg : w0.heap.size ≤ g) (hgw : g < w.heap.size) (hn : l.length = n) (hnc : n ≤ c) (hl : n ≤ 140737488351232) (han : a ≤ n) (hR : RdrC w g A n c a) (hT : Tabs w0) (x : UInt8) (h0 : l[a]? = some x) (h1 : x.toNat = 1) (v : Int) (hy : a + 1 + 8 ≤ n ∧ numAt l (a + 1) = v ∧ -9223372036854775808 ≤ v ∧ v < 9223372036854775808) :
    Calls Tryd.prog 38 #[.pointer (some ⟨g, 0, none⟩), F] w (OneC w g A n c (if vOk (1, v, noS) = true then some (.agg #[.int .u8 1, .int .i64 v, .string noS], a + 1 + 8) else none)) := by
  have hnI : (n : Int) ≤ 140737488351232 := by omega
  have HG := hide (show w0.heap.size ≤ g ∧ g < w.heap.size from ⟨hg, hgw⟩)
  have HT := hide hT
  have HX := hide hx
  have KO := hide (one_any g A l n c a w0 (w.alloc (.cells #[.int .u8 0, .int .i64 0, .string ⟨#[]⟩] 26)) hr0 (hx.trans (Ext.alloc _ _)) hg hn hnc hl han (Rw.ext hR (Ext.alloc _ _)))
  have BZ := hide (Rw.new w 26 [.int .u8 0, .int .i64 0, .string ⟨#[]⟩])
  rw [h0] at KO
  have han1 : a + 1 ≤ n := by have h2 := (List.getElem?_eq_some_iff.1 h0).1; omega
  have HR0 := hide hr0
  have KO2 := hide (show Calls Tryd.prog 48 #[.pointer (some ⟨g, 0, none⟩)] (w.alloc (.cells #[.int .u8 0, .int .i64 0, .string ⟨#[]⟩] 26)) (OneC (w.alloc (.cells #[.int .u8 0, .int .i64 0, .string ⟨#[]⟩] 26)) g A n c (some (.int .u8 1, a + 1))) from by have h := KO.out; simp only [h1] at h; exact h)
  clear KO hR hr0 hx hg hgw
  go_enter Tryd.func38, Tryd.ntmps38
  go_upto_region 2 with (go_at_call 48; (with_reducible refine KO2.out.mono ?_); rintro e w2 ⟨hg2, rfl, hr2⟩; have G2 := hide hg2; have R2 := hide hr2)
  obtain ⟨W3, hX3, hV3, hgg⟩ : ∃ W, Ext w2 W ∧ Rw W w2.heap.size 26 [.int .u8 1, .int .i64 0, .string ⟨#[]⟩] ∧ w2.alloc (.cells #[.int .u8 1, .int .i64 0, .string ⟨#[]⟩] 26) = W := ⟨_, Ext.alloc _ _, Rw.new _ _ _, rfl⟩
  rw [hgg]
  obtain ⟨hv, HHV⟩ : ∃ h, Hid (w2.heap.size = h) := ⟨_, hide rfl⟩
  rw [HHV.out] at hV3 ⊢
  have Z2 := hide (show Rw w2 w.heap.size 26 [.int .u8 0, .int .i64 0, .string ⟨#[]⟩] from (G2.out.block w.heap.size BZ.out.lt (fun e => by injection e with e; have := HG.out.2; omega)).trans BZ.out)
  have V3 := hide hV3
  have Z3 := hide (Z2.out.ext hX3)
  have R3 := hide (Rw.ext R2.out hX3)
  have G3 := hide (show w.grownBy W3 (some g) from grown_ext ⟨G2.out.os, G2.out.tape, G2.out.output, Nat.le_trans (Ext.alloc w _).size G2.out.size, fun k hk hne => (G2.out.block k (Nat.lt_of_lt_of_le hk (Ext.alloc w _).size) hne).trans ((Ext.alloc w _).block k hk)⟩ hX3)
  have X03 := hide (show Ext w0 W3 from ⟨G3.out.os.trans HX.out.os, G3.out.tape.trans HX.out.tape, G3.out.output.trans HX.out.output, Nat.le_trans HX.out.size G3.out.size, fun j hj => (G3.out.block j (Nat.lt_of_lt_of_le hj HX.out.size) (fun e => by injection e with e; have := HG.out.1; omega)).trans (HX.out.block j hj)⟩)
  have HNE := hide (show g ≠ w.heap.size ∧ hv ≠ w.heap.size from ⟨by have := HG.out.2; omega, by have h1 := Z2.out.lt; have := HHV.out; omega⟩)
  have HNE2 := hide (show hv ≠ g from by have h1 := R2.out.lt; have := HHV.out; omega)
  have HNE3 := hide (show w.heap.size ≤ hv from by have h1 := Z2.out.lt; have := HHV.out; omega)
  clear hgg hX3 hV3 G2 R2 Z2 KO2
  have d0 := V3.out.cell (i := 0) rfl
  have f1 := V3.out.frozen 1
  have c1 := V3.out.cell (i := 1) rfl
  have KO3 := hide (number_any g A l n c (a + 1) w0 W3 HR0.out X03.out hn hnc hl han1 R3.out)
  rw [if_pos hy.1, hy.2.1] at KO3
  have KO4 := KO3
  have hvl := hy.2.2
  go_upto_region 9 with (go_at_call 53; (with_reducible refine KO4.out.mono ?_); rintro e w4 ⟨hg4, rfl, hr4⟩; have f1b := (show Rw w4 hv 26 [.int .u8 1, .int .i64 0, .string ⟨#[]⟩] from (hg4.block hv V3.out.lt (fun e => HNE2.out (by injection e))).trans V3.out).frozen 1; have c1b := (show Rw w4 hv 26 [.int .u8 1, .int .i64 0, .string ⟨#[]⟩] from (hg4.block hv V3.out.lt (fun e => HNE2.out (by injection e))).trans V3.out).cell (i := 1) rfl; have c0b := (show Rw w4 hv 26 [.int .u8 1, .int .i64 0, .string ⟨#[]⟩] from (hg4.block hv V3.out.lt (fun e => HNE2.out (by injection e))).trans V3.out).cell (i := 0) rfl; have G4a := hide (show w.grownBy w4 (some g) from ⟨hg4.os.trans G3.out.os, hg4.tape.trans G3.out.tape, hg4.output.trans G3.out.output, Nat.le_trans G3.out.size hg4.size, fun j hj hne => (hg4.block j (Nat.lt_of_lt_of_le hj G3.out.size) hne).trans (G3.out.block j hj hne)⟩); have V4a := hide (show Rw w4 hv 26 [.int .u8 1, .int .i64 0, .string ⟨#[]⟩] from (hg4.block hv V3.out.lt (fun e => HNE2.out (by injection e))).trans V3.out); have Z4a := hide (show Rw w4 w.heap.size 26 [.int .u8 0, .int .i64 0, .string ⟨#[]⟩] from (hg4.block w.heap.size Z3.out.lt (fun e => HNE.out.1 (by injection e with e; exact e.symm))).trans Z3.out); have R4a := hide (show Rw w4 g 62 [.slice A n c, .int .i64 ((a + 1 + 8 : Nat) : Int)] from hr4))
  obtain ⟨W5, hV5, hZ5, hR5, hG5, hgg⟩ : ∃ W, Rw W hv 26 [.int .u8 1, .int .i64 v, .string ⟨#[]⟩] ∧ Rw W w.heap.size 26 [.int .u8 0, .int .i64 0, .string ⟨#[]⟩] ∧ Rw W g 62 [.slice A n c, .int .i64 ((a + 1 + 8 : Nat) : Int)] ∧ w.grownBy W (some g) ∧ w4.setCell ⟨hv, 1, none⟩ (.int .i64 v) = W := ⟨_, V4a.out.set 1 _, Z4a.out.far (p := ⟨hv, 1, none⟩) (fun e => HNE.out.2 e.symm) _, R4a.out.far (p := ⟨hv, 1, none⟩) (fun e => HNE2.out e.symm) _, grown_below G4a.out HNE3.out rfl, rfl⟩
  rw [hgg]
  have V5 := hide hV5
  have Z5 := hide hZ5
  have R5 := hide hR5
  have G5 := hide hG5
  have X05 := hide (show Ext w0 W5 from ⟨G5.out.os.trans HX.out.os, G5.out.tape.trans HX.out.tape, G5.out.output.trans HX.out.output, Nat.le_trans HX.out.size G5.out.size, fun j hj => (G5.out.block j (Nat.lt_of_lt_of_le hj HX.out.size) (fun e => by injection e with e; have := HG.out.1; omega)).trans (HX.out.block j hj)⟩)
  clear hgg hV5 hZ5 hR5 hG5 d0 f1 c1 f1b c1b c0b G4a V4a Z4a R4a
  have d0 := V5.out.cell (i := 0) rfl
  have d1 := V5.out.cell (i := 1) rfl
  have d2 := V5.out.cell (i := 2) rfl
  have KF := hide (form_any (1, v, noS) W5 ⟨⟨by simp only; omega, by simp only; omega⟩, ⟨by simp only; omega, by simp only; omega⟩, by show (0 : Nat) ≤ _; omega⟩ (HT.out.ext X05.out))
  cases hvo : vOk (1, v, noS) with
  | false =>
    rw [hvo] at KF
    have KM := hide (fun (W : World) => must_any false W)
    rw [if_neg (by decide)]
    unfold noS at KF
    go_wp2_with (first
      | (go_at_call 12; (with_reducible refine KF.out.mono ?_); rintro e w4 ⟨rfl, hx4⟩)
      | (go_at_call 49; (with_reducible refine (KM.out _).mono ?_); rintro e x ⟨rfl, hx5⟩; have hx5 := hx5.symm; subst hx5))
    exact ⟨rfl, grown_ext G5.out hx4, rfl⟩
  | true =>
    rw [hvo] at KF
    have KM := hide (fun (W : World) => must_any true W)
    rw [if_pos rfl]
    unfold noS at KF
    go_upto_region 10 with (first
      | (go_at_call 12; (with_reducible refine KF.out.mono ?_); rintro e w4 ⟨rfl, hx4⟩; have V4 := hide (V5.out.ext hx4); have Z4 := hide (Z5.out.ext hx4); have R4 := hide (R5.out.ext hx4); have G4 := hide (grown_ext G5.out hx4))
      | (go_at_call 49; (with_reducible refine (KM.out _).mono ?_); rintro e x ⟨rfl, hx5⟩; have hx5 := hx5.symm; subst hx5))
    clear d0 d1 d2
    have e0 := V4.out.cell (i := 0) rfl
    have e1 := V4.out.cell (i := 1) rfl
    have e2 := V4.out.cell (i := 2) rfl
    have f0 := Z4.out.cell (i := 0) rfl
    have f1 := Z4.out.cell (i := 1) rfl
    have f2 := Z4.out.cell (i := 2) rfl
    have g0 := Z4.out.frozen 0
    have g1 := Z4.out.frozen 1
    have g2 := Z4.out.frozen 2
    go_wp2
    have ZS := ((Z4.out.set 0 (.int .u8 1)).set 1 (.int .i64 v)).set 2 (.string ⟨#[]⟩)
    have RS := ((R4.out.far (p := ⟨w.heap.size, 0, none⟩) HNE.out.1 (.int .u8 1)).far (p := ⟨w.heap.size, 1, none⟩) HNE.out.1 (.int .i64 v)).far (p := ⟨w.heap.size, 2, none⟩) HNE.out.1 (.string ⟨#[]⟩)
    have GS := grown_below (grown_below (grown_below G4.out (Nat.le_refl _) (i := 0) (v := .int .u8 1) rfl) (Nat.le_refl _) (i := 1) (v := .int .i64 v) rfl) (Nat.le_refl _) (i := 2) (v := .string ⟨#[]⟩) rfl
    obtain ⟨wz, hwz⟩ : ∃ wz, ((w4.setCell ⟨w.heap.size, 0, none⟩ (.int .u8 1)).setCell ⟨w.heap.size, 1, none⟩ (.int .i64 v)).setCell ⟨w.heap.size, 2, none⟩ (.string ⟨#[]⟩) = wz := ⟨_, rfl⟩
    rw [hwz] at ZS RS GS ⊢
    have y0 := ZS.cell (i := 0) rfl
    have y1 := ZS.cell (i := 1) rfl
    have y2 := ZS.cell (i := 2) rfl
    refine bodyPost_ret (v := .agg #[.int .u8 1, .int .i64 v, .string ⟨#[]⟩]) (by simp [results, Tryd.results38, go_sem, y0, y1, y2]; try rfl) rfl ?_
    exact ⟨GS, rfl, RS⟩
set_option maxRecDepth 20000 in
set_option maxHeartbeats 3200000 in
theorem value_row_no (g : Nat) (A : Option Addr) (l : List UInt8) (n c a : Nat) (w0 w : World) (hr0 : Rd w0 A l) (hx : Ext w0 w) (hg : w0.heap.size ≤ g) (hgw : g < w.heap.size) (hn : l.length = n) (hnc : n ≤ c) (hl : n ≤ 140737488351232) (han : a ≤ n) (hR : RdrC w g A n c a) (hT : Tabs w0) (x : UInt8) (h0 : l[a]? = some x) (h1 : x.toNat = 2) (KT : ∀ W, Ext w0 W → RdrC W g A n c (a + 1) → Calls Tryd.prog 50 #[.pointer (some ⟨g, 0, none⟩)] W (OneC W g A n c none)) :
    Calls Tryd.prog 38 #[.pointer (some ⟨g, 0, none⟩), .func (.func 50) #[.pointer (some ⟨g, 0, none⟩)] #[]] w (OneC w g A n c none) := by
  have hnI : (n : Int) ≤ 140737488351232 := by omega
  have HG := hide (show w0.heap.size ≤ g ∧ g < w.heap.size from ⟨hg, hgw⟩)
  have HT := hide hT
  have HX := hide hx
  have KO := hide (one_any g A l n c a w0 (w.alloc (.cells #[.int .u8 0, .int .i64 0, .string ⟨#[]⟩] 26)) hr0 (hx.trans (Ext.alloc _ _)) hg hn hnc hl han (Rw.ext hR (Ext.alloc _ _)))
  have BZ := hide (Rw.new w 26 [.int .u8 0, .int .i64 0, .string ⟨#[]⟩])
  rw [h0] at KO
  have han1 : a + 1 ≤ n := by have h2 := (List.getElem?_eq_some_iff.1 h0).1; omega
  have HR0 := hide hr0
  have KO2 := hide (show Calls Tryd.prog 48 #[.pointer (some ⟨g, 0, none⟩)] (w.alloc (.cells #[.int .u8 0, .int .i64 0, .string ⟨#[]⟩] 26)) (OneC (w.alloc (.cells #[.int .u8 0, .int .i64 0, .string ⟨#[]⟩] 26)) g A n c (some (.int .u8 2, a + 1))) from by have h := KO.out; simp only [h1] at h; exact h)
  clear KO hR hr0 hx hg hgw
  go_enter Tryd.func38, Tryd.ntmps38
  go_upto_region 2 with (go_at_call 48; (with_reducible refine KO2.out.mono ?_); rintro e w2 ⟨hg2, rfl, hr2⟩; have G2 := hide hg2; have R2 := hide hr2)
  obtain ⟨W3, hX3, hV3, hgg⟩ : ∃ W, Ext w2 W ∧ Rw W w2.heap.size 26 [.int .u8 2, .int .i64 0, .string ⟨#[]⟩] ∧ w2.alloc (.cells #[.int .u8 2, .int .i64 0, .string ⟨#[]⟩] 26) = W := ⟨_, Ext.alloc _ _, Rw.new _ _ _, rfl⟩
  rw [hgg]
  obtain ⟨hv, HHV⟩ : ∃ h, Hid (w2.heap.size = h) := ⟨_, hide rfl⟩
  rw [HHV.out] at hV3 ⊢
  have Z2 := hide (show Rw w2 w.heap.size 26 [.int .u8 0, .int .i64 0, .string ⟨#[]⟩] from (G2.out.block w.heap.size BZ.out.lt (fun e => by injection e with e; have := HG.out.2; omega)).trans BZ.out)
  have V3 := hide hV3
  have Z3 := hide (Z2.out.ext hX3)
  have R3 := hide (Rw.ext R2.out hX3)
  have G3 := hide (show w.grownBy W3 (some g) from grown_ext ⟨G2.out.os, G2.out.tape, G2.out.output, Nat.le_trans (Ext.alloc w _).size G2.out.size, fun k hk hne => (G2.out.block k (Nat.lt_of_lt_of_le hk (Ext.alloc w _).size) hne).trans ((Ext.alloc w _).block k hk)⟩ hX3)
  have X03 := hide (show Ext w0 W3 from ⟨G3.out.os.trans HX.out.os, G3.out.tape.trans HX.out.tape, G3.out.output.trans HX.out.output, Nat.le_trans HX.out.size G3.out.size, fun j hj => (G3.out.block j (Nat.lt_of_lt_of_le hj HX.out.size) (fun e => by injection e with e; have := HG.out.1; omega)).trans (HX.out.block j hj)⟩)
  have HNE := hide (show g ≠ w.heap.size ∧ hv ≠ w.heap.size from ⟨by have := HG.out.2; omega, by have h1 := Z2.out.lt; have := HHV.out; omega⟩)
  have HNE2 := hide (show hv ≠ g from by have h1 := R2.out.lt; have := HHV.out; omega)
  clear hgg hX3 hV3 G2 R2 Z2 KO2
  have d0 := V3.out.cell (i := 0) rfl
  have f1 := V3.out.frozen 1
  have c1 := V3.out.cell (i := 1) rfl
  have KO4 := hide (KT W3 X03.out R3.out)
  go_wp2_with (go_at_call 50; (with_reducible refine KO4.out.mono ?_); rintro e w4 ⟨hg4, rfl⟩)
  exact ⟨rfl, ⟨hg4.os.trans G3.out.os, hg4.tape.trans G3.out.tape, hg4.output.trans G3.out.output, Nat.le_trans G3.out.size hg4.size, fun j hj hne => (hg4.block j (Nat.lt_of_lt_of_le hj G3.out.size) hne).trans (G3.out.block j hj hne)⟩, rfl⟩
set_option maxRecDepth 20000 in
set_option maxHeartbeats 3200000 in
theorem value_row (g : Nat) (A : Option Addr) (l : List UInt8) (n c a : Nat) (w0 w : World) (hr0 : Rd w0 A l) (hx : Ext w0 w) (hg : w0.heap.size ≤ g) (hgw : g < w.heap.size) (hn : l.length = n) (hnc : n ≤ c) (hl : n ≤ 140737488351232) (han : a ≤ n) (hR : RdrC w g A n c a) (hT : Tabs w0) (x : UInt8) (h0 : l[a]? = some x) (h1 : x.toNat = 2) (tx : List UInt8) (p : Nat) (htx : tx.length ≤ 140737488351232) (KT : ∀ W, Ext w0 W → RdrC W g A n c (a + 1) → Calls Tryd.prog 50 #[.pointer (some ⟨g, 0, none⟩)] W (OneC W g A n c (some (.string ⟨tx.toArray⟩, p)))) :
    Calls Tryd.prog 38 #[.pointer (some ⟨g, 0, none⟩), .func (.func 50) #[.pointer (some ⟨g, 0, none⟩)] #[]] w (OneC w g A n c (if vOk (2, 0, ⟨tx.toArray⟩) = true then some (.agg #[.int .u8 2, .int .i64 0, .string ⟨tx.toArray⟩], p) else none)) := by
  have hnI : (n : Int) ≤ 140737488351232 := by omega
  have HG := hide (show w0.heap.size ≤ g ∧ g < w.heap.size from ⟨hg, hgw⟩)
  have HT := hide hT
  have HX := hide hx
  have KO := hide (one_any g A l n c a w0 (w.alloc (.cells #[.int .u8 0, .int .i64 0, .string ⟨#[]⟩] 26)) hr0 (hx.trans (Ext.alloc _ _)) hg hn hnc hl han (Rw.ext hR (Ext.alloc _ _)))
  have BZ := hide (Rw.new w 26 [.int .u8 0, .int .i64 0, .string ⟨#[]⟩])
  rw [h0] at KO
  have han1 : a + 1 ≤ n := by have h2 := (List.getElem?_eq_some_iff.1 h0).1; omega
  have HR0 := hide hr0
  have KO2 := hide (show Calls Tryd.prog 48 #[.pointer (some ⟨g, 0, none⟩)] (w.alloc (.cells #[.int .u8 0, .int .i64 0, .string ⟨#[]⟩] 26)) (OneC (w.alloc (.cells #[.int .u8 0, .int .i64 0, .string ⟨#[]⟩] 26)) g A n c (some (.int .u8 2, a + 1))) from by have h := KO.out; simp only [h1] at h; exact h)
  clear KO hR hr0 hx hg hgw
  go_enter Tryd.func38, Tryd.ntmps38
  go_upto_region 2 with (go_at_call 48; (with_reducible refine KO2.out.mono ?_); rintro e w2 ⟨hg2, rfl, hr2⟩; have G2 := hide hg2; have R2 := hide hr2)
  obtain ⟨W3, hX3, hV3, hgg⟩ : ∃ W, Ext w2 W ∧ Rw W w2.heap.size 26 [.int .u8 2, .int .i64 0, .string ⟨#[]⟩] ∧ w2.alloc (.cells #[.int .u8 2, .int .i64 0, .string ⟨#[]⟩] 26) = W := ⟨_, Ext.alloc _ _, Rw.new _ _ _, rfl⟩
  rw [hgg]
  obtain ⟨hv, HHV⟩ : ∃ h, Hid (w2.heap.size = h) := ⟨_, hide rfl⟩
  rw [HHV.out] at hV3 ⊢
  have Z2 := hide (show Rw w2 w.heap.size 26 [.int .u8 0, .int .i64 0, .string ⟨#[]⟩] from (G2.out.block w.heap.size BZ.out.lt (fun e => by injection e with e; have := HG.out.2; omega)).trans BZ.out)
  have V3 := hide hV3
  have Z3 := hide (Z2.out.ext hX3)
  have R3 := hide (Rw.ext R2.out hX3)
  have G3 := hide (show w.grownBy W3 (some g) from grown_ext ⟨G2.out.os, G2.out.tape, G2.out.output, Nat.le_trans (Ext.alloc w _).size G2.out.size, fun k hk hne => (G2.out.block k (Nat.lt_of_lt_of_le hk (Ext.alloc w _).size) hne).trans ((Ext.alloc w _).block k hk)⟩ hX3)
  have X03 := hide (show Ext w0 W3 from ⟨G3.out.os.trans HX.out.os, G3.out.tape.trans HX.out.tape, G3.out.output.trans HX.out.output, Nat.le_trans HX.out.size G3.out.size, fun j hj => (G3.out.block j (Nat.lt_of_lt_of_le hj HX.out.size) (fun e => by injection e with e; have := HG.out.1; omega)).trans (HX.out.block j hj)⟩)
  have HNE := hide (show g ≠ w.heap.size ∧ hv ≠ w.heap.size from ⟨by have := HG.out.2; omega, by have h1 := Z2.out.lt; have := HHV.out; omega⟩)
  have HNE2 := hide (show hv ≠ g from by have h1 := R2.out.lt; have := HHV.out; omega)
  have HNE3 := hide (show w.heap.size ≤ hv from by have h1 := Z2.out.lt; have := HHV.out; omega)
  clear hgg hX3 hV3 G2 R2 Z2 KO2
  have d0 := V3.out.cell (i := 0) rfl
  have f1 := V3.out.frozen 2
  have c1 := V3.out.cell (i := 2) rfl
  have KO4 := hide (KT W3 X03.out R3.out)
  go_upto_region 9 with (go_at_call 50; (with_reducible refine KO4.out.mono ?_); rintro e w4 ⟨hg4, rfl, hr4⟩; have f1b := (show Rw w4 hv 26 [.int .u8 2, .int .i64 0, .string ⟨#[]⟩] from (hg4.block hv V3.out.lt (fun e => HNE2.out (by injection e))).trans V3.out).frozen 2; have c1b := (show Rw w4 hv 26 [.int .u8 2, .int .i64 0, .string ⟨#[]⟩] from (hg4.block hv V3.out.lt (fun e => HNE2.out (by injection e))).trans V3.out).cell (i := 2) rfl; have c0b := (show Rw w4 hv 26 [.int .u8 2, .int .i64 0, .string ⟨#[]⟩] from (hg4.block hv V3.out.lt (fun e => HNE2.out (by injection e))).trans V3.out).cell (i := 0) rfl; have G4a := hide (show w.grownBy w4 (some g) from ⟨hg4.os.trans G3.out.os, hg4.tape.trans G3.out.tape, hg4.output.trans G3.out.output, Nat.le_trans G3.out.size hg4.size, fun j hj hne => (hg4.block j (Nat.lt_of_lt_of_le hj G3.out.size) hne).trans (G3.out.block j hj hne)⟩); have V4a := hide (show Rw w4 hv 26 [.int .u8 2, .int .i64 0, .string ⟨#[]⟩] from (hg4.block hv V3.out.lt (fun e => HNE2.out (by injection e))).trans V3.out); have Z4a := hide (show Rw w4 w.heap.size 26 [.int .u8 0, .int .i64 0, .string ⟨#[]⟩] from (hg4.block w.heap.size Z3.out.lt (fun e => HNE.out.1 (by injection e with e; exact e.symm))).trans Z3.out); have R4a := hide (show Rw w4 g 62 [.slice A n c, .int .i64 ((p : Nat) : Int)] from hr4))
  obtain ⟨W5, hV5, hZ5, hR5, hG5, hgg⟩ : ∃ W, Rw W hv 26 [.int .u8 2, .int .i64 0, .string ⟨tx.toArray⟩] ∧ Rw W w.heap.size 26 [.int .u8 0, .int .i64 0, .string ⟨#[]⟩] ∧ Rw W g 62 [.slice A n c, .int .i64 ((p : Nat) : Int)] ∧ w.grownBy W (some g) ∧ w4.setCell ⟨hv, 2, none⟩ (.string ⟨tx.toArray⟩) = W := ⟨_, V4a.out.set 2 _, Z4a.out.far (p := ⟨hv, 2, none⟩) (fun e => HNE.out.2 e.symm) _, R4a.out.far (p := ⟨hv, 2, none⟩) (fun e => HNE2.out e.symm) _, grown_below G4a.out HNE3.out rfl, rfl⟩
  rw [hgg]
  have V5 := hide hV5
  have Z5 := hide hZ5
  have R5 := hide hR5
  have G5 := hide hG5
  have X05 := hide (show Ext w0 W5 from ⟨G5.out.os.trans HX.out.os, G5.out.tape.trans HX.out.tape, G5.out.output.trans HX.out.output, Nat.le_trans HX.out.size G5.out.size, fun j hj => (G5.out.block j (Nat.lt_of_lt_of_le hj HX.out.size) (fun e => by injection e with e; have := HG.out.1; omega)).trans (HX.out.block j hj)⟩)
  clear hgg hV5 hZ5 hR5 hG5 d0 f1 c1 f1b c1b c0b G4a V4a Z4a R4a
  have d0 := V5.out.cell (i := 0) rfl
  have d1 := V5.out.cell (i := 1) rfl
  have d2 := V5.out.cell (i := 2) rfl
  have KF := hide (form_any (2, 0, ⟨tx.toArray⟩) W5 ⟨⟨by simp only; omega, by simp only; omega⟩, ⟨by simp only; omega, by simp only; omega⟩, by show tx.toArray.size ≤ _; rw [List.size_toArray]; omega⟩ (HT.out.ext X05.out))
  cases hvo : vOk (2, 0, ⟨tx.toArray⟩) with
  | false =>
    rw [hvo] at KF
    have KM := hide (fun (W : World) => must_any false W)
    rw [if_neg (by decide)]
    go_wp2_with (first
      | (go_at_call 12; (with_reducible refine KF.out.mono ?_); rintro e w4 ⟨rfl, hx4⟩)
      | (go_at_call 49; (with_reducible refine (KM.out _).mono ?_); rintro e x ⟨rfl, hx5⟩; have hx5 := hx5.symm; subst hx5))
    exact ⟨rfl, grown_ext G5.out hx4, rfl⟩
  | true =>
    rw [hvo] at KF
    have KM := hide (fun (W : World) => must_any true W)
    rw [if_pos rfl]
    go_upto_region 10 with (first
      | (go_at_call 12; (with_reducible refine KF.out.mono ?_); rintro e w4 ⟨rfl, hx4⟩; have V4 := hide (V5.out.ext hx4); have Z4 := hide (Z5.out.ext hx4); have R4 := hide (R5.out.ext hx4); have G4 := hide (grown_ext G5.out hx4))
      | (go_at_call 49; (with_reducible refine (KM.out _).mono ?_); rintro e x ⟨rfl, hx5⟩; have hx5 := hx5.symm; subst hx5))
    clear d0 d1 d2
    have e0 := V4.out.cell (i := 0) rfl
    have e1 := V4.out.cell (i := 1) rfl
    have e2 := V4.out.cell (i := 2) rfl
    have f0 := Z4.out.cell (i := 0) rfl
    have f1 := Z4.out.cell (i := 1) rfl
    have f2 := Z4.out.cell (i := 2) rfl
    have g0 := Z4.out.frozen 0
    have g1 := Z4.out.frozen 1
    have g2 := Z4.out.frozen 2
    go_wp2
    have ZS := ((Z4.out.set 0 (.int .u8 2)).set 1 (.int .i64 0)).set 2 (.string ⟨tx.toArray⟩)
    have RS := ((R4.out.far (p := ⟨w.heap.size, 0, none⟩) HNE.out.1 (.int .u8 2)).far (p := ⟨w.heap.size, 1, none⟩) HNE.out.1 (.int .i64 0)).far (p := ⟨w.heap.size, 2, none⟩) HNE.out.1 (.string ⟨tx.toArray⟩)
    have GS := grown_below (grown_below (grown_below G4.out (Nat.le_refl _) (i := 0) (v := .int .u8 2) rfl) (Nat.le_refl _) (i := 1) (v := .int .i64 0) rfl) (Nat.le_refl _) (i := 2) (v := .string ⟨tx.toArray⟩) rfl
    obtain ⟨wz, hwz⟩ : ∃ wz, ((w4.setCell ⟨w.heap.size, 0, none⟩ (.int .u8 2)).setCell ⟨w.heap.size, 1, none⟩ (.int .i64 0)).setCell ⟨w.heap.size, 2, none⟩ (.string ⟨tx.toArray⟩) = wz := ⟨_, rfl⟩
    rw [hwz] at ZS RS GS ⊢
    have y0 := ZS.cell (i := 0) rfl
    have y1 := ZS.cell (i := 1) rfl
    have y2 := ZS.cell (i := 2) rfl
    refine bodyPost_ret (v := .agg #[.int .u8 2, .int .i64 0, .string ⟨tx.toArray⟩]) (by simp [results, Tryd.results38, go_sem, y0, y1, y2]; try rfl) rfl ?_
    exact ⟨GS, rfl, RS⟩
set_option maxRecDepth 20000 in
set_option maxHeartbeats 3200000 in
theorem value_key_no (g : Nat) (A : Option Addr) (l : List UInt8) (n c a : Nat) (w0 w : World) (hr0 : Rd w0 A l) (hx : Ext w0 w) (hg : w0.heap.size ≤ g) (hgw : g < w.heap.size) (hn : l.length = n) (hnc : n ≤ c) (hl : n ≤ 140737488351232) (han : a ≤ n) (hR : RdrC w g A n c a) (hT : Tabs w0) (x : UInt8) (h0 : l[a]? = some x) (h1 : x.toNat = 2) (KT : ∀ W, Ext w0 W → RdrC W g A n c (a + 1) → Calls Tryd.prog 39 #[.pointer (some ⟨g, 0, none⟩)] W (OneC W g A n c none)) :
    Calls Tryd.prog 38 #[.pointer (some ⟨g, 0, none⟩), .func (.func 39) #[.pointer (some ⟨g, 0, none⟩)] #[]] w (OneC w g A n c none) := by
  have hnI : (n : Int) ≤ 140737488351232 := by omega
  have HG := hide (show w0.heap.size ≤ g ∧ g < w.heap.size from ⟨hg, hgw⟩)
  have HT := hide hT
  have HX := hide hx
  have KO := hide (one_any g A l n c a w0 (w.alloc (.cells #[.int .u8 0, .int .i64 0, .string ⟨#[]⟩] 26)) hr0 (hx.trans (Ext.alloc _ _)) hg hn hnc hl han (Rw.ext hR (Ext.alloc _ _)))
  have BZ := hide (Rw.new w 26 [.int .u8 0, .int .i64 0, .string ⟨#[]⟩])
  rw [h0] at KO
  have han1 : a + 1 ≤ n := by have h2 := (List.getElem?_eq_some_iff.1 h0).1; omega
  have HR0 := hide hr0
  have KO2 := hide (show Calls Tryd.prog 48 #[.pointer (some ⟨g, 0, none⟩)] (w.alloc (.cells #[.int .u8 0, .int .i64 0, .string ⟨#[]⟩] 26)) (OneC (w.alloc (.cells #[.int .u8 0, .int .i64 0, .string ⟨#[]⟩] 26)) g A n c (some (.int .u8 2, a + 1))) from by have h := KO.out; simp only [h1] at h; exact h)
  clear KO hR hr0 hx hg hgw
  go_enter Tryd.func38, Tryd.ntmps38
  go_upto_region 2 with (go_at_call 48; (with_reducible refine KO2.out.mono ?_); rintro e w2 ⟨hg2, rfl, hr2⟩; have G2 := hide hg2; have R2 := hide hr2)
  obtain ⟨W3, hX3, hV3, hgg⟩ : ∃ W, Ext w2 W ∧ Rw W w2.heap.size 26 [.int .u8 2, .int .i64 0, .string ⟨#[]⟩] ∧ w2.alloc (.cells #[.int .u8 2, .int .i64 0, .string ⟨#[]⟩] 26) = W := ⟨_, Ext.alloc _ _, Rw.new _ _ _, rfl⟩
  rw [hgg]
  obtain ⟨hv, HHV⟩ : ∃ h, Hid (w2.heap.size = h) := ⟨_, hide rfl⟩
  rw [HHV.out] at hV3 ⊢
  have Z2 := hide (show Rw w2 w.heap.size 26 [.int .u8 0, .int .i64 0, .string ⟨#[]⟩] from (G2.out.block w.heap.size BZ.out.lt (fun e => by injection e with e; have := HG.out.2; omega)).trans BZ.out)
  have V3 := hide hV3
  have Z3 := hide (Z2.out.ext hX3)
  have R3 := hide (Rw.ext R2.out hX3)
  have G3 := hide (show w.grownBy W3 (some g) from grown_ext ⟨G2.out.os, G2.out.tape, G2.out.output, Nat.le_trans (Ext.alloc w _).size G2.out.size, fun k hk hne => (G2.out.block k (Nat.lt_of_lt_of_le hk (Ext.alloc w _).size) hne).trans ((Ext.alloc w _).block k hk)⟩ hX3)
  have X03 := hide (show Ext w0 W3 from ⟨G3.out.os.trans HX.out.os, G3.out.tape.trans HX.out.tape, G3.out.output.trans HX.out.output, Nat.le_trans HX.out.size G3.out.size, fun j hj => (G3.out.block j (Nat.lt_of_lt_of_le hj HX.out.size) (fun e => by injection e with e; have := HG.out.1; omega)).trans (HX.out.block j hj)⟩)
  have HNE := hide (show g ≠ w.heap.size ∧ hv ≠ w.heap.size from ⟨by have := HG.out.2; omega, by have h1 := Z2.out.lt; have := HHV.out; omega⟩)
  have HNE2 := hide (show hv ≠ g from by have h1 := R2.out.lt; have := HHV.out; omega)
  clear hgg hX3 hV3 G2 R2 Z2 KO2
  have d0 := V3.out.cell (i := 0) rfl
  have f1 := V3.out.frozen 1
  have c1 := V3.out.cell (i := 1) rfl
  have KO4 := hide (KT W3 X03.out R3.out)
  go_wp2_with (go_at_call 39; (with_reducible refine KO4.out.mono ?_); rintro e w4 ⟨hg4, rfl⟩)
  exact ⟨rfl, ⟨hg4.os.trans G3.out.os, hg4.tape.trans G3.out.tape, hg4.output.trans G3.out.output, Nat.le_trans G3.out.size hg4.size, fun j hj hne => (hg4.block j (Nat.lt_of_lt_of_le hj G3.out.size) hne).trans (G3.out.block j hj hne)⟩, rfl⟩
set_option maxRecDepth 20000 in
set_option maxHeartbeats 3200000 in
theorem value_key (g : Nat) (A : Option Addr) (l : List UInt8) (n c a : Nat) (w0 w : World) (hr0 : Rd w0 A l) (hx : Ext w0 w) (hg : w0.heap.size ≤ g) (hgw : g < w.heap.size) (hn : l.length = n) (hnc : n ≤ c) (hl : n ≤ 140737488351232) (han : a ≤ n) (hR : RdrC w g A n c a) (hT : Tabs w0) (x : UInt8) (h0 : l[a]? = some x) (h1 : x.toNat = 2) (tx : List UInt8) (p : Nat) (htx : tx.length ≤ 140737488351232) (KT : ∀ W, Ext w0 W → RdrC W g A n c (a + 1) → Calls Tryd.prog 39 #[.pointer (some ⟨g, 0, none⟩)] W (OneC W g A n c (some (.string ⟨tx.toArray⟩, p)))) :
    Calls Tryd.prog 38 #[.pointer (some ⟨g, 0, none⟩), .func (.func 39) #[.pointer (some ⟨g, 0, none⟩)] #[]] w (OneC w g A n c (if vOk (2, 0, ⟨tx.toArray⟩) = true then some (.agg #[.int .u8 2, .int .i64 0, .string ⟨tx.toArray⟩], p) else none)) := by
  have hnI : (n : Int) ≤ 140737488351232 := by omega
  have HG := hide (show w0.heap.size ≤ g ∧ g < w.heap.size from ⟨hg, hgw⟩)
  have HT := hide hT
  have HX := hide hx
  have KO := hide (one_any g A l n c a w0 (w.alloc (.cells #[.int .u8 0, .int .i64 0, .string ⟨#[]⟩] 26)) hr0 (hx.trans (Ext.alloc _ _)) hg hn hnc hl han (Rw.ext hR (Ext.alloc _ _)))
  have BZ := hide (Rw.new w 26 [.int .u8 0, .int .i64 0, .string ⟨#[]⟩])
  rw [h0] at KO
  have han1 : a + 1 ≤ n := by have h2 := (List.getElem?_eq_some_iff.1 h0).1; omega
  have HR0 := hide hr0
  have KO2 := hide (show Calls Tryd.prog 48 #[.pointer (some ⟨g, 0, none⟩)] (w.alloc (.cells #[.int .u8 0, .int .i64 0, .string ⟨#[]⟩] 26)) (OneC (w.alloc (.cells #[.int .u8 0, .int .i64 0, .string ⟨#[]⟩] 26)) g A n c (some (.int .u8 2, a + 1))) from by have h := KO.out; simp only [h1] at h; exact h)
  clear KO hR hr0 hx hg hgw
  go_enter Tryd.func38, Tryd.ntmps38
  go_upto_region 2 with (go_at_call 48; (with_reducible refine KO2.out.mono ?_); rintro e w2 ⟨hg2, rfl, hr2⟩; have G2 := hide hg2; have R2 := hide hr2)
  obtain ⟨W3, hX3, hV3, hgg⟩ : ∃ W, Ext w2 W ∧ Rw W w2.heap.size 26 [.int .u8 2, .int .i64 0, .string ⟨#[]⟩] ∧ w2.alloc (.cells #[.int .u8 2, .int .i64 0, .string ⟨#[]⟩] 26) = W := ⟨_, Ext.alloc _ _, Rw.new _ _ _, rfl⟩
  rw [hgg]
  obtain ⟨hv, HHV⟩ : ∃ h, Hid (w2.heap.size = h) := ⟨_, hide rfl⟩
  rw [HHV.out] at hV3 ⊢
  have Z2 := hide (show Rw w2 w.heap.size 26 [.int .u8 0, .int .i64 0, .string ⟨#[]⟩] from (G2.out.block w.heap.size BZ.out.lt (fun e => by injection e with e; have := HG.out.2; omega)).trans BZ.out)
  have V3 := hide hV3
  have Z3 := hide (Z2.out.ext hX3)
  have R3 := hide (Rw.ext R2.out hX3)
  have G3 := hide (show w.grownBy W3 (some g) from grown_ext ⟨G2.out.os, G2.out.tape, G2.out.output, Nat.le_trans (Ext.alloc w _).size G2.out.size, fun k hk hne => (G2.out.block k (Nat.lt_of_lt_of_le hk (Ext.alloc w _).size) hne).trans ((Ext.alloc w _).block k hk)⟩ hX3)
  have X03 := hide (show Ext w0 W3 from ⟨G3.out.os.trans HX.out.os, G3.out.tape.trans HX.out.tape, G3.out.output.trans HX.out.output, Nat.le_trans HX.out.size G3.out.size, fun j hj => (G3.out.block j (Nat.lt_of_lt_of_le hj HX.out.size) (fun e => by injection e with e; have := HG.out.1; omega)).trans (HX.out.block j hj)⟩)
  have HNE := hide (show g ≠ w.heap.size ∧ hv ≠ w.heap.size from ⟨by have := HG.out.2; omega, by have h1 := Z2.out.lt; have := HHV.out; omega⟩)
  have HNE2 := hide (show hv ≠ g from by have h1 := R2.out.lt; have := HHV.out; omega)
  have HNE3 := hide (show w.heap.size ≤ hv from by have h1 := Z2.out.lt; have := HHV.out; omega)
  clear hgg hX3 hV3 G2 R2 Z2 KO2
  have d0 := V3.out.cell (i := 0) rfl
  have f1 := V3.out.frozen 2
  have c1 := V3.out.cell (i := 2) rfl
  have KO4 := hide (KT W3 X03.out R3.out)
  go_upto_region 9 with (go_at_call 39; (with_reducible refine KO4.out.mono ?_); rintro e w4 ⟨hg4, rfl, hr4⟩; have f1b := (show Rw w4 hv 26 [.int .u8 2, .int .i64 0, .string ⟨#[]⟩] from (hg4.block hv V3.out.lt (fun e => HNE2.out (by injection e))).trans V3.out).frozen 2; have c1b := (show Rw w4 hv 26 [.int .u8 2, .int .i64 0, .string ⟨#[]⟩] from (hg4.block hv V3.out.lt (fun e => HNE2.out (by injection e))).trans V3.out).cell (i := 2) rfl; have c0b := (show Rw w4 hv 26 [.int .u8 2, .int .i64 0, .string ⟨#[]⟩] from (hg4.block hv V3.out.lt (fun e => HNE2.out (by injection e))).trans V3.out).cell (i := 0) rfl; have G4a := hide (show w.grownBy w4 (some g) from ⟨hg4.os.trans G3.out.os, hg4.tape.trans G3.out.tape, hg4.output.trans G3.out.output, Nat.le_trans G3.out.size hg4.size, fun j hj hne => (hg4.block j (Nat.lt_of_lt_of_le hj G3.out.size) hne).trans (G3.out.block j hj hne)⟩); have V4a := hide (show Rw w4 hv 26 [.int .u8 2, .int .i64 0, .string ⟨#[]⟩] from (hg4.block hv V3.out.lt (fun e => HNE2.out (by injection e))).trans V3.out); have Z4a := hide (show Rw w4 w.heap.size 26 [.int .u8 0, .int .i64 0, .string ⟨#[]⟩] from (hg4.block w.heap.size Z3.out.lt (fun e => HNE.out.1 (by injection e with e; exact e.symm))).trans Z3.out); have R4a := hide (show Rw w4 g 62 [.slice A n c, .int .i64 ((p : Nat) : Int)] from hr4))
  obtain ⟨W5, hV5, hZ5, hR5, hG5, hgg⟩ : ∃ W, Rw W hv 26 [.int .u8 2, .int .i64 0, .string ⟨tx.toArray⟩] ∧ Rw W w.heap.size 26 [.int .u8 0, .int .i64 0, .string ⟨#[]⟩] ∧ Rw W g 62 [.slice A n c, .int .i64 ((p : Nat) : Int)] ∧ w.grownBy W (some g) ∧ w4.setCell ⟨hv, 2, none⟩ (.string ⟨tx.toArray⟩) = W := ⟨_, V4a.out.set 2 _, Z4a.out.far (p := ⟨hv, 2, none⟩) (fun e => HNE.out.2 e.symm) _, R4a.out.far (p := ⟨hv, 2, none⟩) (fun e => HNE2.out e.symm) _, grown_below G4a.out HNE3.out rfl, rfl⟩
  rw [hgg]
  have V5 := hide hV5
  have Z5 := hide hZ5
  have R5 := hide hR5
  have G5 := hide hG5
  have X05 := hide (show Ext w0 W5 from ⟨G5.out.os.trans HX.out.os, G5.out.tape.trans HX.out.tape, G5.out.output.trans HX.out.output, Nat.le_trans HX.out.size G5.out.size, fun j hj => (G5.out.block j (Nat.lt_of_lt_of_le hj HX.out.size) (fun e => by injection e with e; have := HG.out.1; omega)).trans (HX.out.block j hj)⟩)
  clear hgg hV5 hZ5 hR5 hG5 d0 f1 c1 f1b c1b c0b G4a V4a Z4a R4a
  have d0 := V5.out.cell (i := 0) rfl
  have d1 := V5.out.cell (i := 1) rfl
  have d2 := V5.out.cell (i := 2) rfl
  have KF := hide (form_any (2, 0, ⟨tx.toArray⟩) W5 ⟨⟨by simp only; omega, by simp only; omega⟩, ⟨by simp only; omega, by simp only; omega⟩, by show tx.toArray.size ≤ _; rw [List.size_toArray]; omega⟩ (HT.out.ext X05.out))
  cases hvo : vOk (2, 0, ⟨tx.toArray⟩) with
  | false =>
    rw [hvo] at KF
    have KM := hide (fun (W : World) => must_any false W)
    rw [if_neg (by decide)]
    go_wp2_with (first
      | (go_at_call 12; (with_reducible refine KF.out.mono ?_); rintro e w4 ⟨rfl, hx4⟩)
      | (go_at_call 49; (with_reducible refine (KM.out _).mono ?_); rintro e x ⟨rfl, hx5⟩; have hx5 := hx5.symm; subst hx5))
    exact ⟨rfl, grown_ext G5.out hx4, rfl⟩
  | true =>
    rw [hvo] at KF
    have KM := hide (fun (W : World) => must_any true W)
    rw [if_pos rfl]
    go_upto_region 10 with (first
      | (go_at_call 12; (with_reducible refine KF.out.mono ?_); rintro e w4 ⟨rfl, hx4⟩; have V4 := hide (V5.out.ext hx4); have Z4 := hide (Z5.out.ext hx4); have R4 := hide (R5.out.ext hx4); have G4 := hide (grown_ext G5.out hx4))
      | (go_at_call 49; (with_reducible refine (KM.out _).mono ?_); rintro e x ⟨rfl, hx5⟩; have hx5 := hx5.symm; subst hx5))
    clear d0 d1 d2
    have e0 := V4.out.cell (i := 0) rfl
    have e1 := V4.out.cell (i := 1) rfl
    have e2 := V4.out.cell (i := 2) rfl
    have f0 := Z4.out.cell (i := 0) rfl
    have f1 := Z4.out.cell (i := 1) rfl
    have f2 := Z4.out.cell (i := 2) rfl
    have g0 := Z4.out.frozen 0
    have g1 := Z4.out.frozen 1
    have g2 := Z4.out.frozen 2
    go_wp2
    have ZS := ((Z4.out.set 0 (.int .u8 2)).set 1 (.int .i64 0)).set 2 (.string ⟨tx.toArray⟩)
    have RS := ((R4.out.far (p := ⟨w.heap.size, 0, none⟩) HNE.out.1 (.int .u8 2)).far (p := ⟨w.heap.size, 1, none⟩) HNE.out.1 (.int .i64 0)).far (p := ⟨w.heap.size, 2, none⟩) HNE.out.1 (.string ⟨tx.toArray⟩)
    have GS := grown_below (grown_below (grown_below G4.out (Nat.le_refl _) (i := 0) (v := .int .u8 2) rfl) (Nat.le_refl _) (i := 1) (v := .int .i64 0) rfl) (Nat.le_refl _) (i := 2) (v := .string ⟨tx.toArray⟩) rfl
    obtain ⟨wz, hwz⟩ : ∃ wz, ((w4.setCell ⟨w.heap.size, 0, none⟩ (.int .u8 2)).setCell ⟨w.heap.size, 1, none⟩ (.int .i64 0)).setCell ⟨w.heap.size, 2, none⟩ (.string ⟨tx.toArray⟩) = wz := ⟨_, rfl⟩
    rw [hwz] at ZS RS GS ⊢
    have y0 := ZS.cell (i := 0) rfl
    have y1 := ZS.cell (i := 1) rfl
    have y2 := ZS.cell (i := 2) rfl
    refine bodyPost_ret (v := .agg #[.int .u8 2, .int .i64 0, .string ⟨tx.toArray⟩]) (by simp [results, Tryd.results38, go_sem, y0, y1, y2]; try rfl) rfl ?_
    exact ⟨GS, rfl, RS⟩
end Go.Proofs.YtpdikmcaihlbaaaDoor
