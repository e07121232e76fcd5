/-
  The reader of records: record, no kind.
  The reader of records: record, any.
-/
import Derived.Test.YtkbmcebdhiiffaaDoorPkCardRcDecodes5
import Derived.Test.YtkbmcebdhiiffaaDoorPkCardRcDecodes6
import Derived.Test.YtkbmcebdhiiffaaDoorPkCardRcDecodes7
import Derived.Test.YtkbmcebdhiiffaaDoorPkCardRcDecodes8
set_option linter.unusedVariables false
set_option linter.unusedSimpArgs false

namespace Go.Proofs.YtkbmcebdhiiffaaDoor
open Go.RowKit

set_option maxRecDepth 20000 in
set_option maxHeartbeats 1600000 in
theorem record_7 (g : Nat) (st : List UInt8 × Bool) (w0 w : World) (hx : Ext w0 w) (hg0 : w0.heap.size ≤ g) (hr : RdrAt w0 w g st) (hl : st.1.length ≤ 140737488351232) (k : Int) (h1 : k ≠ 1) (h2 : k ≠ 2) (h3 : k ≠ 3) (h4 : k ≠ 4) (h5 : k ≠ 5) (h6 : k ≠ 6) (hk : num (tk 1 st).1 = k) :
    Calls Tryd.prog 23 #[.pointer (some ⟨g, 0, none⟩)] w (RecP w0 w g (rdRec st)) := by
  have HX := hide hx
  have HG0 := hide hg0
  have HGL := hide hr.lt
  have HK := hide hk
  have HL0 := hide hl
  have R0 := hide hr
  have e1 : hpv k = false := by simp only [hpv, Bool.and_eq_false_iff, decide_eq_false_iff_not]; omega
  have e2 : hok k = false := by simp only [hok, Bool.and_eq_false_iff, decide_eq_false_iff_not]; omega
  have e3 : hch k = false := by simp [hch, h2, h3]
  have e4 : hbf k = false := by simp [hbf, h2]
  have e5 : hnx k = false := by simp [hnx, h3]
  have e6 : hck k = false := by simp [hck, h6]
  have KP := hide (fun (W : World) => (show Calls Tryd.prog 16 #[.int .u8 k] W (fun e w' => e = .returned (.tuple #[.agg #[.bool false, .bool false, .bool false, .bool false, .bool false], .bool false]) ∧ Ext W w') from by have h := partsOf_any k W; unfold PartsP at h; rw [e1, e2, e3, e4, e5, e6] at h; exact h))
  have HE := hide (And.intro e1 (And.intro e3 (And.intro e4 (And.intro e5 e6))))
  have hkb : 0 ≤ k ∧ k ≤ 255 := by have h := num_lt 1 st; rw [hk] at h; exact ⟨h.1, by have := h.2; omega⟩
  have hwk : IntKind.u8.wrap k = k := by rw [IntKind.wrap_u8]; omega
  clear e1 e2 e3 e4 e5 e6 h1 h2 h3 h4 h5 h6
  clear hx hg0 hr hl hk
  go_enter Tryd.func23, Tryd.ntmps23
  go_upto_region 2 with fail
  obtain ⟨W1, hX1, hRz, hRh, hgg⟩ : ∃ W1, Ext w W1 ∧ Rw W1 w.heap.size 26 [.int .u8 0, .int .u64 0, .int .u64 0, .int .i64 0, .int .i64 0, .slice none 0 0, .slice none 0 0, .int .u64 0, .slice none 0 0, .bool false] ∧ Rw W1 (w.heap.size + 1) 26 [.int .u8 0, .int .u64 0, .int .u64 0, .int .i64 0, .int .i64 0, .slice none 0 0, .slice none 0 0, .int .u64 0, .slice none 0 0, .bool false] ∧ (w.alloc (.cells #[.int .u8 0, .int .u64 0, .int .u64 0, .int .i64 0, .int .i64 0, .slice none 0 0, .slice none 0 0, .int .u64 0, .slice none 0 0, .bool false] 26)).alloc (.cells #[.int .u8 0, .int .u64 0, .int .u64 0, .int .i64 0, .int .i64 0, .slice none 0 0, .slice none 0 0, .int .u64 0, .slice none 0 0, .bool false] 26) = W1 := ⟨_, (Ext.alloc _ _).trans (Ext.alloc _ _), (Rw.new w 26 [.int .u8 0, .int .u64 0, .int .u64 0, .int .i64 0, .int .i64 0, .slice none 0 0, .slice none 0 0, .int .u64 0, .slice none 0 0, .bool false]).ext (Ext.alloc _ _), (by have h := Rw.new (w.alloc (.cells #[.int .u8 0, .int .u64 0, .int .u64 0, .int .i64 0, .int .i64 0, .slice none 0 0, .slice none 0 0, .int .u64 0, .slice none 0 0, .bool false] 26)) 26 [.int .u8 0, .int .u64 0, .int .u64 0, .int .i64 0, .int .i64 0, .slice none 0 0, .slice none 0 0, .int .u64 0, .slice none 0 0, .bool false]; rwa [show (w.alloc (.cells #[.int .u8 0, .int .u64 0, .int .u64 0, .int .i64 0, .int .i64 0, .slice none 0 0, .slice none 0 0, .int .u64 0, .slice none 0 0, .bool false] 26)).heap.size = w.heap.size + 1 by simp] at h), rfl⟩
  rw [hgg]
  obtain ⟨hz, HHZ⟩ : ∃ hz, Hid (w.heap.size = hz) := ⟨_, hide rfl⟩
  rw [HHZ.out] at hRz hRh ⊢
  obtain ⟨h, HHH⟩ : ∃ h, Hid (hz + 1 = h) := ⟨_, hide rfl⟩
  rw [HHH.out] at hRh
  try rw [HHH.out]
  have BX1 := hide hRh
  have ZX1 := hide hRz
  have R1 := hide (R0.out.ext hX1)
  have Y1 : Hid (Only2 g h w W1) := hide ((Only2.refl g h w).ext hX1)
  have HNE : Hid (h ≠ g ∧ hz ≠ g ∧ h ≠ hz ∧ hz < h) := hide (by have := HGL.out; have := HHZ.out; have := HHH.out; omega)
  have HHW : Hid (w0.heap.size ≤ h ∧ w.heap.size ≤ h ∧ w.heap.size ≤ hz) := hide (by have := HX.out.size; have := HHZ.out; have := HHH.out; omega)
  obtain ⟨BB, HBB⟩ : ∃ BB, Hid (W1.heap.size = BB) := ⟨_, hide rfl⟩
  have HBL : Hid (h < BB ∧ hz < BB ∧ g < BB ∧ w.heap.size ≤ BB) := hide (by rw [← HBB.out]; exact ⟨BX1.out.lt, ZX1.out.lt, R1.out.lt, hX1.size⟩)
  have S1 : Hid (BB ≤ W1.heap.size) := hide (by rw [HBB.out]; exact Nat.le_refl _)
  clear hgg hX1 hRz hRh R0
  have KN := hide (number_1 g st w0 W1 (Y1.out.ofExt HX.out HG0.out HHW.out.1) R1.out HL0.out)
  rw [HK.out] at KN
  obtain ⟨s2, HS2⟩ : ∃ s, Hid ((tk 1 st).2 = s) := ⟨_, hide rfl⟩
  rw [HS2.out] at KN
  have HL2 : Hid (s2.1.length ≤ 140737488351232) := hide (by rw [← HS2.out]; exact Nat.le_trans (tk_left 1 st) HL0.out)
  go_upto_region 3 with (go_at_call 32; (with_reducible refine KN.out.mono ?_); rintro e x2 ⟨_, rfl, rfl, hr2, hg2⟩; have R2 := hide hr2; have BX2 : Hid (Rw x2 h 26 [.int .u8 0, .int .u64 0, .int .u64 0, .int .i64 0, .int .i64 0, .slice none 0 0, .slice none 0 0, .int .u64 0, .slice none 0 0, .bool false]) := hide ((hg2.block h BX1.out.lt (fun e => HNE.out.1 (by injection e))).trans BX1.out); have ZX2 : Hid (Rw x2 hz 26 [.int .u8 0, .int .u64 0, .int .u64 0, .int .i64 0, .int .i64 0, .slice none 0 0, .slice none 0 0, .int .u64 0, .slice none 0 0, .bool false]) := hide ((hg2.block hz ZX1.out.lt (fun e => HNE.out.2.1 (by injection e))).trans ZX1.out); have Y2 : Hid (Only2 g h w x2) := hide (Y1.out.grown hg2 (fun b e => .inl (by injection e with e; exact e.symm))); have S2 : Hid (BB ≤ x2.heap.size) := hide (Nat.le_trans S1.out hg2.size); have cc := BX2.out.cell (i := 0) rfl; have ff := BX2.out.frozen 0; clear hr2 hg2)
  obtain ⟨w2, hgg, hB, hZ, hR, hY, hS⟩ : ∃ W, x2.setCell ⟨h, 0, none⟩ (.int .u8 k) = W ∧ Rw W h 26 [.int .u8 k, .int .u64 0, .int .u64 0, .int .i64 0, .int .i64 0, .slice none 0 0, .slice none 0 0, .int .u64 0, .slice none 0 0, .bool false] ∧ Rw W hz 26 [.int .u8 0, .int .u64 0, .int .u64 0, .int .i64 0, .int .i64 0, .slice none 0 0, .slice none 0 0, .int .u64 0, .slice none 0 0, .bool false] ∧ RdrAt w0 W g s2 ∧ Only2 g h w W ∧ BB ≤ W.heap.size := ⟨_, rfl, BX2.out.set 0 _, ZX2.out.far (fun e => HNE.out.2.2.1 e.symm) _, R2.out.same (Below.heap_setCell x2 ⟨h, 0, none⟩ _ g (fun e => HNE.out.1 e.symm)), Y2.out.set 0 _, Nat.le_trans S2.out (by simp [World.setCell])⟩
  rw [hgg]
  have BX2 := hide hB
  have ZX2 := hide hZ
  have R2 := hide hR
  have Y2 := hide hY
  have S2 := hide hS
  clear hgg hB hZ hR hY hS cc ff
  clear KN
  have KN := hide (number_8 g s2 w0 w2 (Y2.out.ofExt HX.out HG0.out HHW.out.1) R2.out HL2.out)
  obtain ⟨tx, HU3⟩ : ∃ u, Hid (num (tk 8 s2).1 = u) := ⟨_, hide rfl⟩
  rw [HU3.out] at KN
  obtain ⟨s3, HS3⟩ : ∃ s, Hid ((tk 8 s2).2 = s) := ⟨_, hide rfl⟩
  rw [HS3.out] at KN
  have HL3 : Hid (s3.1.length ≤ 140737488351232) := hide (by rw [← HS3.out]; exact Nat.le_trans (tk_left 8 s2) HL2.out)
  go_upto_region 4 with (go_at_call 32; (with_reducible refine KN.out.mono ?_); rintro e x3 ⟨_, rfl, rfl, hr2, hg2⟩; have R3 := hide hr2; have BX3 : Hid (Rw x3 h 26 [.int .u8 k, .int .u64 0, .int .u64 0, .int .i64 0, .int .i64 0, .slice none 0 0, .slice none 0 0, .int .u64 0, .slice none 0 0, .bool false]) := hide ((hg2.block h BX2.out.lt (fun e => HNE.out.1 (by injection e))).trans BX2.out); have ZX3 : Hid (Rw x3 hz 26 [.int .u8 0, .int .u64 0, .int .u64 0, .int .i64 0, .int .i64 0, .slice none 0 0, .slice none 0 0, .int .u64 0, .slice none 0 0, .bool false]) := hide ((hg2.block hz ZX2.out.lt (fun e => HNE.out.2.1 (by injection e))).trans ZX2.out); have Y3 : Hid (Only2 g h w x3) := hide (Y2.out.grown hg2 (fun b e => .inl (by injection e with e; exact e.symm))); have S3 : Hid (BB ≤ x3.heap.size) := hide (Nat.le_trans S2.out hg2.size); have cc := BX3.out.cell (i := 1) rfl; have ff := BX3.out.frozen 1; clear hr2 hg2)
  obtain ⟨w3, hgg, hB, hZ, hR, hY, hS⟩ : ∃ W, x3.setCell ⟨h, 1, none⟩ (.int .u64 tx) = W ∧ Rw W h 26 [.int .u8 k, .int .u64 tx, .int .u64 0, .int .i64 0, .int .i64 0, .slice none 0 0, .slice none 0 0, .int .u64 0, .slice none 0 0, .bool false] ∧ Rw W hz 26 [.int .u8 0, .int .u64 0, .int .u64 0, .int .i64 0, .int .i64 0, .slice none 0 0, .slice none 0 0, .int .u64 0, .slice none 0 0, .bool false] ∧ RdrAt w0 W g s3 ∧ Only2 g h w W ∧ BB ≤ W.heap.size := ⟨_, rfl, BX3.out.set 1 _, ZX3.out.far (fun e => HNE.out.2.2.1 e.symm) _, R3.out.same (Below.heap_setCell x3 ⟨h, 1, none⟩ _ g (fun e => HNE.out.1 e.symm)), Y3.out.set 1 _, Nat.le_trans S3.out (by simp [World.setCell])⟩
  rw [hgg]
  have BX3 := hide hB
  have ZX3 := hide hZ
  have R3 := hide hR
  have Y3 := hide hY
  have S3 := hide hS
  clear hgg hB hZ hR hY hS cc ff
  clear KN
  have cc := BX3.out.cell (i := 0) rfl
  go_upto_region 5 with (go_at_call 16; (with_reducible refine (KP.out _).mono ?_); rintro e xp ⟨rfl, hxp⟩; have XP := hide hxp; clear hxp)
  clear cc KP
  obtain ⟨w4, hXQ, hQ, hgg⟩ : ∃ W, Ext w3 W ∧ Rw W xp.heap.size 42 [.bool false, .bool false, .bool false, .bool false, .bool false] ∧ xp.alloc (.cells #[.bool false, .bool false, .bool false, .bool false, .bool false] 42) = W := ⟨_, XP.out.trans (Ext.alloc _ _), Rw.new _ _ _, rfl⟩
  rw [hgg]
  obtain ⟨hq, HHQ⟩ : ∃ hq, Hid (xp.heap.size = hq) := ⟨_, hide rfl⟩
  rw [HHQ.out] at hQ ⊢
  have BX4 := hide (BX3.out.ext hXQ)
  have ZX4 := hide (ZX3.out.ext hXQ)
  have R4 := hide (R3.out.ext hXQ)
  have Y4 := hide (Y3.out.ext hXQ)
  have S4 : Hid (BB ≤ w4.heap.size) := hide (Nat.le_trans S3.out hXQ.size)
  have QX4 := hide hQ
  have HQN : Hid (hq ≠ g ∧ hq ≠ h) := hide (by have h1 : BB ≤ xp.heap.size := Nat.le_trans S3.out XP.out.size; have := HHQ.out; have := HBL.out; omega)
  clear hgg hXQ hQ
  have q0 := QX4.out.cell (i := 0) rfl
  have q1 := QX4.out.cell (i := 1) rfl
  have q2 := QX4.out.cell (i := 2) rfl
  have q3 := QX4.out.cell (i := 3) rfl
  have q4 := QX4.out.cell (i := 4) rfl
  have z0 := ZX4.out.cell (i := 0) rfl
  have z1 := ZX4.out.cell (i := 1) rfl
  have z2 := ZX4.out.cell (i := 2) rfl
  have z3 := ZX4.out.cell (i := 3) rfl
  have z4 := ZX4.out.cell (i := 4) rfl
  have z5 := ZX4.out.cell (i := 5) rfl
  have z6 := ZX4.out.cell (i := 6) rfl
  have z7 := ZX4.out.cell (i := 7) rfl
  have z8 := ZX4.out.cell (i := 8) rfl
  have z9 := ZX4.out.cell (i := 9) rfl
  have y0 := BX4.out.cell (i := 0) rfl
  have y1 := BX4.out.cell (i := 1) rfl
  have y2 := BX4.out.cell (i := 2) rfl
  have y3 := BX4.out.cell (i := 3) rfl
  have y4 := BX4.out.cell (i := 4) rfl
  have y5 := BX4.out.cell (i := 5) rfl
  have y6 := BX4.out.cell (i := 6) rfl
  have y7 := BX4.out.cell (i := 7) rfl
  have y8 := BX4.out.cell (i := 8) rfl
  have y9 := BX4.out.cell (i := 9) rfl
  have f0 := ZX4.out.frozen 0
  have f1 := ZX4.out.frozen 1
  have f2 := ZX4.out.frozen 2
  have f3 := ZX4.out.frozen 3
  have f4 := ZX4.out.frozen 4
  have f5 := ZX4.out.frozen 5
  have f6 := ZX4.out.frozen 6
  have f7 := ZX4.out.frozen 7
  have f8 := ZX4.out.frozen 8
  have f9 := ZX4.out.frozen 9
  go_wp2
  have ZZ := ((((((((((ZX4.out.set 0 (.int .u8 k)).set 1 (.int .u64 tx)).set 2 (.int .u64 0)).set 3 (.int .i64 0)).set 4 (.int .i64 0)).set 5 (.slice none 0 0)).set 6 (.slice none 0 0)).set 7 (.int .u64 0)).set 8 (.slice none 0 0)).set 9 (.bool false))
  have HS10 := sets_only hz [(0, .int .u8 k), (1, .int .u64 tx), (2, .int .u64 0), (3, .int .i64 0), (4, .int .i64 0), (5, .slice none 0 0), (6, .slice none 0 0), (7, .int .u64 0), (8, .slice none 0 0), (9, .bool false)] w4
  simp only [List.foldl_cons, List.foldl_nil] at HS10
  obtain ⟨wz, hwz⟩ : ∃ wz, ((((((((((w4).setCell ⟨hz, 0, none⟩ (.int .u8 k)).setCell ⟨hz, 1, none⟩ (.int .u64 tx)).setCell ⟨hz, 2, none⟩ (.int .u64 0)).setCell ⟨hz, 3, none⟩ (.int .i64 0)).setCell ⟨hz, 4, none⟩ (.int .i64 0)).setCell ⟨hz, 5, none⟩ (.slice none 0 0)).setCell ⟨hz, 6, none⟩ (.slice none 0 0)).setCell ⟨hz, 7, none⟩ (.int .u64 0)).setCell ⟨hz, 8, none⟩ (.slice none 0 0)).setCell ⟨hz, 9, none⟩ (.bool false) = wz := ⟨_, rfl⟩
  rw [hwz] at HS10 ZZ ⊢
  obtain ⟨q1, q2, q3, q4, hsame⟩ := HS10
  clear hwz
  have e0 := ZZ.cell (i := 0) rfl
  have e1 := ZZ.cell (i := 1) rfl
  have e2 := ZZ.cell (i := 2) rfl
  have e3 := ZZ.cell (i := 3) rfl
  have e4 := ZZ.cell (i := 4) rfl
  have e5 := ZZ.cell (i := 5) rfl
  have e6 := ZZ.cell (i := 6) rfl
  have e7 := ZZ.cell (i := 7) rfl
  have e8 := ZZ.cell (i := 8) rfl
  have e9 := ZZ.cell (i := 9) rfl
  have HRD : rdRec st = (⟨k, tx, 0, 0, 0, [], [], 0, [], false⟩, s3) := by
    simp [rdRec, rdN, rdB, rdD, HK.out, HS2.out, HU3.out, HS3.out, HE.out.1, HE.out.2.1, HE.out.2.2.1, HE.out.2.2.2.1, HE.out.2.2.2.2]
  rw [HRD]
  have YG : w.grownBy wz (some g) := by
    have h1 := Y4.out.to1 HHW.out.2.1
    exact ⟨q1.trans h1.os, q2.trans h1.tape, q3.trans h1.output, Nat.le_trans h1.size (Nat.le_of_eq q4.symm), fun b hb hne => (hsame b (by have := HHW.out; omega)).trans (h1.block b hb hne)⟩
  refine bodyPost_ret (v := .agg #[.int .u8 k, .int .u64 tx, .int .u64 0, .int .i64 0, .int .i64 0, .slice none 0 0, .slice none 0 0, .int .u64 0, .slice none 0 0, .bool false]) (by simp [results, Tryd.results23, go_sem, e0, e1, e2, e3, e4, e5, e6, e7, e8, e9]; try rfl) rfl ?_
  exact ⟨_, _, _, rfl, Own.nil _ _, Own.nil _ _, OwnD.nil _ _, R4.out.same (hsame g (fun e => HNE.out.2.1 e.symm)), YG, fun b hb => by cases hb⟩
end Go.Proofs.YtkbmcebdhiiffaaDoor
namespace Go.Proofs.YtkbmcebdhiiffaaDoor
open Go.RowKit

theorem record_any (g : Nat) (st : List UInt8 × Bool) (w0 w : World) (hx : Ext w0 w) (hg0 : w0.heap.size ≤ g) (hr : RdrAt w0 w g st) (hl : st.1.length ≤ 140737488351232) :
    Calls Tryd.prog 23 #[.pointer (some ⟨g, 0, none⟩)] w (RecP w0 w g (rdRec st)) := by
  obtain ⟨k, hk⟩ : ∃ k, num (tk 1 st).1 = k := ⟨_, rfl⟩
  by_cases h1 : k = 1
  · subst h1; exact record_1 g st w0 w hx hg0 hr hl hk
  by_cases h2 : k = 2
  · subst h2; exact record_2 g st w0 w hx hg0 hr hl hk
  by_cases h3 : k = 3
  · subst h3; exact record_3 g st w0 w hx hg0 hr hl hk
  by_cases h4 : k = 4
  · subst h4; exact record_4 g st w0 w hx hg0 hr hl hk
  by_cases h5 : k = 5
  · subst h5; exact record_5 g st w0 w hx hg0 hr hl hk
  by_cases h6 : k = 6
  · subst h6; exact record_6 g st w0 w hx hg0 hr hl hk
  exact record_7 g st w0 w hx hg0 hr hl k h1 h2 h3 h4 h5 h6 hk
end Go.Proofs.YtkbmcebdhiiffaaDoor
