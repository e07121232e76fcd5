/-
  The reader of records: record, kind 4.
  The reader of records: record, kind 5.
  The reader of records: record, kind 6.
  The reader of records: record, no kind.
  The reader of records: record, any.
  The dirty pages of a record, put behind bytes of the call's own.
  A record as bytes: the program's Encode, plain.
-/
import Derived.Test.YthdahgekodcloaaDoorPkCardRcTurned1
import Derived.Test.YthdahgekodcloaaDoorPkCardRcTurned2

namespace Go.Proofs.YthdahgekodcloaaDoor
open Go.RowKit

set_option maxRecDepth 20000 in
set_option maxHeartbeats 1600000 in
theorem record_4 (g : Nat) (st : List UInt8 × Bool) (w0 w : World) (hx : Ext w0 w) (hg0 : w0.heap.size ≤ g) (hr : RdrAt w0 w g st) (hl : st.1.length ≤ 140737488351232) (hk : num (tk 1 st).1 = 4) :
    Calls Tryd.prog 23 #[.pointer (some ⟨g, 0, none⟩)] w (RecP w0 w g (rdRec st)) := by
  have HX := hide hx
  have HG0 := hide hg0
  have HGL := hide hr.lt
  have HK := hide hk
  have HL0 := hide hl
  have R0 := hide hr
  have KP := hide (fun (W : World) => (show Calls Tryd.prog 16 #[.int .u8 4] W (fun e w' => e = .returned (.tuple #[.agg #[.bool true, .bool false, .bool false, .bool false, .bool false], .bool true]) ∧ Ext W w') from partsOf_any 4 W))
  clear hx hg0 hr hl hk
  go_enter Tryd.func23, Tryd.ntmps23
  go_upto_region 2 with fail
  obtain ⟨W1, hX1, hRz, hRh, hgg⟩ : ∃ W1, Ext w W1 ∧ Rw W1 w.heap.size 26 [.int .u8 0, .int .u64 0, .int .u64 0, .int .i64 0, .int .i64 0, .slice none 0 0, .slice none 0 0, .int .u64 0, .slice none 0 0, .bool false] ∧ Rw W1 (w.heap.size + 1) 26 [.int .u8 0, .int .u64 0, .int .u64 0, .int .i64 0, .int .i64 0, .slice none 0 0, .slice none 0 0, .int .u64 0, .slice none 0 0, .bool false] ∧ (w.alloc (.cells #[.int .u8 0, .int .u64 0, .int .u64 0, .int .i64 0, .int .i64 0, .slice none 0 0, .slice none 0 0, .int .u64 0, .slice none 0 0, .bool false] 26)).alloc (.cells #[.int .u8 0, .int .u64 0, .int .u64 0, .int .i64 0, .int .i64 0, .slice none 0 0, .slice none 0 0, .int .u64 0, .slice none 0 0, .bool false] 26) = W1 := ⟨_, (Ext.alloc _ _).trans (Ext.alloc _ _), (Rw.new w 26 [.int .u8 0, .int .u64 0, .int .u64 0, .int .i64 0, .int .i64 0, .slice none 0 0, .slice none 0 0, .int .u64 0, .slice none 0 0, .bool false]).ext (Ext.alloc _ _), (by have h := Rw.new (w.alloc (.cells #[.int .u8 0, .int .u64 0, .int .u64 0, .int .i64 0, .int .i64 0, .slice none 0 0, .slice none 0 0, .int .u64 0, .slice none 0 0, .bool false] 26)) 26 [.int .u8 0, .int .u64 0, .int .u64 0, .int .i64 0, .int .i64 0, .slice none 0 0, .slice none 0 0, .int .u64 0, .slice none 0 0, .bool false]; rwa [show (w.alloc (.cells #[.int .u8 0, .int .u64 0, .int .u64 0, .int .i64 0, .int .i64 0, .slice none 0 0, .slice none 0 0, .int .u64 0, .slice none 0 0, .bool false] 26)).heap.size = w.heap.size + 1 by simp] at h), rfl⟩
  rw [hgg]
  obtain ⟨hz, HHZ⟩ : ∃ hz, Hid (w.heap.size = hz) := ⟨_, hide rfl⟩
  rw [HHZ.out] at hRz hRh ⊢
  obtain ⟨h, HHH⟩ : ∃ h, Hid (hz + 1 = h) := ⟨_, hide rfl⟩
  rw [HHH.out] at hRh
  try rw [HHH.out]
  have BX1 := hide hRh
  have ZX1 := hide hRz
  have R1 := hide (R0.out.ext hX1)
  have Y1 : Hid (Only2 g h w W1) := hide ((Only2.refl g h w).ext hX1)
  have HNE : Hid (h ≠ g ∧ hz ≠ g ∧ h ≠ hz ∧ hz < h) := hide (by have := HGL.out; have := HHZ.out; have := HHH.out; omega)
  have HHW : Hid (w0.heap.size ≤ h ∧ w.heap.size ≤ h ∧ w.heap.size ≤ hz) := hide (by have := HX.out.size; have := HHZ.out; have := HHH.out; omega)
  obtain ⟨BB, HBB⟩ : ∃ BB, Hid (W1.heap.size = BB) := ⟨_, hide rfl⟩
  have HBL : Hid (h < BB ∧ hz < BB ∧ g < BB ∧ w.heap.size ≤ BB) := hide (by rw [← HBB.out]; exact ⟨BX1.out.lt, ZX1.out.lt, R1.out.lt, hX1.size⟩)
  have S1 : Hid (BB ≤ W1.heap.size) := hide (by rw [HBB.out]; exact Nat.le_refl _)
  clear hgg hX1 hRz hRh R0
  have KN := hide (number_1 g st w0 W1 (Y1.out.ofExt HX.out HG0.out HHW.out.1) R1.out HL0.out)
  rw [HK.out] at KN
  obtain ⟨s2, HS2⟩ : ∃ s, Hid ((tk 1 st).2 = s) := ⟨_, hide rfl⟩
  rw [HS2.out] at KN
  have HL2 : Hid (s2.1.length ≤ 140737488351232) := hide (by rw [← HS2.out]; exact Nat.le_trans (tk_left 1 st) HL0.out)
  go_upto_region 3 with (go_at_call 32; (with_reducible refine KN.out.mono ?_); rintro e x2 ⟨_, rfl, rfl, hr2, hg2⟩; have R2 := hide hr2; have BX2 : Hid (Rw x2 h 26 [.int .u8 0, .int .u64 0, .int .u64 0, .int .i64 0, .int .i64 0, .slice none 0 0, .slice none 0 0, .int .u64 0, .slice none 0 0, .bool false]) := hide ((hg2.block h BX1.out.lt (fun e => HNE.out.1 (by injection e))).trans BX1.out); have ZX2 : Hid (Rw x2 hz 26 [.int .u8 0, .int .u64 0, .int .u64 0, .int .i64 0, .int .i64 0, .slice none 0 0, .slice none 0 0, .int .u64 0, .slice none 0 0, .bool false]) := hide ((hg2.block hz ZX1.out.lt (fun e => HNE.out.2.1 (by injection e))).trans ZX1.out); have Y2 : Hid (Only2 g h w x2) := hide (Y1.out.grown hg2 (fun b e => .inl (by injection e with e; exact e.symm))); have S2 : Hid (BB ≤ x2.heap.size) := hide (Nat.le_trans S1.out hg2.size); have cc := BX2.out.cell (i := 0) rfl; have ff := BX2.out.frozen 0; clear hr2 hg2)
  obtain ⟨w2, hgg, hB, hZ, hR, hY, hS⟩ : ∃ W, x2.setCell ⟨h, 0, none⟩ (.int .u8 4) = W ∧ Rw W h 26 [.int .u8 4, .int .u64 0, .int .u64 0, .int .i64 0, .int .i64 0, .slice none 0 0, .slice none 0 0, .int .u64 0, .slice none 0 0, .bool false] ∧ Rw W hz 26 [.int .u8 0, .int .u64 0, .int .u64 0, .int .i64 0, .int .i64 0, .slice none 0 0, .slice none 0 0, .int .u64 0, .slice none 0 0, .bool false] ∧ RdrAt w0 W g s2 ∧ Only2 g h w W ∧ BB ≤ W.heap.size := ⟨_, rfl, BX2.out.set 0 _, ZX2.out.far (fun e => HNE.out.2.2.1 e.symm) _, R2.out.same (Below.heap_setCell x2 ⟨h, 0, none⟩ _ g (fun e => HNE.out.1 e.symm)), Y2.out.set 0 _, Nat.le_trans S2.out (by simp [World.setCell])⟩
  rw [hgg]
  have BX2 := hide hB
  have ZX2 := hide hZ
  have R2 := hide hR
  have Y2 := hide hY
  have S2 := hide hS
  clear hgg hB hZ hR hY hS cc ff
  clear KN
  have KN := hide (number_8 g s2 w0 w2 (Y2.out.ofExt HX.out HG0.out HHW.out.1) R2.out HL2.out)
  obtain ⟨tx, HU3⟩ : ∃ u, Hid (num (tk 8 s2).1 = u) := ⟨_, hide rfl⟩
  rw [HU3.out] at KN
  obtain ⟨s3, HS3⟩ : ∃ s, Hid ((tk 8 s2).2 = s) := ⟨_, hide rfl⟩
  rw [HS3.out] at KN
  have HL3 : Hid (s3.1.length ≤ 140737488351232) := hide (by rw [← HS3.out]; exact Nat.le_trans (tk_left 8 s2) HL2.out)
  go_upto_region 4 with (go_at_call 32; (with_reducible refine KN.out.mono ?_); rintro e x3 ⟨_, rfl, rfl, hr2, hg2⟩; have R3 := hide hr2; have BX3 : Hid (Rw x3 h 26 [.int .u8 4, .int .u64 0, .int .u64 0, .int .i64 0, .int .i64 0, .slice none 0 0, .slice none 0 0, .int .u64 0, .slice none 0 0, .bool false]) := hide ((hg2.block h BX2.out.lt (fun e => HNE.out.1 (by injection e))).trans BX2.out); have ZX3 : Hid (Rw x3 hz 26 [.int .u8 0, .int .u64 0, .int .u64 0, .int .i64 0, .int .i64 0, .slice none 0 0, .slice none 0 0, .int .u64 0, .slice none 0 0, .bool false]) := hide ((hg2.block hz ZX2.out.lt (fun e => HNE.out.2.1 (by injection e))).trans ZX2.out); have Y3 : Hid (Only2 g h w x3) := hide (Y2.out.grown hg2 (fun b e => .inl (by injection e with e; exact e.symm))); have S3 : Hid (BB ≤ x3.heap.size) := hide (Nat.le_trans S2.out hg2.size); have cc := BX3.out.cell (i := 1) rfl; have ff := BX3.out.frozen 1; clear hr2 hg2)
  obtain ⟨w3, hgg, hB, hZ, hR, hY, hS⟩ : ∃ W, x3.setCell ⟨h, 1, none⟩ (.int .u64 tx) = W ∧ Rw W h 26 [.int .u8 4, .int .u64 tx, .int .u64 0, .int .i64 0, .int .i64 0, .slice none 0 0, .slice none 0 0, .int .u64 0, .slice none 0 0, .bool false] ∧ Rw W hz 26 [.int .u8 0, .int .u64 0, .int .u64 0, .int .i64 0, .int .i64 0, .slice none 0 0, .slice none 0 0, .int .u64 0, .slice none 0 0, .bool false] ∧ RdrAt w0 W g s3 ∧ Only2 g h w W ∧ BB ≤ W.heap.size := ⟨_, rfl, BX3.out.set 1 _, ZX3.out.far (fun e => HNE.out.2.2.1 e.symm) _, R3.out.same (Below.heap_setCell x3 ⟨h, 1, none⟩ _ g (fun e => HNE.out.1 e.symm)), Y3.out.set 1 _, Nat.le_trans S3.out (by simp [World.setCell])⟩
  rw [hgg]
  have BX3 := hide hB
  have ZX3 := hide hZ
  have R3 := hide hR
  have Y3 := hide hY
  have S3 := hide hS
  clear hgg hB hZ hR hY hS cc ff
  clear KN
  have cc := BX3.out.cell (i := 0) rfl
  go_upto_region 5 with (go_at_call 16; (with_reducible refine (KP.out _).mono ?_); rintro e xp ⟨rfl, hxp⟩; have XP := hide hxp; clear hxp)
  clear cc KP
  obtain ⟨w4, hXQ, hQ, hgg⟩ : ∃ W, Ext w3 W ∧ Rw W xp.heap.size 42 [.bool true, .bool false, .bool false, .bool false, .bool false] ∧ xp.alloc (.cells #[.bool true, .bool false, .bool false, .bool false, .bool false] 42) = W := ⟨_, XP.out.trans (Ext.alloc _ _), Rw.new _ _ _, rfl⟩
  rw [hgg]
  obtain ⟨hq, HHQ⟩ : ∃ hq, Hid (xp.heap.size = hq) := ⟨_, hide rfl⟩
  rw [HHQ.out] at hQ ⊢
  have BX4 := hide (BX3.out.ext hXQ)
  have ZX4 := hide (ZX3.out.ext hXQ)
  have R4 := hide (R3.out.ext hXQ)
  have Y4 := hide (Y3.out.ext hXQ)
  have S4 : Hid (BB ≤ w4.heap.size) := hide (Nat.le_trans S3.out hXQ.size)
  have QX4 := hide hQ
  have HQN : Hid (hq ≠ g ∧ hq ≠ h) := hide (by have h1 : BB ≤ xp.heap.size := Nat.le_trans S3.out XP.out.size; have := HHQ.out; have := HBL.out; omega)
  clear hgg hXQ hQ
  have q0 := QX4.out.cell (i := 0) rfl
  have q1 := QX4.out.cell (i := 1) rfl
  have q2 := QX4.out.cell (i := 2) rfl
  have q3 := QX4.out.cell (i := 3) rfl
  have q4 := QX4.out.cell (i := 4) rfl
  have KN := hide (number_8 g s3 w0 w4 (Y4.out.ofExt HX.out HG0.out HHW.out.1) R4.out HL3.out)
  obtain ⟨pv, HU5⟩ : ∃ u, Hid (num (tk 8 s3).1 = u) := ⟨_, hide rfl⟩
  rw [HU5.out] at KN
  obtain ⟨s5, HS5⟩ : ∃ s, Hid ((tk 8 s3).2 = s) := ⟨_, hide rfl⟩
  rw [HS5.out] at KN
  have HL5 : Hid (s5.1.length ≤ 140737488351232) := hide (by rw [← HS5.out]; exact Nat.le_trans (tk_left 8 s3) HL3.out)
  go_upto_region 7 with (go_at_call 32; (with_reducible refine KN.out.mono ?_); rintro e x5 ⟨_, rfl, rfl, hr2, hg2⟩; have R5 := hide hr2; have BX5 : Hid (Rw x5 h 26 [.int .u8 4, .int .u64 tx, .int .u64 0, .int .i64 0, .int .i64 0, .slice none 0 0, .slice none 0 0, .int .u64 0, .slice none 0 0, .bool false]) := hide ((hg2.block h BX4.out.lt (fun e => HNE.out.1 (by injection e))).trans BX4.out); have ZX5 : Hid (Rw x5 hz 26 [.int .u8 0, .int .u64 0, .int .u64 0, .int .i64 0, .int .i64 0, .slice none 0 0, .slice none 0 0, .int .u64 0, .slice none 0 0, .bool false]) := hide ((hg2.block hz ZX4.out.lt (fun e => HNE.out.2.1 (by injection e))).trans ZX4.out); have Y5 : Hid (Only2 g h w x5) := hide (Y4.out.grown hg2 (fun b e => .inl (by injection e with e; exact e.symm))); have S5 : Hid (BB ≤ x5.heap.size) := hide (Nat.le_trans S4.out hg2.size); have cc := BX5.out.cell (i := 2) rfl; have ff := BX5.out.frozen 2; have QX5 : Hid (Rw _ hq 42 [.bool true, .bool false, .bool false, .bool false, .bool false]) := hide ((hg2.block hq QX4.out.lt (fun e => HQN.out.1 (by injection e))).trans QX4.out); clear hr2 hg2)
  obtain ⟨w5, hgg, hB, hZ, hR, hY, hS⟩ : ∃ W, x5.setCell ⟨h, 2, none⟩ (.int .u64 pv) = W ∧ Rw W h 26 [.int .u8 4, .int .u64 tx, .int .u64 pv, .int .i64 0, .int .i64 0, .slice none 0 0, .slice none 0 0, .int .u64 0, .slice none 0 0, .bool false] ∧ Rw W hz 26 [.int .u8 0, .int .u64 0, .int .u64 0, .int .i64 0, .int .i64 0, .slice none 0 0, .slice none 0 0, .int .u64 0, .slice none 0 0, .bool false] ∧ RdrAt w0 W g s5 ∧ Only2 g h w W ∧ BB ≤ W.heap.size := ⟨_, rfl, BX5.out.set 2 _, ZX5.out.far (fun e => HNE.out.2.2.1 e.symm) _, R5.out.same (Below.heap_setCell x5 ⟨h, 2, none⟩ _ g (fun e => HNE.out.1 e.symm)), Y5.out.set 2 _, Nat.le_trans S5.out (by simp [World.setCell])⟩
  rw [hgg]
  have QX5 := hide (hgg ▸ (QX5.out.far (p := ⟨h, 2, none⟩) HQN.out.2 (.int .u64 pv)))
  have BX5 := hide hB
  have ZX5 := hide hZ
  have R5 := hide hR
  have Y5 := hide hY
  have S5 := hide hS
  clear hgg hB hZ hR hY hS cc ff
  clear KN
  clear q0 q1 q2 q3 q4
  have q0 := QX5.out.cell (i := 0) rfl
  have q1 := QX5.out.cell (i := 1) rfl
  have q2 := QX5.out.cell (i := 2) rfl
  have q3 := QX5.out.cell (i := 3) rfl
  have q4 := QX5.out.cell (i := 4) rfl
  have z0 := ZX5.out.cell (i := 0) rfl
  have z1 := ZX5.out.cell (i := 1) rfl
  have z2 := ZX5.out.cell (i := 2) rfl
  have z3 := ZX5.out.cell (i := 3) rfl
  have z4 := ZX5.out.cell (i := 4) rfl
  have z5 := ZX5.out.cell (i := 5) rfl
  have z6 := ZX5.out.cell (i := 6) rfl
  have z7 := ZX5.out.cell (i := 7) rfl
  have z8 := ZX5.out.cell (i := 8) rfl
  have z9 := ZX5.out.cell (i := 9) rfl
  have y0 := BX5.out.cell (i := 0) rfl
  have y1 := BX5.out.cell (i := 1) rfl
  have y2 := BX5.out.cell (i := 2) rfl
  have y3 := BX5.out.cell (i := 3) rfl
  have y4 := BX5.out.cell (i := 4) rfl
  have y5 := BX5.out.cell (i := 5) rfl
  have y6 := BX5.out.cell (i := 6) rfl
  have y7 := BX5.out.cell (i := 7) rfl
  have y8 := BX5.out.cell (i := 8) rfl
  have y9 := BX5.out.cell (i := 9) rfl
  have f0 := ZX5.out.frozen 0
  have f1 := ZX5.out.frozen 1
  have f2 := ZX5.out.frozen 2
  have f3 := ZX5.out.frozen 3
  have f4 := ZX5.out.frozen 4
  have f5 := ZX5.out.frozen 5
  have f6 := ZX5.out.frozen 6
  have f7 := ZX5.out.frozen 7
  have f8 := ZX5.out.frozen 8
  have f9 := ZX5.out.frozen 9
  go_wp2
  have ZZ := ((((((((((ZX5.out.set 0 (.int .u8 4)).set 1 (.int .u64 tx)).set 2 (.int .u64 pv)).set 3 (.int .i64 0)).set 4 (.int .i64 0)).set 5 (.slice none 0 0)).set 6 (.slice none 0 0)).set 7 (.int .u64 0)).set 8 (.slice none 0 0)).set 9 (.bool false))
  have HS10 := sets_only hz [(0, .int .u8 4), (1, .int .u64 tx), (2, .int .u64 pv), (3, .int .i64 0), (4, .int .i64 0), (5, .slice none 0 0), (6, .slice none 0 0), (7, .int .u64 0), (8, .slice none 0 0), (9, .bool false)] w5
  simp only [List.foldl_cons, List.foldl_nil] at HS10
  obtain ⟨wz, hwz⟩ : ∃ wz, ((((((((((w5).setCell ⟨hz, 0, none⟩ (.int .u8 4)).setCell ⟨hz, 1, none⟩ (.int .u64 tx)).setCell ⟨hz, 2, none⟩ (.int .u64 pv)).setCell ⟨hz, 3, none⟩ (.int .i64 0)).setCell ⟨hz, 4, none⟩ (.int .i64 0)).setCell ⟨hz, 5, none⟩ (.slice none 0 0)).setCell ⟨hz, 6, none⟩ (.slice none 0 0)).setCell ⟨hz, 7, none⟩ (.int .u64 0)).setCell ⟨hz, 8, none⟩ (.slice none 0 0)).setCell ⟨hz, 9, none⟩ (.bool false) = wz := ⟨_, rfl⟩
  rw [hwz] at HS10 ZZ ⊢
  obtain ⟨q1, q2, q3, q4, hsame⟩ := HS10
  clear hwz
  have e0 := ZZ.cell (i := 0) rfl
  have e1 := ZZ.cell (i := 1) rfl
  have e2 := ZZ.cell (i := 2) rfl
  have e3 := ZZ.cell (i := 3) rfl
  have e4 := ZZ.cell (i := 4) rfl
  have e5 := ZZ.cell (i := 5) rfl
  have e6 := ZZ.cell (i := 6) rfl
  have e7 := ZZ.cell (i := 7) rfl
  have e8 := ZZ.cell (i := 8) rfl
  have e9 := ZZ.cell (i := 9) rfl
  have HRD : rdRec st = (⟨4, tx, pv, 0, 0, [], [], 0, [], false⟩, s5) := by
    simp [rdRec, rdN, rdB, rdD, HK.out, HS2.out, HU3.out, HS3.out, HU5.out, HS5.out, hpv, hch, hbf, hnx, hck]
  rw [HRD]
  have YG : w.grownBy wz (some g) := by
    have h1 := Y5.out.to1 HHW.out.2.1
    exact ⟨q1.trans h1.os, q2.trans h1.tape, q3.trans h1.output, Nat.le_trans h1.size (Nat.le_of_eq q4.symm), fun b hb hne => (hsame b (by have := HHW.out; omega)).trans (h1.block b hb hne)⟩
  refine bodyPost_ret (v := .agg #[.int .u8 4, .int .u64 tx, .int .u64 pv, .int .i64 0, .int .i64 0, .slice none 0 0, .slice none 0 0, .int .u64 0, .slice none 0 0, .bool false]) (by simp [results, Tryd.results23, go_sem, e0, e1, e2, e3, e4, e5, e6, e7, e8, e9]; try rfl) rfl ?_
  exact ⟨_, _, _, rfl, Own.nil _ _, Own.nil _ _, OwnD.nil _ _, R5.out.same (hsame g (fun e => HNE.out.2.1 e.symm)), YG, fun b hb => by cases hb⟩
end Go.Proofs.YthdahgekodcloaaDoor
namespace Go.Proofs.YthdahgekodcloaaDoor
open Go.RowKit

set_option maxRecDepth 20000 in
set_option maxHeartbeats 1600000 in
theorem record_5 (g : Nat) (st : List UInt8 × Bool) (w0 w : World) (hx : Ext w0 w) (hg0 : w0.heap.size ≤ g) (hr : RdrAt w0 w g st) (hl : st.1.length ≤ 140737488351232) (hk : num (tk 1 st).1 = 5) :
    Calls Tryd.prog 23 #[.pointer (some ⟨g, 0, none⟩)] w (RecP w0 w g (rdRec st)) := by
  have HX := hide hx
  have HG0 := hide hg0
  have HGL := hide hr.lt
  have HK := hide hk
  have HL0 := hide hl
  have R0 := hide hr
  have KP := hide (fun (W : World) => (show Calls Tryd.prog 16 #[.int .u8 5] W (fun e w' => e = .returned (.tuple #[.agg #[.bool true, .bool false, .bool false, .bool false, .bool false], .bool true]) ∧ Ext W w') from partsOf_any 5 W))
  clear hx hg0 hr hl hk
  go_enter Tryd.func23, Tryd.ntmps23
  go_upto_region 2 with fail
  obtain ⟨W1, hX1, hRz, hRh, hgg⟩ : ∃ W1, Ext w W1 ∧ Rw W1 w.heap.size 26 [.int .u8 0, .int .u64 0, .int .u64 0, .int .i64 0, .int .i64 0, .slice none 0 0, .slice none 0 0, .int .u64 0, .slice none 0 0, .bool false] ∧ Rw W1 (w.heap.size + 1) 26 [.int .u8 0, .int .u64 0, .int .u64 0, .int .i64 0, .int .i64 0, .slice none 0 0, .slice none 0 0, .int .u64 0, .slice none 0 0, .bool false] ∧ (w.alloc (.cells #[.int .u8 0, .int .u64 0, .int .u64 0, .int .i64 0, .int .i64 0, .slice none 0 0, .slice none 0 0, .int .u64 0, .slice none 0 0, .bool false] 26)).alloc (.cells #[.int .u8 0, .int .u64 0, .int .u64 0, .int .i64 0, .int .i64 0, .slice none 0 0, .slice none 0 0, .int .u64 0, .slice none 0 0, .bool false] 26) = W1 := ⟨_, (Ext.alloc _ _).trans (Ext.alloc _ _), (Rw.new w 26 [.int .u8 0, .int .u64 0, .int .u64 0, .int .i64 0, .int .i64 0, .slice none 0 0, .slice none 0 0, .int .u64 0, .slice none 0 0, .bool false]).ext (Ext.alloc _ _), (by have h := Rw.new (w.alloc (.cells #[.int .u8 0, .int .u64 0, .int .u64 0, .int .i64 0, .int .i64 0, .slice none 0 0, .slice none 0 0, .int .u64 0, .slice none 0 0, .bool false] 26)) 26 [.int .u8 0, .int .u64 0, .int .u64 0, .int .i64 0, .int .i64 0, .slice none 0 0, .slice none 0 0, .int .u64 0, .slice none 0 0, .bool false]; rwa [show (w.alloc (.cells #[.int .u8 0, .int .u64 0, .int .u64 0, .int .i64 0, .int .i64 0, .slice none 0 0, .slice none 0 0, .int .u64 0, .slice none 0 0, .bool false] 26)).heap.size = w.heap.size + 1 by simp] at h), rfl⟩
  rw [hgg]
  obtain ⟨hz, HHZ⟩ : ∃ hz, Hid (w.heap.size = hz) := ⟨_, hide rfl⟩
  rw [HHZ.out] at hRz hRh ⊢
  obtain ⟨h, HHH⟩ : ∃ h, Hid (hz + 1 = h) := ⟨_, hide rfl⟩
  rw [HHH.out] at hRh
  try rw [HHH.out]
  have BX1 := hide hRh
  have ZX1 := hide hRz
  have R1 := hide (R0.out.ext hX1)
  have Y1 : Hid (Only2 g h w W1) := hide ((Only2.refl g h w).ext hX1)
  have HNE : Hid (h ≠ g ∧ hz ≠ g ∧ h ≠ hz ∧ hz < h) := hide (by have := HGL.out; have := HHZ.out; have := HHH.out; omega)
  have HHW : Hid (w0.heap.size ≤ h ∧ w.heap.size ≤ h ∧ w.heap.size ≤ hz) := hide (by have := HX.out.size; have := HHZ.out; have := HHH.out; omega)
  obtain ⟨BB, HBB⟩ : ∃ BB, Hid (W1.heap.size = BB) := ⟨_, hide rfl⟩
  have HBL : Hid (h < BB ∧ hz < BB ∧ g < BB ∧ w.heap.size ≤ BB) := hide (by rw [← HBB.out]; exact ⟨BX1.out.lt, ZX1.out.lt, R1.out.lt, hX1.size⟩)
  have S1 : Hid (BB ≤ W1.heap.size) := hide (by rw [HBB.out]; exact Nat.le_refl _)
  clear hgg hX1 hRz hRh R0
  have KN := hide (number_1 g st w0 W1 (Y1.out.ofExt HX.out HG0.out HHW.out.1) R1.out HL0.out)
  rw [HK.out] at KN
  obtain ⟨s2, HS2⟩ : ∃ s, Hid ((tk 1 st).2 = s) := ⟨_, hide rfl⟩
  rw [HS2.out] at KN
  have HL2 : Hid (s2.1.length ≤ 140737488351232) := hide (by rw [← HS2.out]; exact Nat.le_trans (tk_left 1 st) HL0.out)
  go_upto_region 3 with (go_at_call 32; (with_reducible refine KN.out.mono ?_); rintro e x2 ⟨_, rfl, rfl, hr2, hg2⟩; have R2 := hide hr2; have BX2 : Hid (Rw x2 h 26 [.int .u8 0, .int .u64 0, .int .u64 0, .int .i64 0, .int .i64 0, .slice none 0 0, .slice none 0 0, .int .u64 0, .slice none 0 0, .bool false]) := hide ((hg2.block h BX1.out.lt (fun e => HNE.out.1 (by injection e))).trans BX1.out); have ZX2 : Hid (Rw x2 hz 26 [.int .u8 0, .int .u64 0, .int .u64 0, .int .i64 0, .int .i64 0, .slice none 0 0, .slice none 0 0, .int .u64 0, .slice none 0 0, .bool false]) := hide ((hg2.block hz ZX1.out.lt (fun e => HNE.out.2.1 (by injection e))).trans ZX1.out); have Y2 : Hid (Only2 g h w x2) := hide (Y1.out.grown hg2 (fun b e => .inl (by injection e with e; exact e.symm))); have S2 : Hid (BB ≤ x2.heap.size) := hide (Nat.le_trans S1.out hg2.size); have cc := BX2.out.cell (i := 0) rfl; have ff := BX2.out.frozen 0; clear hr2 hg2)
  obtain ⟨w2, hgg, hB, hZ, hR, hY, hS⟩ : ∃ W, x2.setCell ⟨h, 0, none⟩ (.int .u8 5) = W ∧ Rw W h 26 [.int .u8 5, .int .u64 0, .int .u64 0, .int .i64 0, .int .i64 0, .slice none 0 0, .slice none 0 0, .int .u64 0, .slice none 0 0, .bool false] ∧ Rw W hz 26 [.int .u8 0, .int .u64 0, .int .u64 0, .int .i64 0, .int .i64 0, .slice none 0 0, .slice none 0 0, .int .u64 0, .slice none 0 0, .bool false] ∧ RdrAt w0 W g s2 ∧ Only2 g h w W ∧ BB ≤ W.heap.size := ⟨_, rfl, BX2.out.set 0 _, ZX2.out.far (fun e => HNE.out.2.2.1 e.symm) _, R2.out.same (Below.heap_setCell x2 ⟨h, 0, none⟩ _ g (fun e => HNE.out.1 e.symm)), Y2.out.set 0 _, Nat.le_trans S2.out (by simp [World.setCell])⟩
  rw [hgg]
  have BX2 := hide hB
  have ZX2 := hide hZ
  have R2 := hide hR
  have Y2 := hide hY
  have S2 := hide hS
  clear hgg hB hZ hR hY hS cc ff
  clear KN
  have KN := hide (number_8 g s2 w0 w2 (Y2.out.ofExt HX.out HG0.out HHW.out.1) R2.out HL2.out)
  obtain ⟨tx, HU3⟩ : ∃ u, Hid (num (tk 8 s2).1 = u) := ⟨_, hide rfl⟩
  rw [HU3.out] at KN
  obtain ⟨s3, HS3⟩ : ∃ s, Hid ((tk 8 s2).2 = s) := ⟨_, hide rfl⟩
  rw [HS3.out] at KN
  have HL3 : Hid (s3.1.length ≤ 140737488351232) := hide (by rw [← HS3.out]; exact Nat.le_trans (tk_left 8 s2) HL2.out)
  go_upto_region 4 with (go_at_call 32; (with_reducible refine KN.out.mono ?_); rintro e x3 ⟨_, rfl, rfl, hr2, hg2⟩; have R3 := hide hr2; have BX3 : Hid (Rw x3 h 26 [.int .u8 5, .int .u64 0, .int .u64 0, .int .i64 0, .int .i64 0, .slice none 0 0, .slice none 0 0, .int .u64 0, .slice none 0 0, .bool false]) := hide ((hg2.block h BX2.out.lt (fun e => HNE.out.1 (by injection e))).trans BX2.out); have ZX3 : Hid (Rw x3 hz 26 [.int .u8 0, .int .u64 0, .int .u64 0, .int .i64 0, .int .i64 0, .slice none 0 0, .slice none 0 0, .int .u64 0, .slice none 0 0, .bool false]) := hide ((hg2.block hz ZX2.out.lt (fun e => HNE.out.2.1 (by injection e))).trans ZX2.out); have Y3 : Hid (Only2 g h w x3) := hide (Y2.out.grown hg2 (fun b e => .inl (by injection e with e; exact e.symm))); have S3 : Hid (BB ≤ x3.heap.size) := hide (Nat.le_trans S2.out hg2.size); have cc := BX3.out.cell (i := 1) rfl; have ff := BX3.out.frozen 1; clear hr2 hg2)
  obtain ⟨w3, hgg, hB, hZ, hR, hY, hS⟩ : ∃ W, x3.setCell ⟨h, 1, none⟩ (.int .u64 tx) = W ∧ Rw W h 26 [.int .u8 5, .int .u64 tx, .int .u64 0, .int .i64 0, .int .i64 0, .slice none 0 0, .slice none 0 0, .int .u64 0, .slice none 0 0, .bool false] ∧ Rw W hz 26 [.int .u8 0, .int .u64 0, .int .u64 0, .int .i64 0, .int .i64 0, .slice none 0 0, .slice none 0 0, .int .u64 0, .slice none 0 0, .bool false] ∧ RdrAt w0 W g s3 ∧ Only2 g h w W ∧ BB ≤ W.heap.size := ⟨_, rfl, BX3.out.set 1 _, ZX3.out.far (fun e => HNE.out.2.2.1 e.symm) _, R3.out.same (Below.heap_setCell x3 ⟨h, 1, none⟩ _ g (fun e => HNE.out.1 e.symm)), Y3.out.set 1 _, Nat.le_trans S3.out (by simp [World.setCell])⟩
  rw [hgg]
  have BX3 := hide hB
  have ZX3 := hide hZ
  have R3 := hide hR
  have Y3 := hide hY
  have S3 := hide hS
  clear hgg hB hZ hR hY hS cc ff
  clear KN
  have cc := BX3.out.cell (i := 0) rfl
  go_upto_region 5 with (go_at_call 16; (with_reducible refine (KP.out _).mono ?_); rintro e xp ⟨rfl, hxp⟩; have XP := hide hxp; clear hxp)
  clear cc KP
  obtain ⟨w4, hXQ, hQ, hgg⟩ : ∃ W, Ext w3 W ∧ Rw W xp.heap.size 42 [.bool true, .bool false, .bool false, .bool false, .bool false] ∧ xp.alloc (.cells #[.bool true, .bool false, .bool false, .bool false, .bool false] 42) = W := ⟨_, XP.out.trans (Ext.alloc _ _), Rw.new _ _ _, rfl⟩
  rw [hgg]
  obtain ⟨hq, HHQ⟩ : ∃ hq, Hid (xp.heap.size = hq) := ⟨_, hide rfl⟩
  rw [HHQ.out] at hQ ⊢
  have BX4 := hide (BX3.out.ext hXQ)
  have ZX4 := hide (ZX3.out.ext hXQ)
  have R4 := hide (R3.out.ext hXQ)
  have Y4 := hide (Y3.out.ext hXQ)
  have S4 : Hid (BB ≤ w4.heap.size) := hide (Nat.le_trans S3.out hXQ.size)
  have QX4 := hide hQ
  have HQN : Hid (hq ≠ g ∧ hq ≠ h) := hide (by have h1 : BB ≤ xp.heap.size := Nat.le_trans S3.out XP.out.size; have := HHQ.out; have := HBL.out; omega)
  clear hgg hXQ hQ
  have q0 := QX4.out.cell (i := 0) rfl
  have q1 := QX4.out.cell (i := 1) rfl
  have q2 := QX4.out.cell (i := 2) rfl
  have q3 := QX4.out.cell (i := 3) rfl
  have q4 := QX4.out.cell (i := 4) rfl
  have KN := hide (number_8 g s3 w0 w4 (Y4.out.ofExt HX.out HG0.out HHW.out.1) R4.out HL3.out)
  obtain ⟨pv, HU5⟩ : ∃ u, Hid (num (tk 8 s3).1 = u) := ⟨_, hide rfl⟩
  rw [HU5.out] at KN
  obtain ⟨s5, HS5⟩ : ∃ s, Hid ((tk 8 s3).2 = s) := ⟨_, hide rfl⟩
  rw [HS5.out] at KN
  have HL5 : Hid (s5.1.length ≤ 140737488351232) := hide (by rw [← HS5.out]; exact Nat.le_trans (tk_left 8 s3) HL3.out)
  go_upto_region 7 with (go_at_call 32; (with_reducible refine KN.out.mono ?_); rintro e x5 ⟨_, rfl, rfl, hr2, hg2⟩; have R5 := hide hr2; have BX5 : Hid (Rw x5 h 26 [.int .u8 5, .int .u64 tx, .int .u64 0, .int .i64 0, .int .i64 0, .slice none 0 0, .slice none 0 0, .int .u64 0, .slice none 0 0, .bool false]) := hide ((hg2.block h BX4.out.lt (fun e => HNE.out.1 (by injection e))).trans BX4.out); have ZX5 : Hid (Rw x5 hz 26 [.int .u8 0, .int .u64 0, .int .u64 0, .int .i64 0, .int .i64 0, .slice none 0 0, .slice none 0 0, .int .u64 0, .slice none 0 0, .bool false]) := hide ((hg2.block hz ZX4.out.lt (fun e => HNE.out.2.1 (by injection e))).trans ZX4.out); have Y5 : Hid (Only2 g h w x5) := hide (Y4.out.grown hg2 (fun b e => .inl (by injection e with e; exact e.symm))); have S5 : Hid (BB ≤ x5.heap.size) := hide (Nat.le_trans S4.out hg2.size); have cc := BX5.out.cell (i := 2) rfl; have ff := BX5.out.frozen 2; have QX5 : Hid (Rw _ hq 42 [.bool true, .bool false, .bool false, .bool false, .bool false]) := hide ((hg2.block hq QX4.out.lt (fun e => HQN.out.1 (by injection e))).trans QX4.out); clear hr2 hg2)
  obtain ⟨w5, hgg, hB, hZ, hR, hY, hS⟩ : ∃ W, x5.setCell ⟨h, 2, none⟩ (.int .u64 pv) = W ∧ Rw W h 26 [.int .u8 5, .int .u64 tx, .int .u64 pv, .int .i64 0, .int .i64 0, .slice none 0 0, .slice none 0 0, .int .u64 0, .slice none 0 0, .bool false] ∧ Rw W hz 26 [.int .u8 0, .int .u64 0, .int .u64 0, .int .i64 0, .int .i64 0, .slice none 0 0, .slice none 0 0, .int .u64 0, .slice none 0 0, .bool false] ∧ RdrAt w0 W g s5 ∧ Only2 g h w W ∧ BB ≤ W.heap.size := ⟨_, rfl, BX5.out.set 2 _, ZX5.out.far (fun e => HNE.out.2.2.1 e.symm) _, R5.out.same (Below.heap_setCell x5 ⟨h, 2, none⟩ _ g (fun e => HNE.out.1 e.symm)), Y5.out.set 2 _, Nat.le_trans S5.out (by simp [World.setCell])⟩
  rw [hgg]
  have QX5 := hide (hgg ▸ (QX5.out.far (p := ⟨h, 2, none⟩) HQN.out.2 (.int .u64 pv)))
  have BX5 := hide hB
  have ZX5 := hide hZ
  have R5 := hide hR
  have Y5 := hide hY
  have S5 := hide hS
  clear hgg hB hZ hR hY hS cc ff
  clear KN
  clear q0 q1 q2 q3 q4
  have q0 := QX5.out.cell (i := 0) rfl
  have q1 := QX5.out.cell (i := 1) rfl
  have q2 := QX5.out.cell (i := 2) rfl
  have q3 := QX5.out.cell (i := 3) rfl
  have q4 := QX5.out.cell (i := 4) rfl
  have z0 := ZX5.out.cell (i := 0) rfl
  have z1 := ZX5.out.cell (i := 1) rfl
  have z2 := ZX5.out.cell (i := 2) rfl
  have z3 := ZX5.out.cell (i := 3) rfl
  have z4 := ZX5.out.cell (i := 4) rfl
  have z5 := ZX5.out.cell (i := 5) rfl
  have z6 := ZX5.out.cell (i := 6) rfl
  have z7 := ZX5.out.cell (i := 7) rfl
  have z8 := ZX5.out.cell (i := 8) rfl
  have z9 := ZX5.out.cell (i := 9) rfl
  have y0 := BX5.out.cell (i := 0) rfl
  have y1 := BX5.out.cell (i := 1) rfl
  have y2 := BX5.out.cell (i := 2) rfl
  have y3 := BX5.out.cell (i := 3) rfl
  have y4 := BX5.out.cell (i := 4) rfl
  have y5 := BX5.out.cell (i := 5) rfl
  have y6 := BX5.out.cell (i := 6) rfl
  have y7 := BX5.out.cell (i := 7) rfl
  have y8 := BX5.out.cell (i := 8) rfl
  have y9 := BX5.out.cell (i := 9) rfl
  have f0 := ZX5.out.frozen 0
  have f1 := ZX5.out.frozen 1
  have f2 := ZX5.out.frozen 2
  have f3 := ZX5.out.frozen 3
  have f4 := ZX5.out.frozen 4
  have f5 := ZX5.out.frozen 5
  have f6 := ZX5.out.frozen 6
  have f7 := ZX5.out.frozen 7
  have f8 := ZX5.out.frozen 8
  have f9 := ZX5.out.frozen 9
  go_wp2
  have ZZ := ((((((((((ZX5.out.set 0 (.int .u8 5)).set 1 (.int .u64 tx)).set 2 (.int .u64 pv)).set 3 (.int .i64 0)).set 4 (.int .i64 0)).set 5 (.slice none 0 0)).set 6 (.slice none 0 0)).set 7 (.int .u64 0)).set 8 (.slice none 0 0)).set 9 (.bool false))
  have HS10 := sets_only hz [(0, .int .u8 5), (1, .int .u64 tx), (2, .int .u64 pv), (3, .int .i64 0), (4, .int .i64 0), (5, .slice none 0 0), (6, .slice none 0 0), (7, .int .u64 0), (8, .slice none 0 0), (9, .bool false)] w5
  simp only [List.foldl_cons, List.foldl_nil] at HS10
  obtain ⟨wz, hwz⟩ : ∃ wz, ((((((((((w5).setCell ⟨hz, 0, none⟩ (.int .u8 5)).setCell ⟨hz, 1, none⟩ (.int .u64 tx)).setCell ⟨hz, 2, none⟩ (.int .u64 pv)).setCell ⟨hz, 3, none⟩ (.int .i64 0)).setCell ⟨hz, 4, none⟩ (.int .i64 0)).setCell ⟨hz, 5, none⟩ (.slice none 0 0)).setCell ⟨hz, 6, none⟩ (.slice none 0 0)).setCell ⟨hz, 7, none⟩ (.int .u64 0)).setCell ⟨hz, 8, none⟩ (.slice none 0 0)).setCell ⟨hz, 9, none⟩ (.bool false) = wz := ⟨_, rfl⟩
  rw [hwz] at HS10 ZZ ⊢
  obtain ⟨q1, q2, q3, q4, hsame⟩ := HS10
  clear hwz
  have e0 := ZZ.cell (i := 0) rfl
  have e1 := ZZ.cell (i := 1) rfl
  have e2 := ZZ.cell (i := 2) rfl
  have e3 := ZZ.cell (i := 3) rfl
  have e4 := ZZ.cell (i := 4) rfl
  have e5 := ZZ.cell (i := 5) rfl
  have e6 := ZZ.cell (i := 6) rfl
  have e7 := ZZ.cell (i := 7) rfl
  have e8 := ZZ.cell (i := 8) rfl
  have e9 := ZZ.cell (i := 9) rfl
  have HRD : rdRec st = (⟨5, tx, pv, 0, 0, [], [], 0, [], false⟩, s5) := by
    simp [rdRec, rdN, rdB, rdD, HK.out, HS2.out, HU3.out, HS3.out, HU5.out, HS5.out, hpv, hch, hbf, hnx, hck]
  rw [HRD]
  have YG : w.grownBy wz (some g) := by
    have h1 := Y5.out.to1 HHW.out.2.1
    exact ⟨q1.trans h1.os, q2.trans h1.tape, q3.trans h1.output, Nat.le_trans h1.size (Nat.le_of_eq q4.symm), fun b hb hne => (hsame b (by have := HHW.out; omega)).trans (h1.block b hb hne)⟩
  refine bodyPost_ret (v := .agg #[.int .u8 5, .int .u64 tx, .int .u64 pv, .int .i64 0, .int .i64 0, .slice none 0 0, .slice none 0 0, .int .u64 0, .slice none 0 0, .bool false]) (by simp [results, Tryd.results23, go_sem, e0, e1, e2, e3, e4, e5, e6, e7, e8, e9]; try rfl) rfl ?_
  exact ⟨_, _, _, rfl, Own.nil _ _, Own.nil _ _, OwnD.nil _ _, R5.out.same (hsame g (fun e => HNE.out.2.1 e.symm)), YG, fun b hb => by cases hb⟩
end Go.Proofs.YthdahgekodcloaaDoor
namespace Go.Proofs.YthdahgekodcloaaDoor
open Go.RowKit

set_option maxRecDepth 20000 in
set_option maxHeartbeats 1600000 in
theorem record_6 (g : Nat) (st : List UInt8 × Bool) (w0 w : World) (hx : Ext w0 w) (hg0 : w0.heap.size ≤ g) (hr : RdrAt w0 w g st) (hl : st.1.length ≤ 140737488351232) (hk : num (tk 1 st).1 = 6) :
    Calls Tryd.prog 23 #[.pointer (some ⟨g, 0, none⟩)] w (RecP w0 w g (rdRec st)) := by
  have HX := hide hx
  have HG0 := hide hg0
  have HGL := hide hr.lt
  have HK := hide hk
  have HL0 := hide hl
  have R0 := hide hr
  have KP := hide (fun (W : World) => (show Calls Tryd.prog 16 #[.int .u8 6] W (fun e w' => e = .returned (.tuple #[.agg #[.bool true, .bool false, .bool false, .bool false, .bool true], .bool true]) ∧ Ext W w') from partsOf_any 6 W))
  clear hx hg0 hr hl hk
  go_enter Tryd.func23, Tryd.ntmps23
  go_upto_region 2 with fail
  obtain ⟨W1, hX1, hRz, hRh, hgg⟩ : ∃ W1, Ext w W1 ∧ Rw W1 w.heap.size 26 [.int .u8 0, .int .u64 0, .int .u64 0, .int .i64 0, .int .i64 0, .slice none 0 0, .slice none 0 0, .int .u64 0, .slice none 0 0, .bool false] ∧ Rw W1 (w.heap.size + 1) 26 [.int .u8 0, .int .u64 0, .int .u64 0, .int .i64 0, .int .i64 0, .slice none 0 0, .slice none 0 0, .int .u64 0, .slice none 0 0, .bool false] ∧ (w.alloc (.cells #[.int .u8 0, .int .u64 0, .int .u64 0, .int .i64 0, .int .i64 0, .slice none 0 0, .slice none 0 0, .int .u64 0, .slice none 0 0, .bool false] 26)).alloc (.cells #[.int .u8 0, .int .u64 0, .int .u64 0, .int .i64 0, .int .i64 0, .slice none 0 0, .slice none 0 0, .int .u64 0, .slice none 0 0, .bool false] 26) = W1 := ⟨_, (Ext.alloc _ _).trans (Ext.alloc _ _), (Rw.new w 26 [.int .u8 0, .int .u64 0, .int .u64 0, .int .i64 0, .int .i64 0, .slice none 0 0, .slice none 0 0, .int .u64 0, .slice none 0 0, .bool false]).ext (Ext.alloc _ _), (by have h := Rw.new (w.alloc (.cells #[.int .u8 0, .int .u64 0, .int .u64 0, .int .i64 0, .int .i64 0, .slice none 0 0, .slice none 0 0, .int .u64 0, .slice none 0 0, .bool false] 26)) 26 [.int .u8 0, .int .u64 0, .int .u64 0, .int .i64 0, .int .i64 0, .slice none 0 0, .slice none 0 0, .int .u64 0, .slice none 0 0, .bool false]; rwa [show (w.alloc (.cells #[.int .u8 0, .int .u64 0, .int .u64 0, .int .i64 0, .int .i64 0, .slice none 0 0, .slice none 0 0, .int .u64 0, .slice none 0 0, .bool false] 26)).heap.size = w.heap.size + 1 by simp] at h), rfl⟩
  rw [hgg]
  obtain ⟨hz, HHZ⟩ : ∃ hz, Hid (w.heap.size = hz) := ⟨_, hide rfl⟩
  rw [HHZ.out] at hRz hRh ⊢
  obtain ⟨h, HHH⟩ : ∃ h, Hid (hz + 1 = h) := ⟨_, hide rfl⟩
  rw [HHH.out] at hRh
  try rw [HHH.out]
  have BX1 := hide hRh
  have ZX1 := hide hRz
  have R1 := hide (R0.out.ext hX1)
  have Y1 : Hid (Only2 g h w W1) := hide ((Only2.refl g h w).ext hX1)
  have HNE : Hid (h ≠ g ∧ hz ≠ g ∧ h ≠ hz ∧ hz < h) := hide (by have := HGL.out; have := HHZ.out; have := HHH.out; omega)
  have HHW : Hid (w0.heap.size ≤ h ∧ w.heap.size ≤ h ∧ w.heap.size ≤ hz) := hide (by have := HX.out.size; have := HHZ.out; have := HHH.out; omega)
  obtain ⟨BB, HBB⟩ : ∃ BB, Hid (W1.heap.size = BB) := ⟨_, hide rfl⟩
  have HBL : Hid (h < BB ∧ hz < BB ∧ g < BB ∧ w.heap.size ≤ BB) := hide (by rw [← HBB.out]; exact ⟨BX1.out.lt, ZX1.out.lt, R1.out.lt, hX1.size⟩)
  have S1 : Hid (BB ≤ W1.heap.size) := hide (by rw [HBB.out]; exact Nat.le_refl _)
  clear hgg hX1 hRz hRh R0
  have KN := hide (number_1 g st w0 W1 (Y1.out.ofExt HX.out HG0.out HHW.out.1) R1.out HL0.out)
  rw [HK.out] at KN
  obtain ⟨s2, HS2⟩ : ∃ s, Hid ((tk 1 st).2 = s) := ⟨_, hide rfl⟩
  rw [HS2.out] at KN
  have HL2 : Hid (s2.1.length ≤ 140737488351232) := hide (by rw [← HS2.out]; exact Nat.le_trans (tk_left 1 st) HL0.out)
  go_upto_region 3 with (go_at_call 32; (with_reducible refine KN.out.mono ?_); rintro e x2 ⟨_, rfl, rfl, hr2, hg2⟩; have R2 := hide hr2; have BX2 : Hid (Rw x2 h 26 [.int .u8 0, .int .u64 0, .int .u64 0, .int .i64 0, .int .i64 0, .slice none 0 0, .slice none 0 0, .int .u64 0, .slice none 0 0, .bool false]) := hide ((hg2.block h BX1.out.lt (fun e => HNE.out.1 (by injection e))).trans BX1.out); have ZX2 : Hid (Rw x2 hz 26 [.int .u8 0, .int .u64 0, .int .u64 0, .int .i64 0, .int .i64 0, .slice none 0 0, .slice none 0 0, .int .u64 0, .slice none 0 0, .bool false]) := hide ((hg2.block hz ZX1.out.lt (fun e => HNE.out.2.1 (by injection e))).trans ZX1.out); have Y2 : Hid (Only2 g h w x2) := hide (Y1.out.grown hg2 (fun b e => .inl (by injection e with e; exact e.symm))); have S2 : Hid (BB ≤ x2.heap.size) := hide (Nat.le_trans S1.out hg2.size); have cc := BX2.out.cell (i := 0) rfl; have ff := BX2.out.frozen 0; clear hr2 hg2)
  obtain ⟨w2, hgg, hB, hZ, hR, hY, hS⟩ : ∃ W, x2.setCell ⟨h, 0, none⟩ (.int .u8 6) = W ∧ Rw W h 26 [.int .u8 6, .int .u64 0, .int .u64 0, .int .i64 0, .int .i64 0, .slice none 0 0, .slice none 0 0, .int .u64 0, .slice none 0 0, .bool false] ∧ Rw W hz 26 [.int .u8 0, .int .u64 0, .int .u64 0, .int .i64 0, .int .i64 0, .slice none 0 0, .slice none 0 0, .int .u64 0, .slice none 0 0, .bool false] ∧ RdrAt w0 W g s2 ∧ Only2 g h w W ∧ BB ≤ W.heap.size := ⟨_, rfl, BX2.out.set 0 _, ZX2.out.far (fun e => HNE.out.2.2.1 e.symm) _, R2.out.same (Below.heap_setCell x2 ⟨h, 0, none⟩ _ g (fun e => HNE.out.1 e.symm)), Y2.out.set 0 _, Nat.le_trans S2.out (by simp [World.setCell])⟩
  rw [hgg]
  have BX2 := hide hB
  have ZX2 := hide hZ
  have R2 := hide hR
  have Y2 := hide hY
  have S2 := hide hS
  clear hgg hB hZ hR hY hS cc ff
  clear KN
  have KN := hide (number_8 g s2 w0 w2 (Y2.out.ofExt HX.out HG0.out HHW.out.1) R2.out HL2.out)
  obtain ⟨tx, HU3⟩ : ∃ u, Hid (num (tk 8 s2).1 = u) := ⟨_, hide rfl⟩
  rw [HU3.out] at KN
  obtain ⟨s3, HS3⟩ : ∃ s, Hid ((tk 8 s2).2 = s) := ⟨_, hide rfl⟩
  rw [HS3.out] at KN
  have HL3 : Hid (s3.1.length ≤ 140737488351232) := hide (by rw [← HS3.out]; exact Nat.le_trans (tk_left 8 s2) HL2.out)
  go_upto_region 4 with (go_at_call 32; (with_reducible refine KN.out.mono ?_); rintro e x3 ⟨_, rfl, rfl, hr2, hg2⟩; have R3 := hide hr2; have BX3 : Hid (Rw x3 h 26 [.int .u8 6, .int .u64 0, .int .u64 0, .int .i64 0, .int .i64 0, .slice none 0 0, .slice none 0 0, .int .u64 0, .slice none 0 0, .bool false]) := hide ((hg2.block h BX2.out.lt (fun e => HNE.out.1 (by injection e))).trans BX2.out); have ZX3 : Hid (Rw x3 hz 26 [.int .u8 0, .int .u64 0, .int .u64 0, .int .i64 0, .int .i64 0, .slice none 0 0, .slice none 0 0, .int .u64 0, .slice none 0 0, .bool false]) := hide ((hg2.block hz ZX2.out.lt (fun e => HNE.out.2.1 (by injection e))).trans ZX2.out); have Y3 : Hid (Only2 g h w x3) := hide (Y2.out.grown hg2 (fun b e => .inl (by injection e with e; exact e.symm))); have S3 : Hid (BB ≤ x3.heap.size) := hide (Nat.le_trans S2.out hg2.size); have cc := BX3.out.cell (i := 1) rfl; have ff := BX3.out.frozen 1; clear hr2 hg2)
  obtain ⟨w3, hgg, hB, hZ, hR, hY, hS⟩ : ∃ W, x3.setCell ⟨h, 1, none⟩ (.int .u64 tx) = W ∧ Rw W h 26 [.int .u8 6, .int .u64 tx, .int .u64 0, .int .i64 0, .int .i64 0, .slice none 0 0, .slice none 0 0, .int .u64 0, .slice none 0 0, .bool false] ∧ Rw W hz 26 [.int .u8 0, .int .u64 0, .int .u64 0, .int .i64 0, .int .i64 0, .slice none 0 0, .slice none 0 0, .int .u64 0, .slice none 0 0, .bool false] ∧ RdrAt w0 W g s3 ∧ Only2 g h w W ∧ BB ≤ W.heap.size := ⟨_, rfl, BX3.out.set 1 _, ZX3.out.far (fun e => HNE.out.2.2.1 e.symm) _, R3.out.same (Below.heap_setCell x3 ⟨h, 1, none⟩ _ g (fun e => HNE.out.1 e.symm)), Y3.out.set 1 _, Nat.le_trans S3.out (by simp [World.setCell])⟩
  rw [hgg]
  have BX3 := hide hB
  have ZX3 := hide hZ
  have R3 := hide hR
  have Y3 := hide hY
  have S3 := hide hS
  clear hgg hB hZ hR hY hS cc ff
  clear KN
  have cc := BX3.out.cell (i := 0) rfl
  go_upto_region 5 with (go_at_call 16; (with_reducible refine (KP.out _).mono ?_); rintro e xp ⟨rfl, hxp⟩; have XP := hide hxp; clear hxp)
  clear cc KP
  obtain ⟨w4, hXQ, hQ, hgg⟩ : ∃ W, Ext w3 W ∧ Rw W xp.heap.size 42 [.bool true, .bool false, .bool false, .bool false, .bool true] ∧ xp.alloc (.cells #[.bool true, .bool false, .bool false, .bool false, .bool true] 42) = W := ⟨_, XP.out.trans (Ext.alloc _ _), Rw.new _ _ _, rfl⟩
  rw [hgg]
  obtain ⟨hq, HHQ⟩ : ∃ hq, Hid (xp.heap.size = hq) := ⟨_, hide rfl⟩
  rw [HHQ.out] at hQ ⊢
  have BX4 := hide (BX3.out.ext hXQ)
  have ZX4 := hide (ZX3.out.ext hXQ)
  have R4 := hide (R3.out.ext hXQ)
  have Y4 := hide (Y3.out.ext hXQ)
  have S4 : Hid (BB ≤ w4.heap.size) := hide (Nat.le_trans S3.out hXQ.size)
  have QX4 := hide hQ
  have HQN : Hid (hq ≠ g ∧ hq ≠ h) := hide (by have h1 : BB ≤ xp.heap.size := Nat.le_trans S3.out XP.out.size; have := HHQ.out; have := HBL.out; omega)
  clear hgg hXQ hQ
  have q0 := QX4.out.cell (i := 0) rfl
  have q1 := QX4.out.cell (i := 1) rfl
  have q2 := QX4.out.cell (i := 2) rfl
  have q3 := QX4.out.cell (i := 3) rfl
  have q4 := QX4.out.cell (i := 4) rfl
  have KN := hide (number_8 g s3 w0 w4 (Y4.out.ofExt HX.out HG0.out HHW.out.1) R4.out HL3.out)
  obtain ⟨pv, HU5⟩ : ∃ u, Hid (num (tk 8 s3).1 = u) := ⟨_, hide rfl⟩
  rw [HU5.out] at KN
  obtain ⟨s5, HS5⟩ : ∃ s, Hid ((tk 8 s3).2 = s) := ⟨_, hide rfl⟩
  rw [HS5.out] at KN
  have HL5 : Hid (s5.1.length ≤ 140737488351232) := hide (by rw [← HS5.out]; exact Nat.le_trans (tk_left 8 s3) HL3.out)
  go_upto_region 7 with (go_at_call 32; (with_reducible refine KN.out.mono ?_); rintro e x5 ⟨_, rfl, rfl, hr2, hg2⟩; have R5 := hide hr2; have BX5 : Hid (Rw x5 h 26 [.int .u8 6, .int .u64 tx, .int .u64 0, .int .i64 0, .int .i64 0, .slice none 0 0, .slice none 0 0, .int .u64 0, .slice none 0 0, .bool false]) := hide ((hg2.block h BX4.out.lt (fun e => HNE.out.1 (by injection e))).trans BX4.out); have ZX5 : Hid (Rw x5 hz 26 [.int .u8 0, .int .u64 0, .int .u64 0, .int .i64 0, .int .i64 0, .slice none 0 0, .slice none 0 0, .int .u64 0, .slice none 0 0, .bool false]) := hide ((hg2.block hz ZX4.out.lt (fun e => HNE.out.2.1 (by injection e))).trans ZX4.out); have Y5 : Hid (Only2 g h w x5) := hide (Y4.out.grown hg2 (fun b e => .inl (by injection e with e; exact e.symm))); have S5 : Hid (BB ≤ x5.heap.size) := hide (Nat.le_trans S4.out hg2.size); have cc := BX5.out.cell (i := 2) rfl; have ff := BX5.out.frozen 2; have QX5 : Hid (Rw _ hq 42 [.bool true, .bool false, .bool false, .bool false, .bool true]) := hide ((hg2.block hq QX4.out.lt (fun e => HQN.out.1 (by injection e))).trans QX4.out); clear hr2 hg2)
  obtain ⟨w5, hgg, hB, hZ, hR, hY, hS⟩ : ∃ W, x5.setCell ⟨h, 2, none⟩ (.int .u64 pv) = W ∧ Rw W h 26 [.int .u8 6, .int .u64 tx, .int .u64 pv, .int .i64 0, .int .i64 0, .slice none 0 0, .slice none 0 0, .int .u64 0, .slice none 0 0, .bool false] ∧ Rw W hz 26 [.int .u8 0, .int .u64 0, .int .u64 0, .int .i64 0, .int .i64 0, .slice none 0 0, .slice none 0 0, .int .u64 0, .slice none 0 0, .bool false] ∧ RdrAt w0 W g s5 ∧ Only2 g h w W ∧ BB ≤ W.heap.size := ⟨_, rfl, BX5.out.set 2 _, ZX5.out.far (fun e => HNE.out.2.2.1 e.symm) _, R5.out.same (Below.heap_setCell x5 ⟨h, 2, none⟩ _ g (fun e => HNE.out.1 e.symm)), Y5.out.set 2 _, Nat.le_trans S5.out (by simp [World.setCell])⟩
  rw [hgg]
  have QX5 := hide (hgg ▸ (QX5.out.far (p := ⟨h, 2, none⟩) HQN.out.2 (.int .u64 pv)))
  have BX5 := hide hB
  have ZX5 := hide hZ
  have R5 := hide hR
  have Y5 := hide hY
  have S5 := hide hS
  clear hgg hB hZ hR hY hS cc ff
  clear KN
  clear q0 q1 q2 q3 q4
  have q0 := QX5.out.cell (i := 0) rfl
  have q1 := QX5.out.cell (i := 1) rfl
  have q2 := QX5.out.cell (i := 2) rfl
  have q3 := QX5.out.cell (i := 3) rfl
  have q4 := QX5.out.cell (i := 4) rfl
  obtain ⟨q, HQ⟩ : ∃ u : Nat, Hid (num (tk 1 s5).1 = (u : Int)) := by
    obtain ⟨u, hu⟩ := Int.eq_ofNat_of_zero_le (num_lt 1 s5).1
    exact ⟨u, hide hu⟩
  have KC := hide (check_any g h s5 6 tx pv 0 0 0 (.slice none 0 0) (.slice none 0 0) false w0 w5 (Y5.out.ofExt HX.out HG0.out HHW.out.1) HG0.out HHW.out.1 R5.out HL5.out BX5.out q HQ.out)
  obtain ⟨op, HOP⟩ : ∃ op, Hid (((q : Int) % 2 == 1) = op) := ⟨_, hide rfl⟩
  obtain ⟨dl, HDL⟩ : ∃ dl, Hid ((dirR (q / 2) (tk 1 s5).2).1 = dl) := ⟨_, hide rfl⟩
  obtain ⟨sf, HSF⟩ : ∃ s, Hid ((dirR (q / 2) (tk 1 s5).2).2 = s) := ⟨_, hide rfl⟩
  rw [HOP.out, HDL.out, HSF.out] at KC
  go_upto_region 18 with (go_at_call 34; (with_reducible refine KC.out.mono ?_); rintro e wf ⟨rfl, v8, hB, hD, hR, hY⟩; have BF := hide hB; have ZF : Hid (Rw wf hz 26 [.int .u8 0, .int .u64 0, .int .u64 0, .int .i64 0, .int .i64 0, .slice none 0 0, .slice none 0 0, .int .u64 0, .slice none 0 0, .bool false]) := hide ((hY.block hz ZX5.out.lt HNE.out.2.1 (fun e => HNE.out.2.2.1 e.symm)).trans ZX5.out); have DF := hide hD; have RF := hide hR; have YF : Hid (Only2 g h w wf) := hide ⟨hY.os.trans Y5.out.os, hY.tape.trans Y5.out.tape, hY.output.trans Y5.out.output, Nat.le_trans Y5.out.size hY.size, fun b hb h1 h2 => (hY.block b (Nat.lt_of_lt_of_le hb Y5.out.size) h1 h2).trans (Y5.out.block b hb h1 h2)⟩; have DV := hD.slice; clear hB hD hR hY)
  obtain ⟨AV8, cv8, hv8, -, -⟩ := DV
  subst hv8
  clear KC
  have z0 := ZF.out.cell (i := 0) rfl
  have z1 := ZF.out.cell (i := 1) rfl
  have z2 := ZF.out.cell (i := 2) rfl
  have z3 := ZF.out.cell (i := 3) rfl
  have z4 := ZF.out.cell (i := 4) rfl
  have z5 := ZF.out.cell (i := 5) rfl
  have z6 := ZF.out.cell (i := 6) rfl
  have z7 := ZF.out.cell (i := 7) rfl
  have z8 := ZF.out.cell (i := 8) rfl
  have z9 := ZF.out.cell (i := 9) rfl
  have y0 := BF.out.cell (i := 0) rfl
  have y1 := BF.out.cell (i := 1) rfl
  have y2 := BF.out.cell (i := 2) rfl
  have y3 := BF.out.cell (i := 3) rfl
  have y4 := BF.out.cell (i := 4) rfl
  have y5 := BF.out.cell (i := 5) rfl
  have y6 := BF.out.cell (i := 6) rfl
  have y7 := BF.out.cell (i := 7) rfl
  have y8 := BF.out.cell (i := 8) rfl
  have y9 := BF.out.cell (i := 9) rfl
  have f0 := ZF.out.frozen 0
  have f1 := ZF.out.frozen 1
  have f2 := ZF.out.frozen 2
  have f3 := ZF.out.frozen 3
  have f4 := ZF.out.frozen 4
  have f5 := ZF.out.frozen 5
  have f6 := ZF.out.frozen 6
  have f7 := ZF.out.frozen 7
  have f8 := ZF.out.frozen 8
  have f9 := ZF.out.frozen 9
  go_wp2
  have ZZ := ((((((((((ZF.out.set 0 (.int .u8 6)).set 1 (.int .u64 tx)).set 2 (.int .u64 pv)).set 3 (.int .i64 0)).set 4 (.int .i64 0)).set 5 (.slice none 0 0)).set 6 (.slice none 0 0)).set 7 (.int .u64 0)).set 8 (.slice AV8 dl.length cv8)).set 9 (.bool op))
  have HS10 := sets_only hz [(0, .int .u8 6), (1, .int .u64 tx), (2, .int .u64 pv), (3, .int .i64 0), (4, .int .i64 0), (5, .slice none 0 0), (6, .slice none 0 0), (7, .int .u64 0), (8, .slice AV8 dl.length cv8), (9, .bool op)] wf
  simp only [List.foldl_cons, List.foldl_nil] at HS10
  obtain ⟨wz, hwz⟩ : ∃ wz, ((((((((((wf).setCell ⟨hz, 0, none⟩ (.int .u8 6)).setCell ⟨hz, 1, none⟩ (.int .u64 tx)).setCell ⟨hz, 2, none⟩ (.int .u64 pv)).setCell ⟨hz, 3, none⟩ (.int .i64 0)).setCell ⟨hz, 4, none⟩ (.int .i64 0)).setCell ⟨hz, 5, none⟩ (.slice none 0 0)).setCell ⟨hz, 6, none⟩ (.slice none 0 0)).setCell ⟨hz, 7, none⟩ (.int .u64 0)).setCell ⟨hz, 8, none⟩ (.slice AV8 dl.length cv8)).setCell ⟨hz, 9, none⟩ (.bool op) = wz := ⟨_, rfl⟩
  rw [hwz] at HS10 ZZ ⊢
  obtain ⟨q1, q2, q3, q4, hsame⟩ := HS10
  clear hwz
  have e0 := ZZ.cell (i := 0) rfl
  have e1 := ZZ.cell (i := 1) rfl
  have e2 := ZZ.cell (i := 2) rfl
  have e3 := ZZ.cell (i := 3) rfl
  have e4 := ZZ.cell (i := 4) rfl
  have e5 := ZZ.cell (i := 5) rfl
  have e6 := ZZ.cell (i := 6) rfl
  have e7 := ZZ.cell (i := 7) rfl
  have e8 := ZZ.cell (i := 8) rfl
  have e9 := ZZ.cell (i := 9) rfl
  have HRD : rdRec st = (⟨6, tx, pv, 0, 0, [], [], 0, dl, op⟩, sf) := by
    simp [rdRec, rdN, rdB, rdD, HK.out, HS2.out, HU3.out, HS3.out, HU5.out, HS5.out, HQ.out, HDL.out, HSF.out, hpv, hch, hbf, hnx, hck, HOP.out]
  rw [HRD]
  have YG : w.grownBy wz (some g) := by
    have h1 := YF.out.to1 HHW.out.2.1
    exact ⟨q1.trans h1.os, q2.trans h1.tape, q3.trans h1.output, Nat.le_trans h1.size (Nat.le_of_eq q4.symm), fun b hb hne => (hsame b (by have := HHW.out; omega)).trans (h1.block b hb hne)⟩
  refine bodyPost_ret (v := .agg #[.int .u8 6, .int .u64 tx, .int .u64 pv, .int .i64 0, .int .i64 0, .slice none 0 0, .slice none 0 0, .int .u64 0, .slice AV8 dl.length cv8, .bool op]) (by simp [results, Tryd.results23, go_sem, e0, e1, e2, e3, e4, e5, e6, e7, e8, e9]; try rfl) rfl ?_
  exact ⟨_, _, _, rfl, Own.nil _ _, Own.nil _ _, ownD_mono (DF.out.same (fun b hb => hsame b (by have := (DF.out.at b hb).1; have := S5.out; have := HBL.out; omega))) (Nat.le_trans HBL.out.2.2.2 S5.out), RF.out.same (hsame g (fun e => HNE.out.2.1 e.symm)), YG, fun b hb => by cases hb⟩
end Go.Proofs.YthdahgekodcloaaDoor
namespace Go.Proofs.YthdahgekodcloaaDoor
open Go.RowKit

set_option maxRecDepth 20000 in
set_option maxHeartbeats 1600000 in
theorem record_7 (g : Nat) (st : List UInt8 × Bool) (w0 w : World) (hx : Ext w0 w) (hg0 : w0.heap.size ≤ g) (hr : RdrAt w0 w g st) (hl : st.1.length ≤ 140737488351232) (k : Int) (h1 : k ≠ 1) (h2 : k ≠ 2) (h3 : k ≠ 3) (h4 : k ≠ 4) (h5 : k ≠ 5) (h6 : k ≠ 6) (hk : num (tk 1 st).1 = k) :
    Calls Tryd.prog 23 #[.pointer (some ⟨g, 0, none⟩)] w (RecP w0 w g (rdRec st)) := by
  have HX := hide hx
  have HG0 := hide hg0
  have HGL := hide hr.lt
  have HK := hide hk
  have HL0 := hide hl
  have R0 := hide hr
  have e1 : hpv k = false := by simp only [hpv, Bool.and_eq_false_iff, decide_eq_false_iff_not]; omega
  have e2 : hok k = false := by simp only [hok, Bool.and_eq_false_iff, decide_eq_false_iff_not]; omega
  have e3 : hch k = false := by simp [hch, h2, h3]
  have e4 : hbf k = false := by simp [hbf, h2]
  have e5 : hnx k = false := by simp [hnx, h3]
  have e6 : hck k = false := by simp [hck, h6]
  have KP := hide (fun (W : World) => (show Calls Tryd.prog 16 #[.int .u8 k] W (fun e w' => e = .returned (.tuple #[.agg #[.bool false, .bool false, .bool false, .bool false, .bool false], .bool false]) ∧ Ext W w') from by have h := partsOf_any k W; unfold PartsP at h; rw [e1, e2, e3, e4, e5, e6] at h; exact h))
  have HE := hide (And.intro e1 (And.intro e3 (And.intro e4 (And.intro e5 e6))))
  have hkb : 0 ≤ k ∧ k ≤ 255 := by have h := num_lt 1 st; rw [hk] at h; exact ⟨h.1, by have := h.2; omega⟩
  have hwk : IntKind.u8.wrap k = k := by rw [IntKind.wrap_u8]; omega
  clear e1 e2 e3 e4 e5 e6 h1 h2 h3 h4 h5 h6
  clear hx hg0 hr hl hk
  go_enter Tryd.func23, Tryd.ntmps23
  go_upto_region 2 with fail
  obtain ⟨W1, hX1, hRz, hRh, hgg⟩ : ∃ W1, Ext w W1 ∧ Rw W1 w.heap.size 26 [.int .u8 0, .int .u64 0, .int .u64 0, .int .i64 0, .int .i64 0, .slice none 0 0, .slice none 0 0, .int .u64 0, .slice none 0 0, .bool false] ∧ Rw W1 (w.heap.size + 1) 26 [.int .u8 0, .int .u64 0, .int .u64 0, .int .i64 0, .int .i64 0, .slice none 0 0, .slice none 0 0, .int .u64 0, .slice none 0 0, .bool false] ∧ (w.alloc (.cells #[.int .u8 0, .int .u64 0, .int .u64 0, .int .i64 0, .int .i64 0, .slice none 0 0, .slice none 0 0, .int .u64 0, .slice none 0 0, .bool false] 26)).alloc (.cells #[.int .u8 0, .int .u64 0, .int .u64 0, .int .i64 0, .int .i64 0, .slice none 0 0, .slice none 0 0, .int .u64 0, .slice none 0 0, .bool false] 26) = W1 := ⟨_, (Ext.alloc _ _).trans (Ext.alloc _ _), (Rw.new w 26 [.int .u8 0, .int .u64 0, .int .u64 0, .int .i64 0, .int .i64 0, .slice none 0 0, .slice none 0 0, .int .u64 0, .slice none 0 0, .bool false]).ext (Ext.alloc _ _), (by have h := Rw.new (w.alloc (.cells #[.int .u8 0, .int .u64 0, .int .u64 0, .int .i64 0, .int .i64 0, .slice none 0 0, .slice none 0 0, .int .u64 0, .slice none 0 0, .bool false] 26)) 26 [.int .u8 0, .int .u64 0, .int .u64 0, .int .i64 0, .int .i64 0, .slice none 0 0, .slice none 0 0, .int .u64 0, .slice none 0 0, .bool false]; rwa [show (w.alloc (.cells #[.int .u8 0, .int .u64 0, .int .u64 0, .int .i64 0, .int .i64 0, .slice none 0 0, .slice none 0 0, .int .u64 0, .slice none 0 0, .bool false] 26)).heap.size = w.heap.size + 1 by simp] at h), rfl⟩
  rw [hgg]
  obtain ⟨hz, HHZ⟩ : ∃ hz, Hid (w.heap.size = hz) := ⟨_, hide rfl⟩
  rw [HHZ.out] at hRz hRh ⊢
  obtain ⟨h, HHH⟩ : ∃ h, Hid (hz + 1 = h) := ⟨_, hide rfl⟩
  rw [HHH.out] at hRh
  try rw [HHH.out]
  have BX1 := hide hRh
  have ZX1 := hide hRz
  have R1 := hide (R0.out.ext hX1)
  have Y1 : Hid (Only2 g h w W1) := hide ((Only2.refl g h w).ext hX1)
  have HNE : Hid (h ≠ g ∧ hz ≠ g ∧ h ≠ hz ∧ hz < h) := hide (by have := HGL.out; have := HHZ.out; have := HHH.out; omega)
  have HHW : Hid (w0.heap.size ≤ h ∧ w.heap.size ≤ h ∧ w.heap.size ≤ hz) := hide (by have := HX.out.size; have := HHZ.out; have := HHH.out; omega)
  obtain ⟨BB, HBB⟩ : ∃ BB, Hid (W1.heap.size = BB) := ⟨_, hide rfl⟩
  have HBL : Hid (h < BB ∧ hz < BB ∧ g < BB ∧ w.heap.size ≤ BB) := hide (by rw [← HBB.out]; exact ⟨BX1.out.lt, ZX1.out.lt, R1.out.lt, hX1.size⟩)
  have S1 : Hid (BB ≤ W1.heap.size) := hide (by rw [HBB.out]; exact Nat.le_refl _)
  clear hgg hX1 hRz hRh R0
  have KN := hide (number_1 g st w0 W1 (Y1.out.ofExt HX.out HG0.out HHW.out.1) R1.out HL0.out)
  rw [HK.out] at KN
  obtain ⟨s2, HS2⟩ : ∃ s, Hid ((tk 1 st).2 = s) := ⟨_, hide rfl⟩
  rw [HS2.out] at KN
  have HL2 : Hid (s2.1.length ≤ 140737488351232) := hide (by rw [← HS2.out]; exact Nat.le_trans (tk_left 1 st) HL0.out)
  go_upto_region 3 with (go_at_call 32; (with_reducible refine KN.out.mono ?_); rintro e x2 ⟨_, rfl, rfl, hr2, hg2⟩; have R2 := hide hr2; have BX2 : Hid (Rw x2 h 26 [.int .u8 0, .int .u64 0, .int .u64 0, .int .i64 0, .int .i64 0, .slice none 0 0, .slice none 0 0, .int .u64 0, .slice none 0 0, .bool false]) := hide ((hg2.block h BX1.out.lt (fun e => HNE.out.1 (by injection e))).trans BX1.out); have ZX2 : Hid (Rw x2 hz 26 [.int .u8 0, .int .u64 0, .int .u64 0, .int .i64 0, .int .i64 0, .slice none 0 0, .slice none 0 0, .int .u64 0, .slice none 0 0, .bool false]) := hide ((hg2.block hz ZX1.out.lt (fun e => HNE.out.2.1 (by injection e))).trans ZX1.out); have Y2 : Hid (Only2 g h w x2) := hide (Y1.out.grown hg2 (fun b e => .inl (by injection e with e; exact e.symm))); have S2 : Hid (BB ≤ x2.heap.size) := hide (Nat.le_trans S1.out hg2.size); have cc := BX2.out.cell (i := 0) rfl; have ff := BX2.out.frozen 0; clear hr2 hg2)
  obtain ⟨w2, hgg, hB, hZ, hR, hY, hS⟩ : ∃ W, x2.setCell ⟨h, 0, none⟩ (.int .u8 k) = W ∧ Rw W h 26 [.int .u8 k, .int .u64 0, .int .u64 0, .int .i64 0, .int .i64 0, .slice none 0 0, .slice none 0 0, .int .u64 0, .slice none 0 0, .bool false] ∧ Rw W hz 26 [.int .u8 0, .int .u64 0, .int .u64 0, .int .i64 0, .int .i64 0, .slice none 0 0, .slice none 0 0, .int .u64 0, .slice none 0 0, .bool false] ∧ RdrAt w0 W g s2 ∧ Only2 g h w W ∧ BB ≤ W.heap.size := ⟨_, rfl, BX2.out.set 0 _, ZX2.out.far (fun e => HNE.out.2.2.1 e.symm) _, R2.out.same (Below.heap_setCell x2 ⟨h, 0, none⟩ _ g (fun e => HNE.out.1 e.symm)), Y2.out.set 0 _, Nat.le_trans S2.out (by simp [World.setCell])⟩
  rw [hgg]
  have BX2 := hide hB
  have ZX2 := hide hZ
  have R2 := hide hR
  have Y2 := hide hY
  have S2 := hide hS
  clear hgg hB hZ hR hY hS cc ff
  clear KN
  have KN := hide (number_8 g s2 w0 w2 (Y2.out.ofExt HX.out HG0.out HHW.out.1) R2.out HL2.out)
  obtain ⟨tx, HU3⟩ : ∃ u, Hid (num (tk 8 s2).1 = u) := ⟨_, hide rfl⟩
  rw [HU3.out] at KN
  obtain ⟨s3, HS3⟩ : ∃ s, Hid ((tk 8 s2).2 = s) := ⟨_, hide rfl⟩
  rw [HS3.out] at KN
  have HL3 : Hid (s3.1.length ≤ 140737488351232) := hide (by rw [← HS3.out]; exact Nat.le_trans (tk_left 8 s2) HL2.out)
  go_upto_region 4 with (go_at_call 32; (with_reducible refine KN.out.mono ?_); rintro e x3 ⟨_, rfl, rfl, hr2, hg2⟩; have R3 := hide hr2; have BX3 : Hid (Rw x3 h 26 [.int .u8 k, .int .u64 0, .int .u64 0, .int .i64 0, .int .i64 0, .slice none 0 0, .slice none 0 0, .int .u64 0, .slice none 0 0, .bool false]) := hide ((hg2.block h BX2.out.lt (fun e => HNE.out.1 (by injection e))).trans BX2.out); have ZX3 : Hid (Rw x3 hz 26 [.int .u8 0, .int .u64 0, .int .u64 0, .int .i64 0, .int .i64 0, .slice none 0 0, .slice none 0 0, .int .u64 0, .slice none 0 0, .bool false]) := hide ((hg2.block hz ZX2.out.lt (fun e => HNE.out.2.1 (by injection e))).trans ZX2.out); have Y3 : Hid (Only2 g h w x3) := hide (Y2.out.grown hg2 (fun b e => .inl (by injection e with e; exact e.symm))); have S3 : Hid (BB ≤ x3.heap.size) := hide (Nat.le_trans S2.out hg2.size); have cc := BX3.out.cell (i := 1) rfl; have ff := BX3.out.frozen 1; clear hr2 hg2)
  obtain ⟨w3, hgg, hB, hZ, hR, hY, hS⟩ : ∃ W, x3.setCell ⟨h, 1, none⟩ (.int .u64 tx) = W ∧ Rw W h 26 [.int .u8 k, .int .u64 tx, .int .u64 0, .int .i64 0, .int .i64 0, .slice none 0 0, .slice none 0 0, .int .u64 0, .slice none 0 0, .bool false] ∧ Rw W hz 26 [.int .u8 0, .int .u64 0, .int .u64 0, .int .i64 0, .int .i64 0, .slice none 0 0, .slice none 0 0, .int .u64 0, .slice none 0 0, .bool false] ∧ RdrAt w0 W g s3 ∧ Only2 g h w W ∧ BB ≤ W.heap.size := ⟨_, rfl, BX3.out.set 1 _, ZX3.out.far (fun e => HNE.out.2.2.1 e.symm) _, R3.out.same (Below.heap_setCell x3 ⟨h, 1, none⟩ _ g (fun e => HNE.out.1 e.symm)), Y3.out.set 1 _, Nat.le_trans S3.out (by simp [World.setCell])⟩
  rw [hgg]
  have BX3 := hide hB
  have ZX3 := hide hZ
  have R3 := hide hR
  have Y3 := hide hY
  have S3 := hide hS
  clear hgg hB hZ hR hY hS cc ff
  clear KN
  have cc := BX3.out.cell (i := 0) rfl
  go_upto_region 5 with (go_at_call 16; (with_reducible refine (KP.out _).mono ?_); rintro e xp ⟨rfl, hxp⟩; have XP := hide hxp; clear hxp)
  clear cc KP
  obtain ⟨w4, hXQ, hQ, hgg⟩ : ∃ W, Ext w3 W ∧ Rw W xp.heap.size 42 [.bool false, .bool false, .bool false, .bool false, .bool false] ∧ xp.alloc (.cells #[.bool false, .bool false, .bool false, .bool false, .bool false] 42) = W := ⟨_, XP.out.trans (Ext.alloc _ _), Rw.new _ _ _, rfl⟩
  rw [hgg]
  obtain ⟨hq, HHQ⟩ : ∃ hq, Hid (xp.heap.size = hq) := ⟨_, hide rfl⟩
  rw [HHQ.out] at hQ ⊢
  have BX4 := hide (BX3.out.ext hXQ)
  have ZX4 := hide (ZX3.out.ext hXQ)
  have R4 := hide (R3.out.ext hXQ)
  have Y4 := hide (Y3.out.ext hXQ)
  have S4 : Hid (BB ≤ w4.heap.size) := hide (Nat.le_trans S3.out hXQ.size)
  have QX4 := hide hQ
  have HQN : Hid (hq ≠ g ∧ hq ≠ h) := hide (by have h1 : BB ≤ xp.heap.size := Nat.le_trans S3.out XP.out.size; have := HHQ.out; have := HBL.out; omega)
  clear hgg hXQ hQ
  have q0 := QX4.out.cell (i := 0) rfl
  have q1 := QX4.out.cell (i := 1) rfl
  have q2 := QX4.out.cell (i := 2) rfl
  have q3 := QX4.out.cell (i := 3) rfl
  have q4 := QX4.out.cell (i := 4) rfl
  have z0 := ZX4.out.cell (i := 0) rfl
  have z1 := ZX4.out.cell (i := 1) rfl
  have z2 := ZX4.out.cell (i := 2) rfl
  have z3 := ZX4.out.cell (i := 3) rfl
  have z4 := ZX4.out.cell (i := 4) rfl
  have z5 := ZX4.out.cell (i := 5) rfl
  have z6 := ZX4.out.cell (i := 6) rfl
  have z7 := ZX4.out.cell (i := 7) rfl
  have z8 := ZX4.out.cell (i := 8) rfl
  have z9 := ZX4.out.cell (i := 9) rfl
  have y0 := BX4.out.cell (i := 0) rfl
  have y1 := BX4.out.cell (i := 1) rfl
  have y2 := BX4.out.cell (i := 2) rfl
  have y3 := BX4.out.cell (i := 3) rfl
  have y4 := BX4.out.cell (i := 4) rfl
  have y5 := BX4.out.cell (i := 5) rfl
  have y6 := BX4.out.cell (i := 6) rfl
  have y7 := BX4.out.cell (i := 7) rfl
  have y8 := BX4.out.cell (i := 8) rfl
  have y9 := BX4.out.cell (i := 9) rfl
  have f0 := ZX4.out.frozen 0
  have f1 := ZX4.out.frozen 1
  have f2 := ZX4.out.frozen 2
  have f3 := ZX4.out.frozen 3
  have f4 := ZX4.out.frozen 4
  have f5 := ZX4.out.frozen 5
  have f6 := ZX4.out.frozen 6
  have f7 := ZX4.out.frozen 7
  have f8 := ZX4.out.frozen 8
  have f9 := ZX4.out.frozen 9
  go_wp2
  have ZZ := ((((((((((ZX4.out.set 0 (.int .u8 k)).set 1 (.int .u64 tx)).set 2 (.int .u64 0)).set 3 (.int .i64 0)).set 4 (.int .i64 0)).set 5 (.slice none 0 0)).set 6 (.slice none 0 0)).set 7 (.int .u64 0)).set 8 (.slice none 0 0)).set 9 (.bool false))
  have HS10 := sets_only hz [(0, .int .u8 k), (1, .int .u64 tx), (2, .int .u64 0), (3, .int .i64 0), (4, .int .i64 0), (5, .slice none 0 0), (6, .slice none 0 0), (7, .int .u64 0), (8, .slice none 0 0), (9, .bool false)] w4
  simp only [List.foldl_cons, List.foldl_nil] at HS10
  obtain ⟨wz, hwz⟩ : ∃ wz, ((((((((((w4).setCell ⟨hz, 0, none⟩ (.int .u8 k)).setCell ⟨hz, 1, none⟩ (.int .u64 tx)).setCell ⟨hz, 2, none⟩ (.int .u64 0)).setCell ⟨hz, 3, none⟩ (.int .i64 0)).setCell ⟨hz, 4, none⟩ (.int .i64 0)).setCell ⟨hz, 5, none⟩ (.slice none 0 0)).setCell ⟨hz, 6, none⟩ (.slice none 0 0)).setCell ⟨hz, 7, none⟩ (.int .u64 0)).setCell ⟨hz, 8, none⟩ (.slice none 0 0)).setCell ⟨hz, 9, none⟩ (.bool false) = wz := ⟨_, rfl⟩
  rw [hwz] at HS10 ZZ ⊢
  obtain ⟨q1, q2, q3, q4, hsame⟩ := HS10
  clear hwz
  have e0 := ZZ.cell (i := 0) rfl
  have e1 := ZZ.cell (i := 1) rfl
  have e2 := ZZ.cell (i := 2) rfl
  have e3 := ZZ.cell (i := 3) rfl
  have e4 := ZZ.cell (i := 4) rfl
  have e5 := ZZ.cell (i := 5) rfl
  have e6 := ZZ.cell (i := 6) rfl
  have e7 := ZZ.cell (i := 7) rfl
  have e8 := ZZ.cell (i := 8) rfl
  have e9 := ZZ.cell (i := 9) rfl
  have HRD : rdRec st = (⟨k, tx, 0, 0, 0, [], [], 0, [], false⟩, s3) := by
    simp [rdRec, rdN, rdB, rdD, HK.out, HS2.out, HU3.out, HS3.out, HE.out.1, HE.out.2.1, HE.out.2.2.1, HE.out.2.2.2.1, HE.out.2.2.2.2]
  rw [HRD]
  have YG : w.grownBy wz (some g) := by
    have h1 := Y4.out.to1 HHW.out.2.1
    exact ⟨q1.trans h1.os, q2.trans h1.tape, q3.trans h1.output, Nat.le_trans h1.size (Nat.le_of_eq q4.symm), fun b hb hne => (hsame b (by have := HHW.out; omega)).trans (h1.block b hb hne)⟩
  refine bodyPost_ret (v := .agg #[.int .u8 k, .int .u64 tx, .int .u64 0, .int .i64 0, .int .i64 0, .slice none 0 0, .slice none 0 0, .int .u64 0, .slice none 0 0, .bool false]) (by simp [results, Tryd.results23, go_sem, e0, e1, e2, e3, e4, e5, e6, e7, e8, e9]; try rfl) rfl ?_
  exact ⟨_, _, _, rfl, Own.nil _ _, Own.nil _ _, OwnD.nil _ _, R4.out.same (hsame g (fun e => HNE.out.2.1 e.symm)), YG, fun b hb => by cases hb⟩
end Go.Proofs.YthdahgekodcloaaDoor
namespace Go.Proofs.YthdahgekodcloaaDoor
open Go.RowKit

theorem record_any (g : Nat) (st : List UInt8 × Bool) (w0 w : World) (hx : Ext w0 w) (hg0 : w0.heap.size ≤ g) (hr : RdrAt w0 w g st) (hl : st.1.length ≤ 140737488351232) :
    Calls Tryd.prog 23 #[.pointer (some ⟨g, 0, none⟩)] w (RecP w0 w g (rdRec st)) := by
  obtain ⟨k, hk⟩ : ∃ k, num (tk 1 st).1 = k := ⟨_, rfl⟩
  by_cases h1 : k = 1
  · subst h1; exact record_1 g st w0 w hx hg0 hr hl hk
  by_cases h2 : k = 2
  · subst h2; exact record_2 g st w0 w hx hg0 hr hl hk
  by_cases h3 : k = 3
  · subst h3; exact record_3 g st w0 w hx hg0 hr hl hk
  by_cases h4 : k = 4
  · subst h4; exact record_4 g st w0 w hx hg0 hr hl hk
  by_cases h5 : k = 5
  · subst h5; exact record_5 g st w0 w hx hg0 hr hl hk
  by_cases h6 : k = 6
  · subst h6; exact record_6 g st w0 w hx hg0 hr hl hk
  exact record_7 g st w0 w hx hg0 hr hl k h1 h2 h3 h4 h5 h6 hk
end Go.Proofs.YthdahgekodcloaaDoor
namespace Go.Proofs.YthdahgekodcloaaDoor
open Go.RowKit

def dirB (L : List (Int × Int)) : List UInt8 := L.flatMap fun d => numN 2 d.1 ++ numN 8 d.2
theorem dirB_length (L : List (Int × Int)) : (dirB L).length = 10 * L.length := by
  induction L with
  | nil => rfl
  | cons d L ih =>
    have e : dirB (d :: L) = (numN 2 d.1 ++ numN 8 d.2) ++ dirB L := by simp [dirB]
    rw [e, List.length_append, List.length_append, numN_length 2 _ (by decide), numN_length 8 _ (by decide), ih, List.length_cons]
    omega
theorem dirB_snoc (L : List (Int × Int)) (i : Nat) (e : Int × Int) (h : L[i]? = some e) : dirB (L.take (i + 1)) = dirB (L.take i) ++ (numN 2 e.1 ++ numN 8 e.2) := by
  rw [List.take_add_one, h]
  simp [dirB]
def cntN (nd : Nat) (op : Bool) : Int := 2 * (nd : Int) + if op then 1 else 0
set_option maxRecDepth 20000 in
set_option maxHeartbeats 3200000 in
theorem appendCheck_any (v : Value) (l : List UInt8) (k tx pv pg off nx : Int) (A B D : Option Addr) (nb a na b' nd d : Nat) (op : Bool) (w0 w : World) (BB : Nat) (L : List (Int × Int)) (hr : RdD w0 D L) (hx0 : Ext w0 w) (hB0 : w0.heap.size ≤ BB) (hB : BB ≤ w.heap.size) (hn : L.length = nd) (hnd : nd ≤ 64)
    (hL : ∀ e ∈ L, (0 ≤ e.1 ∧ e.1 < 4096) ∧ 0 ≤ e.2 ∧ e.2 < 18446744073709551616) (ho : Own w BB v l) (hl : l.length ≤ 1000000) :
    Calls Tryd.prog 20 #[v, .agg #[.int .u8 k, .int .u64 tx, .int .u64 pv, .int .i64 pg, .int .i64 off, .slice A nb a, .slice B na b', .int .u64 nx, .slice D nd d, .bool op]] w (AddP w BB (l ++ (numN 1 (cntN nd op) ++ dirB L))) := by
  have HR := hide hr
  have HX0 := hide hx0
  have HB0 := hide hB0
  have HB := hide hB
  have HN := hide hn
  have HL := hide hL
  have HO := hide ho
  have HLL := hide hl
  have hw2 : IntKind.u64.wrap (2 * (nd : Int)) = 2 * (nd : Int) := by rw [IntKind.wrap_u64]; omega
  have hw3 : IntKind.u64.wrap (2 * (nd : Int) + 1) = 2 * (nd : Int) + 1 := by rw [IntKind.wrap_u64]; omega
  have hndi : (nd : Int) ≤ 64 := by omega
  clear hr hx0 hB0 hB hn hL ho hl
  go_enter Tryd.func20, Tryd.ntmps20
  go_upto_region 1 with fail
  obtain ⟨W1, hX1, hR1, hg⟩ : ∃ W1, Ext w W1 ∧ Rw W1 w.heap.size 26 [.int .u8 k, .int .u64 tx, .int .u64 pv, .int .i64 pg, .int .i64 off, .slice A nb a, .slice B na b', .int .u64 nx, .slice D nd d, .bool op] ∧ w.alloc (.cells #[.int .u8 k, .int .u64 tx, .int .u64 pv, .int .i64 pg, .int .i64 off, .slice A nb a, .slice B na b', .int .u64 nx, .slice D nd d, .bool op] 26) = W1 := ⟨_, Ext.alloc _ _, Rw.new _ _ _, rfl⟩
  rw [hg]
  obtain ⟨hb, HHB⟩ : ∃ hb, Hid (w.heap.size = hb) := ⟨_, hide rfl⟩
  rw [HHB.out] at hR1 ⊢
  have X1 := hide hX1
  have R1 := hide hR1
  have c8 := hR1.cell (i := 8) rfl
  have c9 := hR1.cell (i := 9) rfl
  clear hg hX1 hR1
  cases op with
  | false =>
    go_upto_region 4 with fail
    have KA := hide (appendNumber_1 v l (2 * (nd : Int)) BB W1 (HO.out.ext X1.out) (Nat.le_trans HB.out X1.out.size) (by omega) (by omega) (by have := HLL.out; omega))
    go_upto_region 5 with (go_at_call 19; (with_reducible refine KA.out.mono ?_); rintro e w2 ⟨v2, rfl, ho2, hb2, hs2⟩; have O2 := hide ho2; have B2 : Hid (Below BB w w2) := hide ((Below.mono X1.out HB.out).trans hb2); have S2 : Hid (Stay w w2) := hide ((Stay.ext X1.out).trans hs2); have R2 := hide (hs2 hb _ _ (by decide) R1.out); clear ho2 hb2 hs2)
    clear c8 c9 KA
    have c8 := R2.out.cell (i := 8) rfl
    obtain ⟨l1, HL1⟩ : ∃ l1, Hid (l ++ numN 1 (2 * (nd : Int)) = l1) := ⟨_, hide rfl⟩
    rw [HL1.out] at O2
    have HLN : Hid (l1.length ≤ 1000001) := hide (by rw [← HL1.out, List.length_append, numN_length 1 _ (by decide)]; have := HLL.out; omega)
    have HEND : Hid (l ++ (numN 1 (cntN nd false) ++ dirB L) = l1 ++ dirB L) := hide (by rw [← HL1.out, List.append_assoc]; simp [cntN])
    go_upto_region 6 with fail
    go_loopw [0, 23] (fun pz iv wr => ∃ (i : Nat) (v' : Value), i ≤ nd ∧ v' = pz ∧ iv = .int .i64 (i : Int) ∧ Hid (Own wr BB v' (l1 ++ dirB (L.take i))) ∧ Hid (Below BB w wr) ∧ Hid (Stay w wr)) (fun _ iv _ => nd - (intOf iv).toNat)
    case atStart => exact ⟨0, _, Nat.zero_le _, rfl, rfl, hide (by rw [List.take_zero]; show Own _ _ _ (l1 ++ []); rw [List.append_nil]; exact O2.out), B2, S2⟩
    case round =>
      obtain ⟨i, v', hi, rfl, rfl, HOW, HBW, HSW⟩ := hrel
      clear O2 B2 S2 R2 c8
      by_cases hlt : i < nd
      · obtain ⟨⟨y, z⟩, he⟩ : ∃ e, L[i]? = some e := ⟨_, List.getElem?_eq_getElem (by rw [HN.out]; exact hlt)⟩
        obtain ⟨hy, hz⟩ := HL.out _ (List.mem_of_getElem? he)
        have HZ := hide hz
        have hy0 : 0 ≤ y := hy.1
        have hy1 : y < 4096 := hy.2
        obtain ⟨bb, oo, hD, k1, k2⟩ := (HR.out.ext (HX0.out.below HB0.out HBW.out)).at he
        subst hD
        have HE := hide he
        have hii : (i : Int) < (nd : Int) := by omega
        have hi0 : (0 : Int) ≤ (i : Int) := by omega
        have hwy : IntKind.u64.wrap y = y := by rw [IntKind.wrap_u64]; omega
        clear he hz hy
        go_upto_region 8 with fail
        obtain ⟨W8, hX8, hR8, hg⟩ : ∃ W8, Ext wr W8 ∧ Rw W8 wr.heap.size 47 [.int .i64 y, .int .u64 z] ∧ wr.alloc (.cells #[.int .i64 y, .int .u64 z] 47) = W8 := ⟨_, Ext.alloc _ _, Rw.new _ _ _, rfl⟩
        rw [hg]
        obtain ⟨h8, HH8⟩ : ∃ h8, Hid (wr.heap.size = h8) := ⟨_, hide rfl⟩
        rw [HH8.out] at hR8 ⊢
        have hBW8 : BB ≤ W8.heap.size := Nat.le_trans (Nat.le_trans HB.out HBW.out.size) hX8.size
        have B8 : Hid (Below BB w W8) := hide (HBW.out.trans (Below.mono hX8 (Nat.le_trans HB.out HBW.out.size)))
        have S8 : Hid (Stay w W8) := hide (HSW.out.trans (Stay.ext hX8))
        have R8 := hide hR8
        have d0 := hR8.cell (i := 0) rfl
        have KA2 := hide (appendNumber_2 v' (l1 ++ dirB (L.take i)) y BB W8 (HOW.out.ext hX8) hBW8 hy0 (by omega) (by rw [List.length_append, dirB_length, List.length_take]; have := HLN.out; omega))
        clear hg hX8 hR8 k1 k2 hBW8
        go_upto_region 9 with (go_at_call 19; (with_reducible refine KA2.out.mono ?_); rintro e w9 ⟨v9, rfl, ho9, hb9, hs9⟩; have O9 := hide ho9; have B9 : Hid (Below BB w w9) := hide (B8.out.trans hb9); have S9 : Hid (Stay w w9) := hide (S8.out.trans hs9); have R9 := hide (hs9 h8 _ _ (by decide) R8.out); clear ho9 hb9 hs9)
        clear d0 KA2 B8 S8 R8
        have d1 := R9.out.cell (i := 1) rfl
        have KA3 := hide (appendNumber_8 v9 (l1 ++ dirB (L.take i) ++ numN 2 y) z BB w9 O9.out (Nat.le_trans HB.out B9.out.size) HZ.out.1 HZ.out.2 (by rw [List.length_append, List.length_append, dirB_length, List.length_take, numN_length 2 _ (by decide)]; have := HLN.out; omega))
        go_upto_region 10 with (go_at_call 19; (with_reducible refine KA3.out.mono ?_); rintro e w10 ⟨v10, rfl, ho10, hb10, hs10⟩; have OX := hide ho10; have BX : Hid (Below BB w w10) := hide (B9.out.trans hb10); have SX : Hid (Stay w w10) := hide (S9.out.trans hs10); clear ho10 hb10 hs10)
        clear d1 KA3 B9 S9 R9 O9 hwy
        go_wp2
        refine ⟨⟨i + 1, _, by omega, rfl, by go_num, hide (by rw [dirB_snoc L i _ HE.out, ← List.append_assoc, ← List.append_assoc]; exact OX.out), BX, SX⟩, by simp [intOf]; omega⟩
      · have hii : ¬ (i : Int) < (nd : Int) := by omega
        go_wp2
        go_ret
        refine ⟨_, rfl, ?_, HBW.out, HSW.out⟩
        rw [HEND.out]
        have h := HOW.out
        rw [List.take_of_length_le (by rw [HN.out]; omega)] at h
        exact h
  | true =>
    go_upto_region 4 with fail
    have KA := hide (appendNumber_1 v l (2 * (nd : Int) + 1) BB W1 (HO.out.ext X1.out) (Nat.le_trans HB.out X1.out.size) (by omega) (by omega) (by have := HLL.out; omega))
    go_upto_region 5 with (go_at_call 19; (with_reducible refine KA.out.mono ?_); rintro e w2 ⟨v2, rfl, ho2, hb2, hs2⟩; have O2 := hide ho2; have B2 : Hid (Below BB w w2) := hide ((Below.mono X1.out HB.out).trans hb2); have S2 : Hid (Stay w w2) := hide ((Stay.ext X1.out).trans hs2); have R2 := hide (hs2 hb _ _ (by decide) R1.out); clear ho2 hb2 hs2)
    clear c8 c9 KA
    have c8 := R2.out.cell (i := 8) rfl
    obtain ⟨l1, HL1⟩ : ∃ l1, Hid (l ++ numN 1 (2 * (nd : Int) + 1) = l1) := ⟨_, hide rfl⟩
    rw [HL1.out] at O2
    have HLN : Hid (l1.length ≤ 1000001) := hide (by rw [← HL1.out, List.length_append, numN_length 1 _ (by decide)]; have := HLL.out; omega)
    have HEND : Hid (l ++ (numN 1 (cntN nd true) ++ dirB L) = l1 ++ dirB L) := hide (by rw [← HL1.out, List.append_assoc]; simp [cntN])
    go_upto_region 6 with fail
    go_loopw [0, 23] (fun pz iv wr => ∃ (i : Nat) (v' : Value), i ≤ nd ∧ v' = pz ∧ iv = .int .i64 (i : Int) ∧ Hid (Own wr BB v' (l1 ++ dirB (L.take i))) ∧ Hid (Below BB w wr) ∧ Hid (Stay w wr)) (fun _ iv _ => nd - (intOf iv).toNat)
    case atStart => exact ⟨0, _, Nat.zero_le _, rfl, rfl, hide (by rw [List.take_zero]; show Own _ _ _ (l1 ++ []); rw [List.append_nil]; exact O2.out), B2, S2⟩
    case round =>
      obtain ⟨i, v', hi, rfl, rfl, HOW, HBW, HSW⟩ := hrel
      clear O2 B2 S2 R2 c8
      by_cases hlt : i < nd
      · obtain ⟨⟨y, z⟩, he⟩ : ∃ e, L[i]? = some e := ⟨_, List.getElem?_eq_getElem (by rw [HN.out]; exact hlt)⟩
        obtain ⟨hy, hz⟩ := HL.out _ (List.mem_of_getElem? he)
        have HZ := hide hz
        have hy0 : 0 ≤ y := hy.1
        have hy1 : y < 4096 := hy.2
        obtain ⟨bb, oo, hD, k1, k2⟩ := (HR.out.ext (HX0.out.below HB0.out HBW.out)).at he
        subst hD
        have HE := hide he
        have hii : (i : Int) < (nd : Int) := by omega
        have hi0 : (0 : Int) ≤ (i : Int) := by omega
        have hwy : IntKind.u64.wrap y = y := by rw [IntKind.wrap_u64]; omega
        clear he hz hy
        go_upto_region 8 with fail
        obtain ⟨W8, hX8, hR8, hg⟩ : ∃ W8, Ext wr W8 ∧ Rw W8 wr.heap.size 47 [.int .i64 y, .int .u64 z] ∧ wr.alloc (.cells #[.int .i64 y, .int .u64 z] 47) = W8 := ⟨_, Ext.alloc _ _, Rw.new _ _ _, rfl⟩
        rw [hg]
        obtain ⟨h8, HH8⟩ : ∃ h8, Hid (wr.heap.size = h8) := ⟨_, hide rfl⟩
        rw [HH8.out] at hR8 ⊢
        have hBW8 : BB ≤ W8.heap.size := Nat.le_trans (Nat.le_trans HB.out HBW.out.size) hX8.size
        have B8 : Hid (Below BB w W8) := hide (HBW.out.trans (Below.mono hX8 (Nat.le_trans HB.out HBW.out.size)))
        have S8 : Hid (Stay w W8) := hide (HSW.out.trans (Stay.ext hX8))
        have R8 := hide hR8
        have d0 := hR8.cell (i := 0) rfl
        have KA2 := hide (appendNumber_2 v' (l1 ++ dirB (L.take i)) y BB W8 (HOW.out.ext hX8) hBW8 hy0 (by omega) (by rw [List.length_append, dirB_length, List.length_take]; have := HLN.out; omega))
        clear hg hX8 hR8 k1 k2 hBW8
        go_upto_region 9 with (go_at_call 19; (with_reducible refine KA2.out.mono ?_); rintro e w9 ⟨v9, rfl, ho9, hb9, hs9⟩; have O9 := hide ho9; have B9 : Hid (Below BB w w9) := hide (B8.out.trans hb9); have S9 : Hid (Stay w w9) := hide (S8.out.trans hs9); have R9 := hide (hs9 h8 _ _ (by decide) R8.out); clear ho9 hb9 hs9)
        clear d0 KA2 B8 S8 R8
        have d1 := R9.out.cell (i := 1) rfl
        have KA3 := hide (appendNumber_8 v9 (l1 ++ dirB (L.take i) ++ numN 2 y) z BB w9 O9.out (Nat.le_trans HB.out B9.out.size) HZ.out.1 HZ.out.2 (by rw [List.length_append, List.length_append, dirB_length, List.length_take, numN_length 2 _ (by decide)]; have := HLN.out; omega))
        go_upto_region 10 with (go_at_call 19; (with_reducible refine KA3.out.mono ?_); rintro e w10 ⟨v10, rfl, ho10, hb10, hs10⟩; have OX := hide ho10; have BX : Hid (Below BB w w10) := hide (B9.out.trans hb10); have SX : Hid (Stay w w10) := hide (S9.out.trans hs10); clear ho10 hb10 hs10)
        clear d1 KA3 B9 S9 R9 O9 hwy
        go_wp2
        refine ⟨⟨i + 1, _, by omega, rfl, by go_num, hide (by rw [dirB_snoc L i _ HE.out, ← List.append_assoc, ← List.append_assoc]; exact OX.out), BX, SX⟩, by simp [intOf]; omega⟩
      · have hii : ¬ (i : Int) < (nd : Int) := by omega
        go_wp2
        go_ret
        refine ⟨_, rfl, ?_, HBW.out, HSW.out⟩
        rw [HEND.out]
        have h := HOW.out
        rw [List.take_of_length_le (by rw [HN.out]; omega)] at h
        exact h
end Go.Proofs.YthdahgekodcloaaDoor
namespace Go.Proofs.YthdahgekodcloaaDoor
open Go.RowKit

/-- A record's bytes but for its sum. -/
def recB (k tx pv pg off nx : Int) (bf af : List UInt8) (L : List (Int × Int)) (op : Bool) : List UInt8 :=
  numN 1 k ++ (numN 8 tx ++ ((if hpv k then numN 8 pv else []) ++ ((if hch k then numN 2 pg ++ (numN 2 off ++ (numN 2 (af.length : Int) ++ (bf ++ af))) else []) ++ ((if hnx k then numN 8 nx else []) ++ (if hck k then numN 1 (cntN L.length op) ++ dirB L else [])))))
def fullB (k tx pv pg off nx : Int) (bf af : List UInt8) (L : List (Int × Int)) (op : Bool) : List UInt8 := recB k tx pv pg off nx bf af L op ++ sumB (recB k tx pv pg off nx bf af L op)
theorem risB_mem : ∀ (L : List (Int × Int)) (last : Int), -1 ≤ last → risB last L = true → ∀ e ∈ L, 0 ≤ e.1 ∧ e.1 < 4096
  | [], _, _, _, e, he => by cases he
  | x :: L, last, hl, h, e, he => by
    simp only [risB, Bool.and_eq_true, decide_eq_true_eq] at h
    rcases List.mem_cons.1 he with rfl | he
    · omega
    · exact risB_mem L x.1 (by omega) h.2.2 e he
def EncP (w : World) (l : List UInt8) (e : Ending) (w' : World) : Prop := ∃ v', e = .returned (.tuple #[v', .int .i64 0]) ∧ Own w' w.heap.size v' l ∧ Ext w w'
theorem own_mono {w : World} {B B' : Nat} {v : Value} {l : List UInt8} (h : Own w B v l) (hB : B' ≤ B) : Own w B' v l := by
  refine ⟨h.1, ?_⟩
  rcases h.2 with hn | ⟨g, cap, cur, rfl, hb, rest⟩
  · exact .inl hn
  · exact .inr ⟨g, cap, cur, rfl, Nat.le_trans hB hb, rest⟩
end Go.Proofs.YthdahgekodcloaaDoor
