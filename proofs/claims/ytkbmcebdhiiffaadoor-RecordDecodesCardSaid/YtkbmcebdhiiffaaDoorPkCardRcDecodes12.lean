/-
  A record as bytes: the program's Encode, kind 2.
  A record as bytes: the program's Encode, kind 3.
-/
import Derived.Test.YtkbmcebdhiiffaaDoorPkCardRcDecodes4
set_option linter.unusedVariables false
set_option linter.unusedSimpArgs false

namespace Go.Proofs.YtkbmcebdhiiffaaDoor
open Go.RowKit

set_option maxRecDepth 20000 in
set_option maxHeartbeats 6400000 in
theorem encode_2 (tx pv pg off nx : Int) (A B D : Option Addr) (nb a na b' nd d : Nat) (op : Bool) (w : World) (bf af : List UInt8) (L : List (Int × Int)) (ht : Tab w) (hb0 : Rd w A bf) (ha0 : Rd w B af) (hr : RdD w D L) (hbn : bf.length = nb) (han : af.length = na) (hn : L.length = nd) (hnd : nd ≤ 140737488351232) (hna : na ≤ 140737488351232) (hnb : nb ≤ 140737488351232) (ho : -9223372036854775808 ≤ off) (ho2 : off < 9223372036854775808) (htx0 : 0 ≤ tx) (htx : tx < 18446744073709551616) (hpv0 : 0 ≤ pv) (hpv1 : pv < 18446744073709551616) (hnx0 : 0 ≤ nx) (hnx1 : nx < 18446744073709551616) (hdl : ∀ e ∈ L, 0 ≤ e.2 ∧ e.2 < 18446744073709551616) (hf : formN 2 pv pg off nx na nb nd L op = true) :
    Calls Tryd.prog 11 #[.agg #[.int .u8 2, .int .u64 tx, .int .u64 pv, .int .i64 pg, .int .i64 off, .slice A nb a, .slice B na b', .int .u64 nx, .slice D nd d, .bool op]] w (EncP w (fullB 2 tx pv pg off nx bf af L op)) := by
  have KF := hide (fun (W : World) (hW : Ext w W) => (show Calls Tryd.prog 9 #[.agg #[.int .u8 2, .int .u64 tx, .int .u64 pv, .int .i64 pg, .int .i64 off, .slice A nb a, .slice B na b', .int .u64 nx, .slice D nd d, .bool op]] W (RetB W true) from by have h := form_any 2 tx pv pg off nx A B D nb a na b' nd d op W L (hr.ext hW) hn hnd hna hnb ho ho2; rw [hf] at h; exact h))
  have KP := hide (fun (W : World) => (show Calls Tryd.prog 16 #[.int .u8 2] W (fun e w' => e = .returned (.tuple #[.agg #[.bool true, .bool true, .bool true, .bool false, .bool false], .bool true]) ∧ Ext W w') from partsOf_any 2 W))
  obtain ⟨hpg0, hpg1, hn1, hno, hoff0, hnbE⟩ : 0 ≤ pg ∧ pg < 4096 ∧ na ≤ 512 ∧ off ≤ 512 ∧ 0 ≤ off ∧ nb ≤ 512 := by
    simp [formN, hok, hpv, hch, hbf, hnx, hck, chgN, chkN, isPg] at hf
    omega
  have wpg : IntKind.u64.wrap pg = pg := by rw [IntKind.wrap_u64]; omega
  have woff : IntKind.u64.wrap off = off := by rw [IntKind.wrap_u64]; omega
  have wna : IntKind.u64.wrap (na : Int) = (na : Int) := by rw [IntKind.wrap_u64]; omega
  have HT := hide ht
  have HBF := hide hb0
  have HAF := hide ha0
  have HD := hide hr
  have HBN := hide hbn
  have HAN := hide han
  have HN := hide hn
  have HTX := hide (And.intro htx0 htx)
  have HPV := hide (And.intro hpv0 hpv1)
  have HNX := hide (And.intro hnx0 hnx1)
  clear ht hb0 ha0 hr hbn han hn htx0 htx hpv0 hpv1 hnx0 hnx1 hdl hf ho ho2
  go_enter Tryd.func11, Tryd.ntmps11
  go_upto_region 1 with fail
  obtain ⟨W1, hX1, hR1, hg⟩ : ∃ W1, Ext w W1 ∧ Rw W1 w.heap.size 26 [.int .u8 2, .int .u64 tx, .int .u64 pv, .int .i64 pg, .int .i64 off, .slice A nb a, .slice B na b', .int .u64 nx, .slice D nd d, .bool op] ∧ w.alloc (.cells #[.int .u8 2, .int .u64 tx, .int .u64 pv, .int .i64 pg, .int .i64 off, .slice A nb a, .slice B na b', .int .u64 nx, .slice D nd d, .bool op] 26) = W1 := ⟨_, Ext.alloc _ _, Rw.new _ _ _, rfl⟩
  rw [hg]
  obtain ⟨hb, HHB⟩ : ∃ hb, Hid (w.heap.size = hb) := ⟨_, hide rfl⟩
  rw [HHB.out] at hR1 ⊢
  have X1 := hide hX1
  have R1 := hide hR1
  have c0 := hR1.cell (i := 0) rfl
  have c1 := hR1.cell (i := 1) rfl
  have c2 := hR1.cell (i := 2) rfl
  have c3 := hR1.cell (i := 3) rfl
  have c4 := hR1.cell (i := 4) rfl
  have c5 := hR1.cell (i := 5) rfl
  have c6 := hR1.cell (i := 6) rfl
  have c7 := hR1.cell (i := 7) rfl
  have c8 := hR1.cell (i := 8) rfl
  have c9 := hR1.cell (i := 9) rfl
  clear hg hX1 hR1
  go_upto_region 3 with (go_at_call 9; (with_reducible refine (KF.out _ X1.out).mono ?_); rintro e w2 ⟨rfl, hx2⟩; have X2 := hide (X1.out.trans hx2); have R2 := hide (R1.out.ext hx2); clear hx2)
  clear c0 c1 c2 c3 c4 c5 c6 c7 c8 c9
  have c0 := R2.out.cell (i := 0) rfl
  go_upto_region 4 with (go_at_call 16; (with_reducible refine (KP.out _).mono ?_); rintro e w3 ⟨rfl, hx3⟩; have X3 := hide (X2.out.trans hx3); have R3 := hide (R2.out.ext hx3); clear hx3)
  clear c0
  obtain ⟨W4, hX4, hR4, hg⟩ : ∃ W4, Ext w3 W4 ∧ Rw W4 w3.heap.size 42 [.bool true, .bool true, .bool true, .bool false, .bool false] ∧ w3.alloc (.cells #[.bool true, .bool true, .bool true, .bool false, .bool false] 42) = W4 := ⟨_, Ext.alloc _ _, Rw.new _ _ _, rfl⟩
  rw [hg]
  obtain ⟨hq, HHQ⟩ : ∃ hq, Hid (w3.heap.size = hq) := ⟨_, hide rfl⟩
  rw [HHQ.out] at hR4 ⊢
  have R4 := hide (R3.out.ext hX4)
  have Q4 := hide hR4
  obtain ⟨BB, HBB⟩ : ∃ BB, Hid (W4.heap.size = BB) := ⟨_, hide rfl⟩
  have XW4 := hide (X3.out.trans hX4)
  have HB0 : Hid (w.heap.size ≤ BB) := hide (by rw [← HBB.out]; exact XW4.out.size)
  have Y4 : Hid (Below BB W4 W4) := hide (Below.refl _ _)
  have O4 : Hid (Own W4 BB (.slice none 0 0) []) := hide (Own.nil _ _)
  have HBW : Hid (BB ≤ W4.heap.size) := hide (by rw [HBB.out]; exact Nat.le_refl _)
  clear hg hX4 hR4 X1 X2 X3 R1 R2 R3 KF KP HHB HHQ
  have c0 := R4.out.cell (i := 0) rfl
  have c1 := R4.out.cell (i := 1) rfl
  have c2 := R4.out.cell (i := 2) rfl
  have c3 := R4.out.cell (i := 3) rfl
  have c4 := R4.out.cell (i := 4) rfl
  have c5 := R4.out.cell (i := 5) rfl
  have c6 := R4.out.cell (i := 6) rfl
  have c7 := R4.out.cell (i := 7) rfl
  have c8 := R4.out.cell (i := 8) rfl
  have c9 := R4.out.cell (i := 9) rfl
  have q0 := Q4.out.cell (i := 0) rfl
  have q1 := Q4.out.cell (i := 1) rfl
  have q2 := Q4.out.cell (i := 2) rfl
  have q3 := Q4.out.cell (i := 3) rfl
  have q4 := Q4.out.cell (i := 4) rfl
  have KA := hide (appendNumber_1 (.slice none 0 0) [] 2 BB W4 O4.out HBW.out (by omega) (by omega) (by simp))
  go_upto_region 5 with (go_at_call 19; (with_reducible refine KA.out.mono ?_); rintro e m0 ⟨z0, rfl, ho, hb2, hs2⟩; have Op0 := hide ho; have Yp0 : Hid (Below BB W4 m0) := hide (Y4.out.trans hb2); have Xp0 : Hid (Ext w m0) := hide (XW4.out.below HB0.out Yp0.out); have Rp0 := hide (hs2 hb _ _ (by decide) R4.out); have Qp0 := hide (hs2 hq _ _ (by decide) Q4.out); clear ho hb2 hs2)
  clear R4 Q4 O4 KA
  clear c0 c1 c2 c3 c4 c5 c6 c7 c8 c9 q0 q1 q2 q3 q4
  have c0 := Rp0.out.cell (i := 0) rfl
  have c1 := Rp0.out.cell (i := 1) rfl
  have c2 := Rp0.out.cell (i := 2) rfl
  have c3 := Rp0.out.cell (i := 3) rfl
  have c4 := Rp0.out.cell (i := 4) rfl
  have c5 := Rp0.out.cell (i := 5) rfl
  have c6 := Rp0.out.cell (i := 6) rfl
  have c7 := Rp0.out.cell (i := 7) rfl
  have c8 := Rp0.out.cell (i := 8) rfl
  have c9 := Rp0.out.cell (i := 9) rfl
  have q0 := Qp0.out.cell (i := 0) rfl
  have q1 := Qp0.out.cell (i := 1) rfl
  have q2 := Qp0.out.cell (i := 2) rfl
  have q3 := Qp0.out.cell (i := 3) rfl
  have q4 := Qp0.out.cell (i := 4) rfl
  obtain ⟨l0, HEp0⟩ : ∃ l, Hid ([] ++ numN 1 2 = l) := ⟨_, hide rfl⟩
  rw [HEp0.out] at Op0
  have HLp0 : Hid (l0.length ≤ 1) := hide (by rw [← HEp0.out, List.length_append, numN_length 1 _ (by decide)]; simp)
  have KA := hide (appendNumber_8 z0 l0 tx BB m0 Op0.out (Nat.le_trans HBW.out Yp0.out.size) HTX.out.1 HTX.out.2 (by have := HLp0.out; omega))
  go_upto_region 6 with (go_at_call 19; (with_reducible refine KA.out.mono ?_); rintro e m1 ⟨z1, rfl, ho, hb2, hs2⟩; have Op1 := hide ho; have Yp1 : Hid (Below BB W4 m1) := hide (Yp0.out.trans hb2); have Xp1 : Hid (Ext w m1) := hide (XW4.out.below HB0.out Yp1.out); have Rp1 := hide (hs2 hb _ _ (by decide) Rp0.out); have Qp1 := hide (hs2 hq _ _ (by decide) Qp0.out); clear ho hb2 hs2)
  clear Rp0 Qp0 Op0 KA
  clear c0 c1 c2 c3 c4 c5 c6 c7 c8 c9 q0 q1 q2 q3 q4
  have c0 := Rp1.out.cell (i := 0) rfl
  have c1 := Rp1.out.cell (i := 1) rfl
  have c2 := Rp1.out.cell (i := 2) rfl
  have c3 := Rp1.out.cell (i := 3) rfl
  have c4 := Rp1.out.cell (i := 4) rfl
  have c5 := Rp1.out.cell (i := 5) rfl
  have c6 := Rp1.out.cell (i := 6) rfl
  have c7 := Rp1.out.cell (i := 7) rfl
  have c8 := Rp1.out.cell (i := 8) rfl
  have c9 := Rp1.out.cell (i := 9) rfl
  have q0 := Qp1.out.cell (i := 0) rfl
  have q1 := Qp1.out.cell (i := 1) rfl
  have q2 := Qp1.out.cell (i := 2) rfl
  have q3 := Qp1.out.cell (i := 3) rfl
  have q4 := Qp1.out.cell (i := 4) rfl
  obtain ⟨l1, HEp1⟩ : ∃ l, Hid (l0 ++ numN 8 tx = l) := ⟨_, hide rfl⟩
  rw [HEp1.out] at Op1
  have HLp1 : Hid (l1.length ≤ 9) := hide (by rw [← HEp1.out, List.length_append, numN_length 8 _ (by decide)]; have := HLp0.out; omega)
  have KA := hide (appendNumber_8 z1 l1 pv BB m1 Op1.out (Nat.le_trans HBW.out Yp1.out.size) HPV.out.1 HPV.out.2 (by have := HLp1.out; omega))
  go_upto_region 8 with (go_at_call 19; (with_reducible refine KA.out.mono ?_); rintro e m2 ⟨z2, rfl, ho, hb2, hs2⟩; have Op2 := hide ho; have Yp2 : Hid (Below BB W4 m2) := hide (Yp1.out.trans hb2); have Xp2 : Hid (Ext w m2) := hide (XW4.out.below HB0.out Yp2.out); have Rp2 := hide (hs2 hb _ _ (by decide) Rp1.out); have Qp2 := hide (hs2 hq _ _ (by decide) Qp1.out); clear ho hb2 hs2)
  clear Rp1 Qp1 Op1 KA
  clear c0 c1 c2 c3 c4 c5 c6 c7 c8 c9 q0 q1 q2 q3 q4
  have c0 := Rp2.out.cell (i := 0) rfl
  have c1 := Rp2.out.cell (i := 1) rfl
  have c2 := Rp2.out.cell (i := 2) rfl
  have c3 := Rp2.out.cell (i := 3) rfl
  have c4 := Rp2.out.cell (i := 4) rfl
  have c5 := Rp2.out.cell (i := 5) rfl
  have c6 := Rp2.out.cell (i := 6) rfl
  have c7 := Rp2.out.cell (i := 7) rfl
  have c8 := Rp2.out.cell (i := 8) rfl
  have c9 := Rp2.out.cell (i := 9) rfl
  have q0 := Qp2.out.cell (i := 0) rfl
  have q1 := Qp2.out.cell (i := 1) rfl
  have q2 := Qp2.out.cell (i := 2) rfl
  have q3 := Qp2.out.cell (i := 3) rfl
  have q4 := Qp2.out.cell (i := 4) rfl
  obtain ⟨l2, HEp2⟩ : ∃ l, Hid (l1 ++ numN 8 pv = l) := ⟨_, hide rfl⟩
  rw [HEp2.out] at Op2
  have HLp2 : Hid (l2.length ≤ 17) := hide (by rw [← HEp2.out, List.length_append, numN_length 8 _ (by decide)]; have := HLp1.out; omega)
  have KA := hide (appendNumber_2 z2 l2 pg BB m2 Op2.out (Nat.le_trans HBW.out Yp2.out.size) (by omega) (by omega) (by have := HLp2.out; omega))
  go_upto_region 10 with (go_at_call 19; (with_reducible refine KA.out.mono ?_); rintro e m3 ⟨z3, rfl, ho, hb2, hs2⟩; have Op3 := hide ho; have Yp3 : Hid (Below BB W4 m3) := hide (Yp2.out.trans hb2); have Xp3 : Hid (Ext w m3) := hide (XW4.out.below HB0.out Yp3.out); have Rp3 := hide (hs2 hb _ _ (by decide) Rp2.out); have Qp3 := hide (hs2 hq _ _ (by decide) Qp2.out); clear ho hb2 hs2)
  clear Rp2 Qp2 Op2 KA
  clear c0 c1 c2 c3 c4 c5 c6 c7 c8 c9 q0 q1 q2 q3 q4
  have c0 := Rp3.out.cell (i := 0) rfl
  have c1 := Rp3.out.cell (i := 1) rfl
  have c2 := Rp3.out.cell (i := 2) rfl
  have c3 := Rp3.out.cell (i := 3) rfl
  have c4 := Rp3.out.cell (i := 4) rfl
  have c5 := Rp3.out.cell (i := 5) rfl
  have c6 := Rp3.out.cell (i := 6) rfl
  have c7 := Rp3.out.cell (i := 7) rfl
  have c8 := Rp3.out.cell (i := 8) rfl
  have c9 := Rp3.out.cell (i := 9) rfl
  have q0 := Qp3.out.cell (i := 0) rfl
  have q1 := Qp3.out.cell (i := 1) rfl
  have q2 := Qp3.out.cell (i := 2) rfl
  have q3 := Qp3.out.cell (i := 3) rfl
  have q4 := Qp3.out.cell (i := 4) rfl
  obtain ⟨l3, HEp3⟩ : ∃ l, Hid (l2 ++ numN 2 pg = l) := ⟨_, hide rfl⟩
  rw [HEp3.out] at Op3
  have HLp3 : Hid (l3.length ≤ 19) := hide (by rw [← HEp3.out, List.length_append, numN_length 2 _ (by decide)]; have := HLp2.out; omega)
  have KA := hide (appendNumber_2 z3 l3 off BB m3 Op3.out (Nat.le_trans HBW.out Yp3.out.size) (by omega) (by omega) (by have := HLp3.out; omega))
  go_upto_region 11 with (go_at_call 19; (with_reducible refine KA.out.mono ?_); rintro e m4 ⟨z4, rfl, ho, hb2, hs2⟩; have Op4 := hide ho; have Yp4 : Hid (Below BB W4 m4) := hide (Yp3.out.trans hb2); have Xp4 : Hid (Ext w m4) := hide (XW4.out.below HB0.out Yp4.out); have Rp4 := hide (hs2 hb _ _ (by decide) Rp3.out); have Qp4 := hide (hs2 hq _ _ (by decide) Qp3.out); clear ho hb2 hs2)
  clear Rp3 Qp3 Op3 KA
  clear c0 c1 c2 c3 c4 c5 c6 c7 c8 c9 q0 q1 q2 q3 q4
  have c0 := Rp4.out.cell (i := 0) rfl
  have c1 := Rp4.out.cell (i := 1) rfl
  have c2 := Rp4.out.cell (i := 2) rfl
  have c3 := Rp4.out.cell (i := 3) rfl
  have c4 := Rp4.out.cell (i := 4) rfl
  have c5 := Rp4.out.cell (i := 5) rfl
  have c6 := Rp4.out.cell (i := 6) rfl
  have c7 := Rp4.out.cell (i := 7) rfl
  have c8 := Rp4.out.cell (i := 8) rfl
  have c9 := Rp4.out.cell (i := 9) rfl
  have q0 := Qp4.out.cell (i := 0) rfl
  have q1 := Qp4.out.cell (i := 1) rfl
  have q2 := Qp4.out.cell (i := 2) rfl
  have q3 := Qp4.out.cell (i := 3) rfl
  have q4 := Qp4.out.cell (i := 4) rfl
  obtain ⟨l4, HEp4⟩ : ∃ l, Hid (l3 ++ numN 2 off = l) := ⟨_, hide rfl⟩
  rw [HEp4.out] at Op4
  have HLp4 : Hid (l4.length ≤ 21) := hide (by rw [← HEp4.out, List.length_append, numN_length 2 _ (by decide)]; have := HLp3.out; omega)
  have KA := hide (appendNumber_2 z4 l4 (na : Int) BB m4 Op4.out (Nat.le_trans HBW.out Yp4.out.size) (by omega) (by omega) (by have := HLp4.out; omega))
  go_upto_region 12 with (go_at_call 19; (with_reducible refine KA.out.mono ?_); rintro e m5 ⟨z5, rfl, ho, hb2, hs2⟩; have Op5 := hide ho; have Yp5 : Hid (Below BB W4 m5) := hide (Yp4.out.trans hb2); have Xp5 : Hid (Ext w m5) := hide (XW4.out.below HB0.out Yp5.out); have Rp5 := hide (hs2 hb _ _ (by decide) Rp4.out); have Qp5 := hide (hs2 hq _ _ (by decide) Qp4.out); clear ho hb2 hs2)
  clear Rp4 Qp4 Op4 KA
  clear c0 c1 c2 c3 c4 c5 c6 c7 c8 c9 q0 q1 q2 q3 q4
  have c0 := Rp5.out.cell (i := 0) rfl
  have c1 := Rp5.out.cell (i := 1) rfl
  have c2 := Rp5.out.cell (i := 2) rfl
  have c3 := Rp5.out.cell (i := 3) rfl
  have c4 := Rp5.out.cell (i := 4) rfl
  have c5 := Rp5.out.cell (i := 5) rfl
  have c6 := Rp5.out.cell (i := 6) rfl
  have c7 := Rp5.out.cell (i := 7) rfl
  have c8 := Rp5.out.cell (i := 8) rfl
  have c9 := Rp5.out.cell (i := 9) rfl
  have q0 := Qp5.out.cell (i := 0) rfl
  have q1 := Qp5.out.cell (i := 1) rfl
  have q2 := Qp5.out.cell (i := 2) rfl
  have q3 := Qp5.out.cell (i := 3) rfl
  have q4 := Qp5.out.cell (i := 4) rfl
  obtain ⟨l5, HEp5⟩ : ∃ l, Hid (l4 ++ numN 2 (na : Int) = l) := ⟨_, hide rfl⟩
  rw [HEp5.out] at Op5
  have HLp5 : Hid (l5.length ≤ 23) := hide (by rw [← HEp5.out, List.length_append, numN_length 2 _ (by decide)]; have := HLp4.out; omega)
  go_upto_region 13 with (refine wpList_catG rfl (.tmp 48) (.tmp 50) rfl BB z5 l5 bf A nb a rfl rfl HBN.out.symm Op5.out (HBF.out.ext Xp5.out) (Nat.le_trans HBW.out Yp5.out.size) (by rw [HBN.out]; have := HLp5.out; omega) ?_; intro z6 m6 ho hb2 hs2; have Op6 := hide ho; have Yp6 : Hid (Below BB W4 m6) := hide (Yp5.out.trans hb2); have Xp6 : Hid (Ext w m6) := hide (XW4.out.below HB0.out Yp6.out); have Rp6 := hide (hs2 hb _ _ (by decide) Rp5.out); have Qp6 := hide (hs2 hq _ _ (by decide) Qp5.out); clear ho hb2 hs2)
  clear Rp5 Qp5 Op5 
  clear c0 c1 c2 c3 c4 c5 c6 c7 c8 c9 q0 q1 q2 q3 q4
  have c0 := Rp6.out.cell (i := 0) rfl
  have c1 := Rp6.out.cell (i := 1) rfl
  have c2 := Rp6.out.cell (i := 2) rfl
  have c3 := Rp6.out.cell (i := 3) rfl
  have c4 := Rp6.out.cell (i := 4) rfl
  have c5 := Rp6.out.cell (i := 5) rfl
  have c6 := Rp6.out.cell (i := 6) rfl
  have c7 := Rp6.out.cell (i := 7) rfl
  have c8 := Rp6.out.cell (i := 8) rfl
  have c9 := Rp6.out.cell (i := 9) rfl
  have q0 := Qp6.out.cell (i := 0) rfl
  have q1 := Qp6.out.cell (i := 1) rfl
  have q2 := Qp6.out.cell (i := 2) rfl
  have q3 := Qp6.out.cell (i := 3) rfl
  have q4 := Qp6.out.cell (i := 4) rfl
  obtain ⟨l6, HEp6⟩ : ∃ l, Hid (l5 ++ bf = l) := ⟨_, hide rfl⟩
  rw [HEp6.out] at Op6
  have HLp6 : Hid (l6.length ≤ 535) := hide (by rw [← HEp6.out, List.length_append, HBN.out]; have := HLp5.out; omega)
  go_upto_region 14 with (refine wpList_catG rfl (.tmp 52) (.tmp 54) rfl BB z6 l6 af B na b' rfl rfl HAN.out.symm Op6.out (HAF.out.ext Xp6.out) (Nat.le_trans HBW.out Yp6.out.size) (by rw [HAN.out]; have := HLp6.out; omega) ?_; intro z7 m7 ho hb2 hs2; have Op7 := hide ho; have Yp7 : Hid (Below BB W4 m7) := hide (Yp6.out.trans hb2); have Xp7 : Hid (Ext w m7) := hide (XW4.out.below HB0.out Yp7.out); have Rp7 := hide (hs2 hb _ _ (by decide) Rp6.out); have Qp7 := hide (hs2 hq _ _ (by decide) Qp6.out); clear ho hb2 hs2)
  clear Rp6 Qp6 Op6 
  clear c0 c1 c2 c3 c4 c5 c6 c7 c8 c9 q0 q1 q2 q3 q4
  have c0 := Rp7.out.cell (i := 0) rfl
  have c1 := Rp7.out.cell (i := 1) rfl
  have c2 := Rp7.out.cell (i := 2) rfl
  have c3 := Rp7.out.cell (i := 3) rfl
  have c4 := Rp7.out.cell (i := 4) rfl
  have c5 := Rp7.out.cell (i := 5) rfl
  have c6 := Rp7.out.cell (i := 6) rfl
  have c7 := Rp7.out.cell (i := 7) rfl
  have c8 := Rp7.out.cell (i := 8) rfl
  have c9 := Rp7.out.cell (i := 9) rfl
  have q0 := Qp7.out.cell (i := 0) rfl
  have q1 := Qp7.out.cell (i := 1) rfl
  have q2 := Qp7.out.cell (i := 2) rfl
  have q3 := Qp7.out.cell (i := 3) rfl
  have q4 := Qp7.out.cell (i := 4) rfl
  obtain ⟨l7, HEp7⟩ : ∃ l, Hid (l6 ++ af = l) := ⟨_, hide rfl⟩
  rw [HEp7.out] at Op7
  have HLp7 : Hid (l7.length ≤ 1047) := hide (by rw [← HEp7.out, List.length_append, HAN.out]; have := HLp6.out; omega)
  have HREC : Hid (recB 2 tx pv pg off nx bf af L op = l7) := hide (by
    rw [← HEp7.out, ← HEp6.out, ← HEp5.out, ← HEp4.out, ← HEp3.out, ← HEp2.out, ← HEp1.out, ← HEp0.out]
    simp [recB, hpv, hch, hnx, hck, HAN.out])
  obtain ⟨AZ, cz, hvz, hcz, hrz⟩ := Op7.out.bytes
  subst hvz
  obtain ⟨nz, HNZ⟩ : ∃ n, Hid (l7.length = n) := ⟨_, hide rfl⟩
  rw [HNZ.out] at Op7 ⊢
  have KS := hide (sumOf_any AZ l7 nz cz m7 hrz HNZ.out (by have := HNZ.out; have := HLp7.out; omega) (HT.out.ext Xp7.out))
  clear hcz hrz
  go_wp2_with (first
    | (go_at_call 21; (with_reducible refine KS.out.mono ?_); rintro e ws ⟨vs, rfl, hxs, hos⟩; obtain ⟨AS, cs, hvs, hcs, hrs⟩ := Own.bytes hos; subst hvs; have XS := hide hxs; have RS := hide hrs; clear hxs hrs hos hcs)
    | (refine wpList_catG rfl (.tmp 67) (.tmp 69) rfl BB (.slice AZ nz cz) l7 (sumB l7) AS _ cs rfl rfl rfl (Op7.out.ext XS.out) RS.out (Nat.le_trans (Nat.le_trans HBW.out Yp7.out.size) XS.out.size) (by rw [show (sumB l7).length = 4 from numN_length 4 _ (by decide)]; have := HLp7.out; omega) ?_; intro vf wf ho hb2 hs2))
  go_ret2
  refine ⟨vf, rfl, ?_, XW4.out.below HB0.out ((Yp7.out.trans (Below.mono XS.out (Nat.le_trans HBW.out Yp7.out.size))).trans hb2)⟩
  rw [fullB, HREC.out]
  exact own_mono ho HB0.out
end Go.Proofs.YtkbmcebdhiiffaaDoor
namespace Go.Proofs.YtkbmcebdhiiffaaDoor
open Go.RowKit

set_option maxRecDepth 20000 in
set_option maxHeartbeats 6400000 in
theorem encode_3 (tx pv pg off nx : Int) (A B D : Option Addr) (nb a na b' nd d : Nat) (op : Bool) (w : World) (bf af : List UInt8) (L : List (Int × Int)) (ht : Tab w) (hb0 : Rd w A bf) (ha0 : Rd w B af) (hr : RdD w D L) (hbn : bf.length = nb) (han : af.length = na) (hn : L.length = nd) (hnd : nd ≤ 140737488351232) (hna : na ≤ 140737488351232) (hnb : nb ≤ 140737488351232) (ho : -9223372036854775808 ≤ off) (ho2 : off < 9223372036854775808) (htx0 : 0 ≤ tx) (htx : tx < 18446744073709551616) (hpv0 : 0 ≤ pv) (hpv1 : pv < 18446744073709551616) (hnx0 : 0 ≤ nx) (hnx1 : nx < 18446744073709551616) (hdl : ∀ e ∈ L, 0 ≤ e.2 ∧ e.2 < 18446744073709551616) (hf : formN 3 pv pg off nx na nb nd L op = true) :
    Calls Tryd.prog 11 #[.agg #[.int .u8 3, .int .u64 tx, .int .u64 pv, .int .i64 pg, .int .i64 off, .slice A nb a, .slice B na b', .int .u64 nx, .slice D nd d, .bool op]] w (EncP w (fullB 3 tx pv pg off nx bf af L op)) := by
  have KF := hide (fun (W : World) (hW : Ext w W) => (show Calls Tryd.prog 9 #[.agg #[.int .u8 3, .int .u64 tx, .int .u64 pv, .int .i64 pg, .int .i64 off, .slice A nb a, .slice B na b', .int .u64 nx, .slice D nd d, .bool op]] W (RetB W true) from by have h := form_any 3 tx pv pg off nx A B D nb a na b' nd d op W L (hr.ext hW) hn hnd hna hnb ho ho2; rw [hf] at h; exact h))
  have KP := hide (fun (W : World) => (show Calls Tryd.prog 16 #[.int .u8 3] W (fun e w' => e = .returned (.tuple #[.agg #[.bool true, .bool true, .bool false, .bool true, .bool false], .bool true]) ∧ Ext W w') from partsOf_any 3 W))
  obtain ⟨hpg0, hpg1, hn1, hno, hoff0, hnbE⟩ : 0 ≤ pg ∧ pg < 4096 ∧ na ≤ 512 ∧ off ≤ 512 ∧ 0 ≤ off ∧ nb ≤ 512 := by
    simp [formN, hok, hpv, hch, hbf, hnx, hck, chgN, chkN, isPg] at hf
    omega
  have wpg : IntKind.u64.wrap pg = pg := by rw [IntKind.wrap_u64]; omega
  have woff : IntKind.u64.wrap off = off := by rw [IntKind.wrap_u64]; omega
  have wna : IntKind.u64.wrap (na : Int) = (na : Int) := by rw [IntKind.wrap_u64]; omega
  have HT := hide ht
  have HBF := hide hb0
  have HAF := hide ha0
  have HD := hide hr
  have HBN := hide hbn
  have HAN := hide han
  have HN := hide hn
  have HTX := hide (And.intro htx0 htx)
  have HPV := hide (And.intro hpv0 hpv1)
  have HNX := hide (And.intro hnx0 hnx1)
  clear ht hb0 ha0 hr hbn han hn htx0 htx hpv0 hpv1 hnx0 hnx1 hdl hf ho ho2
  go_enter Tryd.func11, Tryd.ntmps11
  go_upto_region 1 with fail
  obtain ⟨W1, hX1, hR1, hg⟩ : ∃ W1, Ext w W1 ∧ Rw W1 w.heap.size 26 [.int .u8 3, .int .u64 tx, .int .u64 pv, .int .i64 pg, .int .i64 off, .slice A nb a, .slice B na b', .int .u64 nx, .slice D nd d, .bool op] ∧ w.alloc (.cells #[.int .u8 3, .int .u64 tx, .int .u64 pv, .int .i64 pg, .int .i64 off, .slice A nb a, .slice B na b', .int .u64 nx, .slice D nd d, .bool op] 26) = W1 := ⟨_, Ext.alloc _ _, Rw.new _ _ _, rfl⟩
  rw [hg]
  obtain ⟨hb, HHB⟩ : ∃ hb, Hid (w.heap.size = hb) := ⟨_, hide rfl⟩
  rw [HHB.out] at hR1 ⊢
  have X1 := hide hX1
  have R1 := hide hR1
  have c0 := hR1.cell (i := 0) rfl
  have c1 := hR1.cell (i := 1) rfl
  have c2 := hR1.cell (i := 2) rfl
  have c3 := hR1.cell (i := 3) rfl
  have c4 := hR1.cell (i := 4) rfl
  have c5 := hR1.cell (i := 5) rfl
  have c6 := hR1.cell (i := 6) rfl
  have c7 := hR1.cell (i := 7) rfl
  have c8 := hR1.cell (i := 8) rfl
  have c9 := hR1.cell (i := 9) rfl
  clear hg hX1 hR1
  go_upto_region 3 with (go_at_call 9; (with_reducible refine (KF.out _ X1.out).mono ?_); rintro e w2 ⟨rfl, hx2⟩; have X2 := hide (X1.out.trans hx2); have R2 := hide (R1.out.ext hx2); clear hx2)
  clear c0 c1 c2 c3 c4 c5 c6 c7 c8 c9
  have c0 := R2.out.cell (i := 0) rfl
  go_upto_region 4 with (go_at_call 16; (with_reducible refine (KP.out _).mono ?_); rintro e w3 ⟨rfl, hx3⟩; have X3 := hide (X2.out.trans hx3); have R3 := hide (R2.out.ext hx3); clear hx3)
  clear c0
  obtain ⟨W4, hX4, hR4, hg⟩ : ∃ W4, Ext w3 W4 ∧ Rw W4 w3.heap.size 42 [.bool true, .bool true, .bool false, .bool true, .bool false] ∧ w3.alloc (.cells #[.bool true, .bool true, .bool false, .bool true, .bool false] 42) = W4 := ⟨_, Ext.alloc _ _, Rw.new _ _ _, rfl⟩
  rw [hg]
  obtain ⟨hq, HHQ⟩ : ∃ hq, Hid (w3.heap.size = hq) := ⟨_, hide rfl⟩
  rw [HHQ.out] at hR4 ⊢
  have R4 := hide (R3.out.ext hX4)
  have Q4 := hide hR4
  obtain ⟨BB, HBB⟩ : ∃ BB, Hid (W4.heap.size = BB) := ⟨_, hide rfl⟩
  have XW4 := hide (X3.out.trans hX4)
  have HB0 : Hid (w.heap.size ≤ BB) := hide (by rw [← HBB.out]; exact XW4.out.size)
  have Y4 : Hid (Below BB W4 W4) := hide (Below.refl _ _)
  have O4 : Hid (Own W4 BB (.slice none 0 0) []) := hide (Own.nil _ _)
  have HBW : Hid (BB ≤ W4.heap.size) := hide (by rw [HBB.out]; exact Nat.le_refl _)
  clear hg hX4 hR4 X1 X2 X3 R1 R2 R3 KF KP HHB HHQ
  have c0 := R4.out.cell (i := 0) rfl
  have c1 := R4.out.cell (i := 1) rfl
  have c2 := R4.out.cell (i := 2) rfl
  have c3 := R4.out.cell (i := 3) rfl
  have c4 := R4.out.cell (i := 4) rfl
  have c5 := R4.out.cell (i := 5) rfl
  have c6 := R4.out.cell (i := 6) rfl
  have c7 := R4.out.cell (i := 7) rfl
  have c8 := R4.out.cell (i := 8) rfl
  have c9 := R4.out.cell (i := 9) rfl
  have q0 := Q4.out.cell (i := 0) rfl
  have q1 := Q4.out.cell (i := 1) rfl
  have q2 := Q4.out.cell (i := 2) rfl
  have q3 := Q4.out.cell (i := 3) rfl
  have q4 := Q4.out.cell (i := 4) rfl
  have KA := hide (appendNumber_1 (.slice none 0 0) [] 3 BB W4 O4.out HBW.out (by omega) (by omega) (by simp))
  go_upto_region 5 with (go_at_call 19; (with_reducible refine KA.out.mono ?_); rintro e m0 ⟨z0, rfl, ho, hb2, hs2⟩; have Op0 := hide ho; have Yp0 : Hid (Below BB W4 m0) := hide (Y4.out.trans hb2); have Xp0 : Hid (Ext w m0) := hide (XW4.out.below HB0.out Yp0.out); have Rp0 := hide (hs2 hb _ _ (by decide) R4.out); have Qp0 := hide (hs2 hq _ _ (by decide) Q4.out); clear ho hb2 hs2)
  clear R4 Q4 O4 KA
  clear c0 c1 c2 c3 c4 c5 c6 c7 c8 c9 q0 q1 q2 q3 q4
  have c0 := Rp0.out.cell (i := 0) rfl
  have c1 := Rp0.out.cell (i := 1) rfl
  have c2 := Rp0.out.cell (i := 2) rfl
  have c3 := Rp0.out.cell (i := 3) rfl
  have c4 := Rp0.out.cell (i := 4) rfl
  have c5 := Rp0.out.cell (i := 5) rfl
  have c6 := Rp0.out.cell (i := 6) rfl
  have c7 := Rp0.out.cell (i := 7) rfl
  have c8 := Rp0.out.cell (i := 8) rfl
  have c9 := Rp0.out.cell (i := 9) rfl
  have q0 := Qp0.out.cell (i := 0) rfl
  have q1 := Qp0.out.cell (i := 1) rfl
  have q2 := Qp0.out.cell (i := 2) rfl
  have q3 := Qp0.out.cell (i := 3) rfl
  have q4 := Qp0.out.cell (i := 4) rfl
  obtain ⟨l0, HEp0⟩ : ∃ l, Hid ([] ++ numN 1 3 = l) := ⟨_, hide rfl⟩
  rw [HEp0.out] at Op0
  have HLp0 : Hid (l0.length ≤ 1) := hide (by rw [← HEp0.out, List.length_append, numN_length 1 _ (by decide)]; simp)
  have KA := hide (appendNumber_8 z0 l0 tx BB m0 Op0.out (Nat.le_trans HBW.out Yp0.out.size) HTX.out.1 HTX.out.2 (by have := HLp0.out; omega))
  go_upto_region 6 with (go_at_call 19; (with_reducible refine KA.out.mono ?_); rintro e m1 ⟨z1, rfl, ho, hb2, hs2⟩; have Op1 := hide ho; have Yp1 : Hid (Below BB W4 m1) := hide (Yp0.out.trans hb2); have Xp1 : Hid (Ext w m1) := hide (XW4.out.below HB0.out Yp1.out); have Rp1 := hide (hs2 hb _ _ (by decide) Rp0.out); have Qp1 := hide (hs2 hq _ _ (by decide) Qp0.out); clear ho hb2 hs2)
  clear Rp0 Qp0 Op0 KA
  clear c0 c1 c2 c3 c4 c5 c6 c7 c8 c9 q0 q1 q2 q3 q4
  have c0 := Rp1.out.cell (i := 0) rfl
  have c1 := Rp1.out.cell (i := 1) rfl
  have c2 := Rp1.out.cell (i := 2) rfl
  have c3 := Rp1.out.cell (i := 3) rfl
  have c4 := Rp1.out.cell (i := 4) rfl
  have c5 := Rp1.out.cell (i := 5) rfl
  have c6 := Rp1.out.cell (i := 6) rfl
  have c7 := Rp1.out.cell (i := 7) rfl
  have c8 := Rp1.out.cell (i := 8) rfl
  have c9 := Rp1.out.cell (i := 9) rfl
  have q0 := Qp1.out.cell (i := 0) rfl
  have q1 := Qp1.out.cell (i := 1) rfl
  have q2 := Qp1.out.cell (i := 2) rfl
  have q3 := Qp1.out.cell (i := 3) rfl
  have q4 := Qp1.out.cell (i := 4) rfl
  obtain ⟨l1, HEp1⟩ : ∃ l, Hid (l0 ++ numN 8 tx = l) := ⟨_, hide rfl⟩
  rw [HEp1.out] at Op1
  have HLp1 : Hid (l1.length ≤ 9) := hide (by rw [← HEp1.out, List.length_append, numN_length 8 _ (by decide)]; have := HLp0.out; omega)
  have KA := hide (appendNumber_8 z1 l1 pv BB m1 Op1.out (Nat.le_trans HBW.out Yp1.out.size) HPV.out.1 HPV.out.2 (by have := HLp1.out; omega))
  go_upto_region 8 with (go_at_call 19; (with_reducible refine KA.out.mono ?_); rintro e m2 ⟨z2, rfl, ho, hb2, hs2⟩; have Op2 := hide ho; have Yp2 : Hid (Below BB W4 m2) := hide (Yp1.out.trans hb2); have Xp2 : Hid (Ext w m2) := hide (XW4.out.below HB0.out Yp2.out); have Rp2 := hide (hs2 hb _ _ (by decide) Rp1.out); have Qp2 := hide (hs2 hq _ _ (by decide) Qp1.out); clear ho hb2 hs2)
  clear Rp1 Qp1 Op1 KA
  clear c0 c1 c2 c3 c4 c5 c6 c7 c8 c9 q0 q1 q2 q3 q4
  have c0 := Rp2.out.cell (i := 0) rfl
  have c1 := Rp2.out.cell (i := 1) rfl
  have c2 := Rp2.out.cell (i := 2) rfl
  have c3 := Rp2.out.cell (i := 3) rfl
  have c4 := Rp2.out.cell (i := 4) rfl
  have c5 := Rp2.out.cell (i := 5) rfl
  have c6 := Rp2.out.cell (i := 6) rfl
  have c7 := Rp2.out.cell (i := 7) rfl
  have c8 := Rp2.out.cell (i := 8) rfl
  have c9 := Rp2.out.cell (i := 9) rfl
  have q0 := Qp2.out.cell (i := 0) rfl
  have q1 := Qp2.out.cell (i := 1) rfl
  have q2 := Qp2.out.cell (i := 2) rfl
  have q3 := Qp2.out.cell (i := 3) rfl
  have q4 := Qp2.out.cell (i := 4) rfl
  obtain ⟨l2, HEp2⟩ : ∃ l, Hid (l1 ++ numN 8 pv = l) := ⟨_, hide rfl⟩
  rw [HEp2.out] at Op2
  have HLp2 : Hid (l2.length ≤ 17) := hide (by rw [← HEp2.out, List.length_append, numN_length 8 _ (by decide)]; have := HLp1.out; omega)
  have KA := hide (appendNumber_2 z2 l2 pg BB m2 Op2.out (Nat.le_trans HBW.out Yp2.out.size) (by omega) (by omega) (by have := HLp2.out; omega))
  go_upto_region 10 with (go_at_call 19; (with_reducible refine KA.out.mono ?_); rintro e m3 ⟨z3, rfl, ho, hb2, hs2⟩; have Op3 := hide ho; have Yp3 : Hid (Below BB W4 m3) := hide (Yp2.out.trans hb2); have Xp3 : Hid (Ext w m3) := hide (XW4.out.below HB0.out Yp3.out); have Rp3 := hide (hs2 hb _ _ (by decide) Rp2.out); have Qp3 := hide (hs2 hq _ _ (by decide) Qp2.out); clear ho hb2 hs2)
  clear Rp2 Qp2 Op2 KA
  clear c0 c1 c2 c3 c4 c5 c6 c7 c8 c9 q0 q1 q2 q3 q4
  have c0 := Rp3.out.cell (i := 0) rfl
  have c1 := Rp3.out.cell (i := 1) rfl
  have c2 := Rp3.out.cell (i := 2) rfl
  have c3 := Rp3.out.cell (i := 3) rfl
  have c4 := Rp3.out.cell (i := 4) rfl
  have c5 := Rp3.out.cell (i := 5) rfl
  have c6 := Rp3.out.cell (i := 6) rfl
  have c7 := Rp3.out.cell (i := 7) rfl
  have c8 := Rp3.out.cell (i := 8) rfl
  have c9 := Rp3.out.cell (i := 9) rfl
  have q0 := Qp3.out.cell (i := 0) rfl
  have q1 := Qp3.out.cell (i := 1) rfl
  have q2 := Qp3.out.cell (i := 2) rfl
  have q3 := Qp3.out.cell (i := 3) rfl
  have q4 := Qp3.out.cell (i := 4) rfl
  obtain ⟨l3, HEp3⟩ : ∃ l, Hid (l2 ++ numN 2 pg = l) := ⟨_, hide rfl⟩
  rw [HEp3.out] at Op3
  have HLp3 : Hid (l3.length ≤ 19) := hide (by rw [← HEp3.out, List.length_append, numN_length 2 _ (by decide)]; have := HLp2.out; omega)
  have KA := hide (appendNumber_2 z3 l3 off BB m3 Op3.out (Nat.le_trans HBW.out Yp3.out.size) (by omega) (by omega) (by have := HLp3.out; omega))
  go_upto_region 11 with (go_at_call 19; (with_reducible refine KA.out.mono ?_); rintro e m4 ⟨z4, rfl, ho, hb2, hs2⟩; have Op4 := hide ho; have Yp4 : Hid (Below BB W4 m4) := hide (Yp3.out.trans hb2); have Xp4 : Hid (Ext w m4) := hide (XW4.out.below HB0.out Yp4.out); have Rp4 := hide (hs2 hb _ _ (by decide) Rp3.out); have Qp4 := hide (hs2 hq _ _ (by decide) Qp3.out); clear ho hb2 hs2)
  clear Rp3 Qp3 Op3 KA
  clear c0 c1 c2 c3 c4 c5 c6 c7 c8 c9 q0 q1 q2 q3 q4
  have c0 := Rp4.out.cell (i := 0) rfl
  have c1 := Rp4.out.cell (i := 1) rfl
  have c2 := Rp4.out.cell (i := 2) rfl
  have c3 := Rp4.out.cell (i := 3) rfl
  have c4 := Rp4.out.cell (i := 4) rfl
  have c5 := Rp4.out.cell (i := 5) rfl
  have c6 := Rp4.out.cell (i := 6) rfl
  have c7 := Rp4.out.cell (i := 7) rfl
  have c8 := Rp4.out.cell (i := 8) rfl
  have c9 := Rp4.out.cell (i := 9) rfl
  have q0 := Qp4.out.cell (i := 0) rfl
  have q1 := Qp4.out.cell (i := 1) rfl
  have q2 := Qp4.out.cell (i := 2) rfl
  have q3 := Qp4.out.cell (i := 3) rfl
  have q4 := Qp4.out.cell (i := 4) rfl
  obtain ⟨l4, HEp4⟩ : ∃ l, Hid (l3 ++ numN 2 off = l) := ⟨_, hide rfl⟩
  rw [HEp4.out] at Op4
  have HLp4 : Hid (l4.length ≤ 21) := hide (by rw [← HEp4.out, List.length_append, numN_length 2 _ (by decide)]; have := HLp3.out; omega)
  have KA := hide (appendNumber_2 z4 l4 (na : Int) BB m4 Op4.out (Nat.le_trans HBW.out Yp4.out.size) (by omega) (by omega) (by have := HLp4.out; omega))
  go_upto_region 12 with (go_at_call 19; (with_reducible refine KA.out.mono ?_); rintro e m5 ⟨z5, rfl, ho, hb2, hs2⟩; have Op5 := hide ho; have Yp5 : Hid (Below BB W4 m5) := hide (Yp4.out.trans hb2); have Xp5 : Hid (Ext w m5) := hide (XW4.out.below HB0.out Yp5.out); have Rp5 := hide (hs2 hb _ _ (by decide) Rp4.out); have Qp5 := hide (hs2 hq _ _ (by decide) Qp4.out); clear ho hb2 hs2)
  clear Rp4 Qp4 Op4 KA
  clear c0 c1 c2 c3 c4 c5 c6 c7 c8 c9 q0 q1 q2 q3 q4
  have c0 := Rp5.out.cell (i := 0) rfl
  have c1 := Rp5.out.cell (i := 1) rfl
  have c2 := Rp5.out.cell (i := 2) rfl
  have c3 := Rp5.out.cell (i := 3) rfl
  have c4 := Rp5.out.cell (i := 4) rfl
  have c5 := Rp5.out.cell (i := 5) rfl
  have c6 := Rp5.out.cell (i := 6) rfl
  have c7 := Rp5.out.cell (i := 7) rfl
  have c8 := Rp5.out.cell (i := 8) rfl
  have c9 := Rp5.out.cell (i := 9) rfl
  have q0 := Qp5.out.cell (i := 0) rfl
  have q1 := Qp5.out.cell (i := 1) rfl
  have q2 := Qp5.out.cell (i := 2) rfl
  have q3 := Qp5.out.cell (i := 3) rfl
  have q4 := Qp5.out.cell (i := 4) rfl
  obtain ⟨l5, HEp5⟩ : ∃ l, Hid (l4 ++ numN 2 (na : Int) = l) := ⟨_, hide rfl⟩
  rw [HEp5.out] at Op5
  have HLp5 : Hid (l5.length ≤ 23) := hide (by rw [← HEp5.out, List.length_append, numN_length 2 _ (by decide)]; have := HLp4.out; omega)
  go_upto_region 13 with (refine wpList_catG rfl (.tmp 48) (.tmp 50) rfl BB z5 l5 bf A nb a rfl rfl HBN.out.symm Op5.out (HBF.out.ext Xp5.out) (Nat.le_trans HBW.out Yp5.out.size) (by rw [HBN.out]; have := HLp5.out; omega) ?_; intro z6 m6 ho hb2 hs2; have Op6 := hide ho; have Yp6 : Hid (Below BB W4 m6) := hide (Yp5.out.trans hb2); have Xp6 : Hid (Ext w m6) := hide (XW4.out.below HB0.out Yp6.out); have Rp6 := hide (hs2 hb _ _ (by decide) Rp5.out); have Qp6 := hide (hs2 hq _ _ (by decide) Qp5.out); clear ho hb2 hs2)
  clear Rp5 Qp5 Op5 
  clear c0 c1 c2 c3 c4 c5 c6 c7 c8 c9 q0 q1 q2 q3 q4
  have c0 := Rp6.out.cell (i := 0) rfl
  have c1 := Rp6.out.cell (i := 1) rfl
  have c2 := Rp6.out.cell (i := 2) rfl
  have c3 := Rp6.out.cell (i := 3) rfl
  have c4 := Rp6.out.cell (i := 4) rfl
  have c5 := Rp6.out.cell (i := 5) rfl
  have c6 := Rp6.out.cell (i := 6) rfl
  have c7 := Rp6.out.cell (i := 7) rfl
  have c8 := Rp6.out.cell (i := 8) rfl
  have c9 := Rp6.out.cell (i := 9) rfl
  have q0 := Qp6.out.cell (i := 0) rfl
  have q1 := Qp6.out.cell (i := 1) rfl
  have q2 := Qp6.out.cell (i := 2) rfl
  have q3 := Qp6.out.cell (i := 3) rfl
  have q4 := Qp6.out.cell (i := 4) rfl
  obtain ⟨l6, HEp6⟩ : ∃ l, Hid (l5 ++ bf = l) := ⟨_, hide rfl⟩
  rw [HEp6.out] at Op6
  have HLp6 : Hid (l6.length ≤ 535) := hide (by rw [← HEp6.out, List.length_append, HBN.out]; have := HLp5.out; omega)
  go_upto_region 14 with (refine wpList_catG rfl (.tmp 52) (.tmp 54) rfl BB z6 l6 af B na b' rfl rfl HAN.out.symm Op6.out (HAF.out.ext Xp6.out) (Nat.le_trans HBW.out Yp6.out.size) (by rw [HAN.out]; have := HLp6.out; omega) ?_; intro z7 m7 ho hb2 hs2; have Op7 := hide ho; have Yp7 : Hid (Below BB W4 m7) := hide (Yp6.out.trans hb2); have Xp7 : Hid (Ext w m7) := hide (XW4.out.below HB0.out Yp7.out); have Rp7 := hide (hs2 hb _ _ (by decide) Rp6.out); have Qp7 := hide (hs2 hq _ _ (by decide) Qp6.out); clear ho hb2 hs2)
  clear Rp6 Qp6 Op6 
  clear c0 c1 c2 c3 c4 c5 c6 c7 c8 c9 q0 q1 q2 q3 q4
  have c0 := Rp7.out.cell (i := 0) rfl
  have c1 := Rp7.out.cell (i := 1) rfl
  have c2 := Rp7.out.cell (i := 2) rfl
  have c3 := Rp7.out.cell (i := 3) rfl
  have c4 := Rp7.out.cell (i := 4) rfl
  have c5 := Rp7.out.cell (i := 5) rfl
  have c6 := Rp7.out.cell (i := 6) rfl
  have c7 := Rp7.out.cell (i := 7) rfl
  have c8 := Rp7.out.cell (i := 8) rfl
  have c9 := Rp7.out.cell (i := 9) rfl
  have q0 := Qp7.out.cell (i := 0) rfl
  have q1 := Qp7.out.cell (i := 1) rfl
  have q2 := Qp7.out.cell (i := 2) rfl
  have q3 := Qp7.out.cell (i := 3) rfl
  have q4 := Qp7.out.cell (i := 4) rfl
  obtain ⟨l7, HEp7⟩ : ∃ l, Hid (l6 ++ af = l) := ⟨_, hide rfl⟩
  rw [HEp7.out] at Op7
  have HLp7 : Hid (l7.length ≤ 1047) := hide (by rw [← HEp7.out, List.length_append, HAN.out]; have := HLp6.out; omega)
  have KA := hide (appendNumber_8 z7 l7 nx BB m7 Op7.out (Nat.le_trans HBW.out Yp7.out.size) HNX.out.1 HNX.out.2 (by have := HLp7.out; omega))
  go_upto_region 16 with (go_at_call 19; (with_reducible refine KA.out.mono ?_); rintro e m8 ⟨z8, rfl, ho, hb2, hs2⟩; have Op8 := hide ho; have Yp8 : Hid (Below BB W4 m8) := hide (Yp7.out.trans hb2); have Xp8 : Hid (Ext w m8) := hide (XW4.out.below HB0.out Yp8.out); have Rp8 := hide (hs2 hb _ _ (by decide) Rp7.out); have Qp8 := hide (hs2 hq _ _ (by decide) Qp7.out); clear ho hb2 hs2)
  clear Rp7 Qp7 Op7 KA
  clear c0 c1 c2 c3 c4 c5 c6 c7 c8 c9 q0 q1 q2 q3 q4
  have c0 := Rp8.out.cell (i := 0) rfl
  have c1 := Rp8.out.cell (i := 1) rfl
  have c2 := Rp8.out.cell (i := 2) rfl
  have c3 := Rp8.out.cell (i := 3) rfl
  have c4 := Rp8.out.cell (i := 4) rfl
  have c5 := Rp8.out.cell (i := 5) rfl
  have c6 := Rp8.out.cell (i := 6) rfl
  have c7 := Rp8.out.cell (i := 7) rfl
  have c8 := Rp8.out.cell (i := 8) rfl
  have c9 := Rp8.out.cell (i := 9) rfl
  have q0 := Qp8.out.cell (i := 0) rfl
  have q1 := Qp8.out.cell (i := 1) rfl
  have q2 := Qp8.out.cell (i := 2) rfl
  have q3 := Qp8.out.cell (i := 3) rfl
  have q4 := Qp8.out.cell (i := 4) rfl
  obtain ⟨l8, HEp8⟩ : ∃ l, Hid (l7 ++ numN 8 nx = l) := ⟨_, hide rfl⟩
  rw [HEp8.out] at Op8
  have HLp8 : Hid (l8.length ≤ 1055) := hide (by rw [← HEp8.out, List.length_append, numN_length 8 _ (by decide)]; have := HLp7.out; omega)
  have HREC : Hid (recB 3 tx pv pg off nx bf af L op = l8) := hide (by
    rw [← HEp8.out, ← HEp7.out, ← HEp6.out, ← HEp5.out, ← HEp4.out, ← HEp3.out, ← HEp2.out, ← HEp1.out, ← HEp0.out]
    simp [recB, hpv, hch, hnx, hck, HAN.out])
  obtain ⟨AZ, cz, hvz, hcz, hrz⟩ := Op8.out.bytes
  subst hvz
  obtain ⟨nz, HNZ⟩ : ∃ n, Hid (l8.length = n) := ⟨_, hide rfl⟩
  rw [HNZ.out] at Op8 ⊢
  have KS := hide (sumOf_any AZ l8 nz cz m8 hrz HNZ.out (by have := HNZ.out; have := HLp8.out; omega) (HT.out.ext Xp8.out))
  clear hcz hrz
  go_wp2_with (first
    | (go_at_call 21; (with_reducible refine KS.out.mono ?_); rintro e ws ⟨vs, rfl, hxs, hos⟩; obtain ⟨AS, cs, hvs, hcs, hrs⟩ := Own.bytes hos; subst hvs; have XS := hide hxs; have RS := hide hrs; clear hxs hrs hos hcs)
    | (refine wpList_catG rfl (.tmp 67) (.tmp 69) rfl BB (.slice AZ nz cz) l8 (sumB l8) AS _ cs rfl rfl rfl (Op8.out.ext XS.out) RS.out (Nat.le_trans (Nat.le_trans HBW.out Yp8.out.size) XS.out.size) (by rw [show (sumB l8).length = 4 from numN_length 4 _ (by decide)]; have := HLp8.out; omega) ?_; intro vf wf ho hb2 hs2))
  go_ret2
  refine ⟨vf, rfl, ?_, XW4.out.below HB0.out ((Yp8.out.trans (Below.mono XS.out (Nat.le_trans HBW.out Yp8.out.size))).trans hb2)⟩
  rw [fullB, HREC.out]
  exact own_mono ho HB0.out
end Go.Proofs.YtkbmcebdhiiffaaDoor
