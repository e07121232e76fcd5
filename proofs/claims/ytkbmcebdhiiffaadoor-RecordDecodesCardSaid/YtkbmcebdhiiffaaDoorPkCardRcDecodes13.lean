/-
  A record as bytes: the program's Encode, kind 4.
  A record as bytes: the program's Encode, kind 5.
  A record as bytes: the program's Encode, kind 6.
  A record as bytes: the program's Encode.
  Which records there are: the document's Form.
-/
import Derived.Test.YtkbmcebdhiiffaaDoorPkCardRcDecodes3
import Derived.Test.YtkbmcebdhiiffaaDoorPkCardRcDecodes4
import Derived.Test.YtkbmcebdhiiffaaDoorPkCardRcDecodes11
import Derived.Test.YtkbmcebdhiiffaaDoorPkCardRcDecodes12
set_option linter.unusedVariables false
set_option linter.unusedSimpArgs false

namespace Go.Proofs.YtkbmcebdhiiffaaDoor
open Go.RowKit

set_option maxRecDepth 20000 in
set_option maxHeartbeats 6400000 in
theorem encode_4 (tx pv pg off nx : Int) (A B D : Option Addr) (nb a na b' nd d : Nat) (op : Bool) (w : World) (bf af : List UInt8) (L : List (Int × Int)) (ht : Tab w) (hb0 : Rd w A bf) (ha0 : Rd w B af) (hr : RdD w D L) (hbn : bf.length = nb) (han : af.length = na) (hn : L.length = nd) (hnd : nd ≤ 140737488351232) (hna : na ≤ 140737488351232) (hnb : nb ≤ 140737488351232) (ho : -9223372036854775808 ≤ off) (ho2 : off < 9223372036854775808) (htx0 : 0 ≤ tx) (htx : tx < 18446744073709551616) (hpv0 : 0 ≤ pv) (hpv1 : pv < 18446744073709551616) (hnx0 : 0 ≤ nx) (hnx1 : nx < 18446744073709551616) (hdl : ∀ e ∈ L, 0 ≤ e.2 ∧ e.2 < 18446744073709551616) (hf : formN 4 pv pg off nx na nb nd L op = true) :
    Calls Tryd.prog 11 #[.agg #[.int .u8 4, .int .u64 tx, .int .u64 pv, .int .i64 pg, .int .i64 off, .slice A nb a, .slice B na b', .int .u64 nx, .slice D nd d, .bool op]] w (EncP w (fullB 4 tx pv pg off nx bf af L op)) := by
  have KF := hide (fun (W : World) (hW : Ext w W) => (show Calls Tryd.prog 9 #[.agg #[.int .u8 4, .int .u64 tx, .int .u64 pv, .int .i64 pg, .int .i64 off, .slice A nb a, .slice B na b', .int .u64 nx, .slice D nd d, .bool op]] W (RetB W true) from by have h := form_any 4 tx pv pg off nx A B D nb a na b' nd d op W L (hr.ext hW) hn hnd hna hnb ho ho2; rw [hf] at h; exact h))
  have KP := hide (fun (W : World) => (show Calls Tryd.prog 16 #[.int .u8 4] W (fun e w' => e = .returned (.tuple #[.agg #[.bool true, .bool false, .bool false, .bool false, .bool false], .bool true]) ∧ Ext W w') from partsOf_any 4 W))
  have HT := hide ht
  have HBF := hide hb0
  have HAF := hide ha0
  have HD := hide hr
  have HBN := hide hbn
  have HAN := hide han
  have HN := hide hn
  have HTX := hide (And.intro htx0 htx)
  have HPV := hide (And.intro hpv0 hpv1)
  have HNX := hide (And.intro hnx0 hnx1)
  clear ht hb0 ha0 hr hbn han hn htx0 htx hpv0 hpv1 hnx0 hnx1 hdl hf ho ho2
  go_enter Tryd.func11, Tryd.ntmps11
  go_upto_region 1 with fail
  obtain ⟨W1, hX1, hR1, hg⟩ : ∃ W1, Ext w W1 ∧ Rw W1 w.heap.size 26 [.int .u8 4, .int .u64 tx, .int .u64 pv, .int .i64 pg, .int .i64 off, .slice A nb a, .slice B na b', .int .u64 nx, .slice D nd d, .bool op] ∧ w.alloc (.cells #[.int .u8 4, .int .u64 tx, .int .u64 pv, .int .i64 pg, .int .i64 off, .slice A nb a, .slice B na b', .int .u64 nx, .slice D nd d, .bool op] 26) = W1 := ⟨_, Ext.alloc _ _, Rw.new _ _ _, rfl⟩
  rw [hg]
  obtain ⟨hb, HHB⟩ : ∃ hb, Hid (w.heap.size = hb) := ⟨_, hide rfl⟩
  rw [HHB.out] at hR1 ⊢
  have X1 := hide hX1
  have R1 := hide hR1
  have c0 := hR1.cell (i := 0) rfl
  have c1 := hR1.cell (i := 1) rfl
  have c2 := hR1.cell (i := 2) rfl
  have c3 := hR1.cell (i := 3) rfl
  have c4 := hR1.cell (i := 4) rfl
  have c5 := hR1.cell (i := 5) rfl
  have c6 := hR1.cell (i := 6) rfl
  have c7 := hR1.cell (i := 7) rfl
  have c8 := hR1.cell (i := 8) rfl
  have c9 := hR1.cell (i := 9) rfl
  clear hg hX1 hR1
  go_upto_region 3 with (go_at_call 9; (with_reducible refine (KF.out _ X1.out).mono ?_); rintro e w2 ⟨rfl, hx2⟩; have X2 := hide (X1.out.trans hx2); have R2 := hide (R1.out.ext hx2); clear hx2)
  clear c0 c1 c2 c3 c4 c5 c6 c7 c8 c9
  have c0 := R2.out.cell (i := 0) rfl
  go_upto_region 4 with (go_at_call 16; (with_reducible refine (KP.out _).mono ?_); rintro e w3 ⟨rfl, hx3⟩; have X3 := hide (X2.out.trans hx3); have R3 := hide (R2.out.ext hx3); clear hx3)
  clear c0
  obtain ⟨W4, hX4, hR4, hg⟩ : ∃ W4, Ext w3 W4 ∧ Rw W4 w3.heap.size 42 [.bool true, .bool false, .bool false, .bool false, .bool false] ∧ w3.alloc (.cells #[.bool true, .bool false, .bool false, .bool false, .bool false] 42) = W4 := ⟨_, Ext.alloc _ _, Rw.new _ _ _, rfl⟩
  rw [hg]
  obtain ⟨hq, HHQ⟩ : ∃ hq, Hid (w3.heap.size = hq) := ⟨_, hide rfl⟩
  rw [HHQ.out] at hR4 ⊢
  have R4 := hide (R3.out.ext hX4)
  have Q4 := hide hR4
  obtain ⟨BB, HBB⟩ : ∃ BB, Hid (W4.heap.size = BB) := ⟨_, hide rfl⟩
  have XW4 := hide (X3.out.trans hX4)
  have HB0 : Hid (w.heap.size ≤ BB) := hide (by rw [← HBB.out]; exact XW4.out.size)
  have Y4 : Hid (Below BB W4 W4) := hide (Below.refl _ _)
  have O4 : Hid (Own W4 BB (.slice none 0 0) []) := hide (Own.nil _ _)
  have HBW : Hid (BB ≤ W4.heap.size) := hide (by rw [HBB.out]; exact Nat.le_refl _)
  clear hg hX4 hR4 X1 X2 X3 R1 R2 R3 KF KP HHB HHQ
  have c0 := R4.out.cell (i := 0) rfl
  have c1 := R4.out.cell (i := 1) rfl
  have c2 := R4.out.cell (i := 2) rfl
  have c3 := R4.out.cell (i := 3) rfl
  have c4 := R4.out.cell (i := 4) rfl
  have c5 := R4.out.cell (i := 5) rfl
  have c6 := R4.out.cell (i := 6) rfl
  have c7 := R4.out.cell (i := 7) rfl
  have c8 := R4.out.cell (i := 8) rfl
  have c9 := R4.out.cell (i := 9) rfl
  have q0 := Q4.out.cell (i := 0) rfl
  have q1 := Q4.out.cell (i := 1) rfl
  have q2 := Q4.out.cell (i := 2) rfl
  have q3 := Q4.out.cell (i := 3) rfl
  have q4 := Q4.out.cell (i := 4) rfl
  have KA := hide (appendNumber_1 (.slice none 0 0) [] 4 BB W4 O4.out HBW.out (by omega) (by omega) (by simp))
  go_upto_region 5 with (go_at_call 19; (with_reducible refine KA.out.mono ?_); rintro e m0 ⟨z0, rfl, ho, hb2, hs2⟩; have Op0 := hide ho; have Yp0 : Hid (Below BB W4 m0) := hide (Y4.out.trans hb2); have Xp0 : Hid (Ext w m0) := hide (XW4.out.below HB0.out Yp0.out); have Rp0 := hide (hs2 hb _ _ (by decide) R4.out); have Qp0 := hide (hs2 hq _ _ (by decide) Q4.out); clear ho hb2 hs2)
  clear R4 Q4 O4 KA
  clear c0 c1 c2 c3 c4 c5 c6 c7 c8 c9 q0 q1 q2 q3 q4
  have c0 := Rp0.out.cell (i := 0) rfl
  have c1 := Rp0.out.cell (i := 1) rfl
  have c2 := Rp0.out.cell (i := 2) rfl
  have c3 := Rp0.out.cell (i := 3) rfl
  have c4 := Rp0.out.cell (i := 4) rfl
  have c5 := Rp0.out.cell (i := 5) rfl
  have c6 := Rp0.out.cell (i := 6) rfl
  have c7 := Rp0.out.cell (i := 7) rfl
  have c8 := Rp0.out.cell (i := 8) rfl
  have c9 := Rp0.out.cell (i := 9) rfl
  have q0 := Qp0.out.cell (i := 0) rfl
  have q1 := Qp0.out.cell (i := 1) rfl
  have q2 := Qp0.out.cell (i := 2) rfl
  have q3 := Qp0.out.cell (i := 3) rfl
  have q4 := Qp0.out.cell (i := 4) rfl
  obtain ⟨l0, HEp0⟩ : ∃ l, Hid ([] ++ numN 1 4 = l) := ⟨_, hide rfl⟩
  rw [HEp0.out] at Op0
  have HLp0 : Hid (l0.length ≤ 1) := hide (by rw [← HEp0.out, List.length_append, numN_length 1 _ (by decide)]; simp)
  have KA := hide (appendNumber_8 z0 l0 tx BB m0 Op0.out (Nat.le_trans HBW.out Yp0.out.size) HTX.out.1 HTX.out.2 (by have := HLp0.out; omega))
  go_upto_region 6 with (go_at_call 19; (with_reducible refine KA.out.mono ?_); rintro e m1 ⟨z1, rfl, ho, hb2, hs2⟩; have Op1 := hide ho; have Yp1 : Hid (Below BB W4 m1) := hide (Yp0.out.trans hb2); have Xp1 : Hid (Ext w m1) := hide (XW4.out.below HB0.out Yp1.out); have Rp1 := hide (hs2 hb _ _ (by decide) Rp0.out); have Qp1 := hide (hs2 hq _ _ (by decide) Qp0.out); clear ho hb2 hs2)
  clear Rp0 Qp0 Op0 KA
  clear c0 c1 c2 c3 c4 c5 c6 c7 c8 c9 q0 q1 q2 q3 q4
  have c0 := Rp1.out.cell (i := 0) rfl
  have c1 := Rp1.out.cell (i := 1) rfl
  have c2 := Rp1.out.cell (i := 2) rfl
  have c3 := Rp1.out.cell (i := 3) rfl
  have c4 := Rp1.out.cell (i := 4) rfl
  have c5 := Rp1.out.cell (i := 5) rfl
  have c6 := Rp1.out.cell (i := 6) rfl
  have c7 := Rp1.out.cell (i := 7) rfl
  have c8 := Rp1.out.cell (i := 8) rfl
  have c9 := Rp1.out.cell (i := 9) rfl
  have q0 := Qp1.out.cell (i := 0) rfl
  have q1 := Qp1.out.cell (i := 1) rfl
  have q2 := Qp1.out.cell (i := 2) rfl
  have q3 := Qp1.out.cell (i := 3) rfl
  have q4 := Qp1.out.cell (i := 4) rfl
  obtain ⟨l1, HEp1⟩ : ∃ l, Hid (l0 ++ numN 8 tx = l) := ⟨_, hide rfl⟩
  rw [HEp1.out] at Op1
  have HLp1 : Hid (l1.length ≤ 9) := hide (by rw [← HEp1.out, List.length_append, numN_length 8 _ (by decide)]; have := HLp0.out; omega)
  have KA := hide (appendNumber_8 z1 l1 pv BB m1 Op1.out (Nat.le_trans HBW.out Yp1.out.size) HPV.out.1 HPV.out.2 (by have := HLp1.out; omega))
  go_upto_region 8 with (go_at_call 19; (with_reducible refine KA.out.mono ?_); rintro e m2 ⟨z2, rfl, ho, hb2, hs2⟩; have Op2 := hide ho; have Yp2 : Hid (Below BB W4 m2) := hide (Yp1.out.trans hb2); have Xp2 : Hid (Ext w m2) := hide (XW4.out.below HB0.out Yp2.out); have Rp2 := hide (hs2 hb _ _ (by decide) Rp1.out); have Qp2 := hide (hs2 hq _ _ (by decide) Qp1.out); clear ho hb2 hs2)
  clear Rp1 Qp1 Op1 KA
  clear c0 c1 c2 c3 c4 c5 c6 c7 c8 c9 q0 q1 q2 q3 q4
  have c0 := Rp2.out.cell (i := 0) rfl
  have c1 := Rp2.out.cell (i := 1) rfl
  have c2 := Rp2.out.cell (i := 2) rfl
  have c3 := Rp2.out.cell (i := 3) rfl
  have c4 := Rp2.out.cell (i := 4) rfl
  have c5 := Rp2.out.cell (i := 5) rfl
  have c6 := Rp2.out.cell (i := 6) rfl
  have c7 := Rp2.out.cell (i := 7) rfl
  have c8 := Rp2.out.cell (i := 8) rfl
  have c9 := Rp2.out.cell (i := 9) rfl
  have q0 := Qp2.out.cell (i := 0) rfl
  have q1 := Qp2.out.cell (i := 1) rfl
  have q2 := Qp2.out.cell (i := 2) rfl
  have q3 := Qp2.out.cell (i := 3) rfl
  have q4 := Qp2.out.cell (i := 4) rfl
  obtain ⟨l2, HEp2⟩ : ∃ l, Hid (l1 ++ numN 8 pv = l) := ⟨_, hide rfl⟩
  rw [HEp2.out] at Op2
  have HLp2 : Hid (l2.length ≤ 17) := hide (by rw [← HEp2.out, List.length_append, numN_length 8 _ (by decide)]; have := HLp1.out; omega)
  have HREC : Hid (recB 4 tx pv pg off nx bf af L op = l2) := hide (by
    rw [← HEp2.out, ← HEp1.out, ← HEp0.out]
    simp [recB, hpv, hch, hnx, hck])
  obtain ⟨AZ, cz, hvz, hcz, hrz⟩ := Op2.out.bytes
  subst hvz
  obtain ⟨nz, HNZ⟩ : ∃ n, Hid (l2.length = n) := ⟨_, hide rfl⟩
  rw [HNZ.out] at Op2 ⊢
  have KS := hide (sumOf_any AZ l2 nz cz m2 hrz HNZ.out (by have := HNZ.out; have := HLp2.out; omega) (HT.out.ext Xp2.out))
  clear hcz hrz
  go_wp2_with (first
    | (go_at_call 21; (with_reducible refine KS.out.mono ?_); rintro e ws ⟨vs, rfl, hxs, hos⟩; obtain ⟨AS, cs, hvs, hcs, hrs⟩ := Own.bytes hos; subst hvs; have XS := hide hxs; have RS := hide hrs; clear hxs hrs hos hcs)
    | (refine wpList_catG rfl (.tmp 67) (.tmp 69) rfl BB (.slice AZ nz cz) l2 (sumB l2) AS _ cs rfl rfl rfl (Op2.out.ext XS.out) RS.out (Nat.le_trans (Nat.le_trans HBW.out Yp2.out.size) XS.out.size) (by rw [show (sumB l2).length = 4 from numN_length 4 _ (by decide)]; have := HLp2.out; omega) ?_; intro vf wf ho hb2 hs2))
  go_ret2
  refine ⟨vf, rfl, ?_, XW4.out.below HB0.out ((Yp2.out.trans (Below.mono XS.out (Nat.le_trans HBW.out Yp2.out.size))).trans hb2)⟩
  rw [fullB, HREC.out]
  exact own_mono ho HB0.out
end Go.Proofs.YtkbmcebdhiiffaaDoor
namespace Go.Proofs.YtkbmcebdhiiffaaDoor
open Go.RowKit

set_option maxRecDepth 20000 in
set_option maxHeartbeats 6400000 in
theorem encode_5 (tx pv pg off nx : Int) (A B D : Option Addr) (nb a na b' nd d : Nat) (op : Bool) (w : World) (bf af : List UInt8) (L : List (Int × Int)) (ht : Tab w) (hb0 : Rd w A bf) (ha0 : Rd w B af) (hr : RdD w D L) (hbn : bf.length = nb) (han : af.length = na) (hn : L.length = nd) (hnd : nd ≤ 140737488351232) (hna : na ≤ 140737488351232) (hnb : nb ≤ 140737488351232) (ho : -9223372036854775808 ≤ off) (ho2 : off < 9223372036854775808) (htx0 : 0 ≤ tx) (htx : tx < 18446744073709551616) (hpv0 : 0 ≤ pv) (hpv1 : pv < 18446744073709551616) (hnx0 : 0 ≤ nx) (hnx1 : nx < 18446744073709551616) (hdl : ∀ e ∈ L, 0 ≤ e.2 ∧ e.2 < 18446744073709551616) (hf : formN 5 pv pg off nx na nb nd L op = true) :
    Calls Tryd.prog 11 #[.agg #[.int .u8 5, .int .u64 tx, .int .u64 pv, .int .i64 pg, .int .i64 off, .slice A nb a, .slice B na b', .int .u64 nx, .slice D nd d, .bool op]] w (EncP w (fullB 5 tx pv pg off nx bf af L op)) := by
  have KF := hide (fun (W : World) (hW : Ext w W) => (show Calls Tryd.prog 9 #[.agg #[.int .u8 5, .int .u64 tx, .int .u64 pv, .int .i64 pg, .int .i64 off, .slice A nb a, .slice B na b', .int .u64 nx, .slice D nd d, .bool op]] W (RetB W true) from by have h := form_any 5 tx pv pg off nx A B D nb a na b' nd d op W L (hr.ext hW) hn hnd hna hnb ho ho2; rw [hf] at h; exact h))
  have KP := hide (fun (W : World) => (show Calls Tryd.prog 16 #[.int .u8 5] W (fun e w' => e = .returned (.tuple #[.agg #[.bool true, .bool false, .bool false, .bool false, .bool false], .bool true]) ∧ Ext W w') from partsOf_any 5 W))
  have HT := hide ht
  have HBF := hide hb0
  have HAF := hide ha0
  have HD := hide hr
  have HBN := hide hbn
  have HAN := hide han
  have HN := hide hn
  have HTX := hide (And.intro htx0 htx)
  have HPV := hide (And.intro hpv0 hpv1)
  have HNX := hide (And.intro hnx0 hnx1)
  clear ht hb0 ha0 hr hbn han hn htx0 htx hpv0 hpv1 hnx0 hnx1 hdl hf ho ho2
  go_enter Tryd.func11, Tryd.ntmps11
  go_upto_region 1 with fail
  obtain ⟨W1, hX1, hR1, hg⟩ : ∃ W1, Ext w W1 ∧ Rw W1 w.heap.size 26 [.int .u8 5, .int .u64 tx, .int .u64 pv, .int .i64 pg, .int .i64 off, .slice A nb a, .slice B na b', .int .u64 nx, .slice D nd d, .bool op] ∧ w.alloc (.cells #[.int .u8 5, .int .u64 tx, .int .u64 pv, .int .i64 pg, .int .i64 off, .slice A nb a, .slice B na b', .int .u64 nx, .slice D nd d, .bool op] 26) = W1 := ⟨_, Ext.alloc _ _, Rw.new _ _ _, rfl⟩
  rw [hg]
  obtain ⟨hb, HHB⟩ : ∃ hb, Hid (w.heap.size = hb) := ⟨_, hide rfl⟩
  rw [HHB.out] at hR1 ⊢
  have X1 := hide hX1
  have R1 := hide hR1
  have c0 := hR1.cell (i := 0) rfl
  have c1 := hR1.cell (i := 1) rfl
  have c2 := hR1.cell (i := 2) rfl
  have c3 := hR1.cell (i := 3) rfl
  have c4 := hR1.cell (i := 4) rfl
  have c5 := hR1.cell (i := 5) rfl
  have c6 := hR1.cell (i := 6) rfl
  have c7 := hR1.cell (i := 7) rfl
  have c8 := hR1.cell (i := 8) rfl
  have c9 := hR1.cell (i := 9) rfl
  clear hg hX1 hR1
  go_upto_region 3 with (go_at_call 9; (with_reducible refine (KF.out _ X1.out).mono ?_); rintro e w2 ⟨rfl, hx2⟩; have X2 := hide (X1.out.trans hx2); have R2 := hide (R1.out.ext hx2); clear hx2)
  clear c0 c1 c2 c3 c4 c5 c6 c7 c8 c9
  have c0 := R2.out.cell (i := 0) rfl
  go_upto_region 4 with (go_at_call 16; (with_reducible refine (KP.out _).mono ?_); rintro e w3 ⟨rfl, hx3⟩; have X3 := hide (X2.out.trans hx3); have R3 := hide (R2.out.ext hx3); clear hx3)
  clear c0
  obtain ⟨W4, hX4, hR4, hg⟩ : ∃ W4, Ext w3 W4 ∧ Rw W4 w3.heap.size 42 [.bool true, .bool false, .bool false, .bool false, .bool false] ∧ w3.alloc (.cells #[.bool true, .bool false, .bool false, .bool false, .bool false] 42) = W4 := ⟨_, Ext.alloc _ _, Rw.new _ _ _, rfl⟩
  rw [hg]
  obtain ⟨hq, HHQ⟩ : ∃ hq, Hid (w3.heap.size = hq) := ⟨_, hide rfl⟩
  rw [HHQ.out] at hR4 ⊢
  have R4 := hide (R3.out.ext hX4)
  have Q4 := hide hR4
  obtain ⟨BB, HBB⟩ : ∃ BB, Hid (W4.heap.size = BB) := ⟨_, hide rfl⟩
  have XW4 := hide (X3.out.trans hX4)
  have HB0 : Hid (w.heap.size ≤ BB) := hide (by rw [← HBB.out]; exact XW4.out.size)
  have Y4 : Hid (Below BB W4 W4) := hide (Below.refl _ _)
  have O4 : Hid (Own W4 BB (.slice none 0 0) []) := hide (Own.nil _ _)
  have HBW : Hid (BB ≤ W4.heap.size) := hide (by rw [HBB.out]; exact Nat.le_refl _)
  clear hg hX4 hR4 X1 X2 X3 R1 R2 R3 KF KP HHB HHQ
  have c0 := R4.out.cell (i := 0) rfl
  have c1 := R4.out.cell (i := 1) rfl
  have c2 := R4.out.cell (i := 2) rfl
  have c3 := R4.out.cell (i := 3) rfl
  have c4 := R4.out.cell (i := 4) rfl
  have c5 := R4.out.cell (i := 5) rfl
  have c6 := R4.out.cell (i := 6) rfl
  have c7 := R4.out.cell (i := 7) rfl
  have c8 := R4.out.cell (i := 8) rfl
  have c9 := R4.out.cell (i := 9) rfl
  have q0 := Q4.out.cell (i := 0) rfl
  have q1 := Q4.out.cell (i := 1) rfl
  have q2 := Q4.out.cell (i := 2) rfl
  have q3 := Q4.out.cell (i := 3) rfl
  have q4 := Q4.out.cell (i := 4) rfl
  have KA := hide (appendNumber_1 (.slice none 0 0) [] 5 BB W4 O4.out HBW.out (by omega) (by omega) (by simp))
  go_upto_region 5 with (go_at_call 19; (with_reducible refine KA.out.mono ?_); rintro e m0 ⟨z0, rfl, ho, hb2, hs2⟩; have Op0 := hide ho; have Yp0 : Hid (Below BB W4 m0) := hide (Y4.out.trans hb2); have Xp0 : Hid (Ext w m0) := hide (XW4.out.below HB0.out Yp0.out); have Rp0 := hide (hs2 hb _ _ (by decide) R4.out); have Qp0 := hide (hs2 hq _ _ (by decide) Q4.out); clear ho hb2 hs2)
  clear R4 Q4 O4 KA
  clear c0 c1 c2 c3 c4 c5 c6 c7 c8 c9 q0 q1 q2 q3 q4
  have c0 := Rp0.out.cell (i := 0) rfl
  have c1 := Rp0.out.cell (i := 1) rfl
  have c2 := Rp0.out.cell (i := 2) rfl
  have c3 := Rp0.out.cell (i := 3) rfl
  have c4 := Rp0.out.cell (i := 4) rfl
  have c5 := Rp0.out.cell (i := 5) rfl
  have c6 := Rp0.out.cell (i := 6) rfl
  have c7 := Rp0.out.cell (i := 7) rfl
  have c8 := Rp0.out.cell (i := 8) rfl
  have c9 := Rp0.out.cell (i := 9) rfl
  have q0 := Qp0.out.cell (i := 0) rfl
  have q1 := Qp0.out.cell (i := 1) rfl
  have q2 := Qp0.out.cell (i := 2) rfl
  have q3 := Qp0.out.cell (i := 3) rfl
  have q4 := Qp0.out.cell (i := 4) rfl
  obtain ⟨l0, HEp0⟩ : ∃ l, Hid ([] ++ numN 1 5 = l) := ⟨_, hide rfl⟩
  rw [HEp0.out] at Op0
  have HLp0 : Hid (l0.length ≤ 1) := hide (by rw [← HEp0.out, List.length_append, numN_length 1 _ (by decide)]; simp)
  have KA := hide (appendNumber_8 z0 l0 tx BB m0 Op0.out (Nat.le_trans HBW.out Yp0.out.size) HTX.out.1 HTX.out.2 (by have := HLp0.out; omega))
  go_upto_region 6 with (go_at_call 19; (with_reducible refine KA.out.mono ?_); rintro e m1 ⟨z1, rfl, ho, hb2, hs2⟩; have Op1 := hide ho; have Yp1 : Hid (Below BB W4 m1) := hide (Yp0.out.trans hb2); have Xp1 : Hid (Ext w m1) := hide (XW4.out.below HB0.out Yp1.out); have Rp1 := hide (hs2 hb _ _ (by decide) Rp0.out); have Qp1 := hide (hs2 hq _ _ (by decide) Qp0.out); clear ho hb2 hs2)
  clear Rp0 Qp0 Op0 KA
  clear c0 c1 c2 c3 c4 c5 c6 c7 c8 c9 q0 q1 q2 q3 q4
  have c0 := Rp1.out.cell (i := 0) rfl
  have c1 := Rp1.out.cell (i := 1) rfl
  have c2 := Rp1.out.cell (i := 2) rfl
  have c3 := Rp1.out.cell (i := 3) rfl
  have c4 := Rp1.out.cell (i := 4) rfl
  have c5 := Rp1.out.cell (i := 5) rfl
  have c6 := Rp1.out.cell (i := 6) rfl
  have c7 := Rp1.out.cell (i := 7) rfl
  have c8 := Rp1.out.cell (i := 8) rfl
  have c9 := Rp1.out.cell (i := 9) rfl
  have q0 := Qp1.out.cell (i := 0) rfl
  have q1 := Qp1.out.cell (i := 1) rfl
  have q2 := Qp1.out.cell (i := 2) rfl
  have q3 := Qp1.out.cell (i := 3) rfl
  have q4 := Qp1.out.cell (i := 4) rfl
  obtain ⟨l1, HEp1⟩ : ∃ l, Hid (l0 ++ numN 8 tx = l) := ⟨_, hide rfl⟩
  rw [HEp1.out] at Op1
  have HLp1 : Hid (l1.length ≤ 9) := hide (by rw [← HEp1.out, List.length_append, numN_length 8 _ (by decide)]; have := HLp0.out; omega)
  have KA := hide (appendNumber_8 z1 l1 pv BB m1 Op1.out (Nat.le_trans HBW.out Yp1.out.size) HPV.out.1 HPV.out.2 (by have := HLp1.out; omega))
  go_upto_region 8 with (go_at_call 19; (with_reducible refine KA.out.mono ?_); rintro e m2 ⟨z2, rfl, ho, hb2, hs2⟩; have Op2 := hide ho; have Yp2 : Hid (Below BB W4 m2) := hide (Yp1.out.trans hb2); have Xp2 : Hid (Ext w m2) := hide (XW4.out.below HB0.out Yp2.out); have Rp2 := hide (hs2 hb _ _ (by decide) Rp1.out); have Qp2 := hide (hs2 hq _ _ (by decide) Qp1.out); clear ho hb2 hs2)
  clear Rp1 Qp1 Op1 KA
  clear c0 c1 c2 c3 c4 c5 c6 c7 c8 c9 q0 q1 q2 q3 q4
  have c0 := Rp2.out.cell (i := 0) rfl
  have c1 := Rp2.out.cell (i := 1) rfl
  have c2 := Rp2.out.cell (i := 2) rfl
  have c3 := Rp2.out.cell (i := 3) rfl
  have c4 := Rp2.out.cell (i := 4) rfl
  have c5 := Rp2.out.cell (i := 5) rfl
  have c6 := Rp2.out.cell (i := 6) rfl
  have c7 := Rp2.out.cell (i := 7) rfl
  have c8 := Rp2.out.cell (i := 8) rfl
  have c9 := Rp2.out.cell (i := 9) rfl
  have q0 := Qp2.out.cell (i := 0) rfl
  have q1 := Qp2.out.cell (i := 1) rfl
  have q2 := Qp2.out.cell (i := 2) rfl
  have q3 := Qp2.out.cell (i := 3) rfl
  have q4 := Qp2.out.cell (i := 4) rfl
  obtain ⟨l2, HEp2⟩ : ∃ l, Hid (l1 ++ numN 8 pv = l) := ⟨_, hide rfl⟩
  rw [HEp2.out] at Op2
  have HLp2 : Hid (l2.length ≤ 17) := hide (by rw [← HEp2.out, List.length_append, numN_length 8 _ (by decide)]; have := HLp1.out; omega)
  have HREC : Hid (recB 5 tx pv pg off nx bf af L op = l2) := hide (by
    rw [← HEp2.out, ← HEp1.out, ← HEp0.out]
    simp [recB, hpv, hch, hnx, hck])
  obtain ⟨AZ, cz, hvz, hcz, hrz⟩ := Op2.out.bytes
  subst hvz
  obtain ⟨nz, HNZ⟩ : ∃ n, Hid (l2.length = n) := ⟨_, hide rfl⟩
  rw [HNZ.out] at Op2 ⊢
  have KS := hide (sumOf_any AZ l2 nz cz m2 hrz HNZ.out (by have := HNZ.out; have := HLp2.out; omega) (HT.out.ext Xp2.out))
  clear hcz hrz
  go_wp2_with (first
    | (go_at_call 21; (with_reducible refine KS.out.mono ?_); rintro e ws ⟨vs, rfl, hxs, hos⟩; obtain ⟨AS, cs, hvs, hcs, hrs⟩ := Own.bytes hos; subst hvs; have XS := hide hxs; have RS := hide hrs; clear hxs hrs hos hcs)
    | (refine wpList_catG rfl (.tmp 67) (.tmp 69) rfl BB (.slice AZ nz cz) l2 (sumB l2) AS _ cs rfl rfl rfl (Op2.out.ext XS.out) RS.out (Nat.le_trans (Nat.le_trans HBW.out Yp2.out.size) XS.out.size) (by rw [show (sumB l2).length = 4 from numN_length 4 _ (by decide)]; have := HLp2.out; omega) ?_; intro vf wf ho hb2 hs2))
  go_ret2
  refine ⟨vf, rfl, ?_, XW4.out.below HB0.out ((Yp2.out.trans (Below.mono XS.out (Nat.le_trans HBW.out Yp2.out.size))).trans hb2)⟩
  rw [fullB, HREC.out]
  exact own_mono ho HB0.out
end Go.Proofs.YtkbmcebdhiiffaaDoor
namespace Go.Proofs.YtkbmcebdhiiffaaDoor
open Go.RowKit

set_option maxRecDepth 20000 in
set_option maxHeartbeats 6400000 in
theorem encode_6 (tx pv pg off nx : Int) (A B D : Option Addr) (nb a na b' nd d : Nat) (op : Bool) (w : World) (bf af : List UInt8) (L : List (Int × Int)) (ht : Tab w) (hb0 : Rd w A bf) (ha0 : Rd w B af) (hr : RdD w D L) (hbn : bf.length = nb) (han : af.length = na) (hn : L.length = nd) (hnd : nd ≤ 140737488351232) (hna : na ≤ 140737488351232) (hnb : nb ≤ 140737488351232) (ho : -9223372036854775808 ≤ off) (ho2 : off < 9223372036854775808) (htx0 : 0 ≤ tx) (htx : tx < 18446744073709551616) (hpv0 : 0 ≤ pv) (hpv1 : pv < 18446744073709551616) (hnx0 : 0 ≤ nx) (hnx1 : nx < 18446744073709551616) (hdl : ∀ e ∈ L, 0 ≤ e.2 ∧ e.2 < 18446744073709551616) (hf : formN 6 pv pg off nx na nb nd L op = true) :
    Calls Tryd.prog 11 #[.agg #[.int .u8 6, .int .u64 tx, .int .u64 pv, .int .i64 pg, .int .i64 off, .slice A nb a, .slice B na b', .int .u64 nx, .slice D nd d, .bool op]] w (EncP w (fullB 6 tx pv pg off nx bf af L op)) := by
  have KF := hide (fun (W : World) (hW : Ext w W) => (show Calls Tryd.prog 9 #[.agg #[.int .u8 6, .int .u64 tx, .int .u64 pv, .int .i64 pg, .int .i64 off, .slice A nb a, .slice B na b', .int .u64 nx, .slice D nd d, .bool op]] W (RetB W true) from by have h := form_any 6 tx pv pg off nx A B D nb a na b' nd d op W L (hr.ext hW) hn hnd hna hnb ho ho2; rw [hf] at h; exact h))
  have KP := hide (fun (W : World) => (show Calls Tryd.prog 16 #[.int .u8 6] W (fun e w' => e = .returned (.tuple #[.agg #[.bool true, .bool false, .bool false, .bool false, .bool true], .bool true]) ∧ Ext W w') from partsOf_any 6 W))
  obtain ⟨hnd64, hris⟩ : nd ≤ 64 ∧ risB (-1) L = true := by
    simp [formN, hok, hpv, hch, hbf, hnx, hck, chgN, chkN] at hf
    exact ⟨hf.2.2.1, hf.2.2.2⟩
  have HLL := hide (fun (e : Int × Int) (he : e ∈ L) => (show (0 ≤ e.1 ∧ e.1 < 4096) ∧ 0 ≤ e.2 ∧ e.2 < 18446744073709551616 from ⟨risB_mem L (-1) (Int.le_refl _) hris e he, hdl e he⟩))
  clear hris
  have HT := hide ht
  have HBF := hide hb0
  have HAF := hide ha0
  have HD := hide hr
  have HBN := hide hbn
  have HAN := hide han
  have HN := hide hn
  have HTX := hide (And.intro htx0 htx)
  have HPV := hide (And.intro hpv0 hpv1)
  have HNX := hide (And.intro hnx0 hnx1)
  clear ht hb0 ha0 hr hbn han hn htx0 htx hpv0 hpv1 hnx0 hnx1 hdl hf ho ho2
  go_enter Tryd.func11, Tryd.ntmps11
  go_upto_region 1 with fail
  obtain ⟨W1, hX1, hR1, hg⟩ : ∃ W1, Ext w W1 ∧ Rw W1 w.heap.size 26 [.int .u8 6, .int .u64 tx, .int .u64 pv, .int .i64 pg, .int .i64 off, .slice A nb a, .slice B na b', .int .u64 nx, .slice D nd d, .bool op] ∧ w.alloc (.cells #[.int .u8 6, .int .u64 tx, .int .u64 pv, .int .i64 pg, .int .i64 off, .slice A nb a, .slice B na b', .int .u64 nx, .slice D nd d, .bool op] 26) = W1 := ⟨_, Ext.alloc _ _, Rw.new _ _ _, rfl⟩
  rw [hg]
  obtain ⟨hb, HHB⟩ : ∃ hb, Hid (w.heap.size = hb) := ⟨_, hide rfl⟩
  rw [HHB.out] at hR1 ⊢
  have X1 := hide hX1
  have R1 := hide hR1
  have c0 := hR1.cell (i := 0) rfl
  have c1 := hR1.cell (i := 1) rfl
  have c2 := hR1.cell (i := 2) rfl
  have c3 := hR1.cell (i := 3) rfl
  have c4 := hR1.cell (i := 4) rfl
  have c5 := hR1.cell (i := 5) rfl
  have c6 := hR1.cell (i := 6) rfl
  have c7 := hR1.cell (i := 7) rfl
  have c8 := hR1.cell (i := 8) rfl
  have c9 := hR1.cell (i := 9) rfl
  clear hg hX1 hR1
  go_upto_region 3 with (go_at_call 9; (with_reducible refine (KF.out _ X1.out).mono ?_); rintro e w2 ⟨rfl, hx2⟩; have X2 := hide (X1.out.trans hx2); have R2 := hide (R1.out.ext hx2); clear hx2)
  clear c0 c1 c2 c3 c4 c5 c6 c7 c8 c9
  have c0 := R2.out.cell (i := 0) rfl
  go_upto_region 4 with (go_at_call 16; (with_reducible refine (KP.out _).mono ?_); rintro e w3 ⟨rfl, hx3⟩; have X3 := hide (X2.out.trans hx3); have R3 := hide (R2.out.ext hx3); clear hx3)
  clear c0
  obtain ⟨W4, hX4, hR4, hg⟩ : ∃ W4, Ext w3 W4 ∧ Rw W4 w3.heap.size 42 [.bool true, .bool false, .bool false, .bool false, .bool true] ∧ w3.alloc (.cells #[.bool true, .bool false, .bool false, .bool false, .bool true] 42) = W4 := ⟨_, Ext.alloc _ _, Rw.new _ _ _, rfl⟩
  rw [hg]
  obtain ⟨hq, HHQ⟩ : ∃ hq, Hid (w3.heap.size = hq) := ⟨_, hide rfl⟩
  rw [HHQ.out] at hR4 ⊢
  have R4 := hide (R3.out.ext hX4)
  have Q4 := hide hR4
  obtain ⟨BB, HBB⟩ : ∃ BB, Hid (W4.heap.size = BB) := ⟨_, hide rfl⟩
  have XW4 := hide (X3.out.trans hX4)
  have HB0 : Hid (w.heap.size ≤ BB) := hide (by rw [← HBB.out]; exact XW4.out.size)
  have Y4 : Hid (Below BB W4 W4) := hide (Below.refl _ _)
  have O4 : Hid (Own W4 BB (.slice none 0 0) []) := hide (Own.nil _ _)
  have HBW : Hid (BB ≤ W4.heap.size) := hide (by rw [HBB.out]; exact Nat.le_refl _)
  clear hg hX4 hR4 X1 X2 X3 R1 R2 R3 KF KP HHB HHQ
  have c0 := R4.out.cell (i := 0) rfl
  have c1 := R4.out.cell (i := 1) rfl
  have c2 := R4.out.cell (i := 2) rfl
  have c3 := R4.out.cell (i := 3) rfl
  have c4 := R4.out.cell (i := 4) rfl
  have c5 := R4.out.cell (i := 5) rfl
  have c6 := R4.out.cell (i := 6) rfl
  have c7 := R4.out.cell (i := 7) rfl
  have c8 := R4.out.cell (i := 8) rfl
  have c9 := R4.out.cell (i := 9) rfl
  have q0 := Q4.out.cell (i := 0) rfl
  have q1 := Q4.out.cell (i := 1) rfl
  have q2 := Q4.out.cell (i := 2) rfl
  have q3 := Q4.out.cell (i := 3) rfl
  have q4 := Q4.out.cell (i := 4) rfl
  have KA := hide (appendNumber_1 (.slice none 0 0) [] 6 BB W4 O4.out HBW.out (by omega) (by omega) (by simp))
  go_upto_region 5 with (go_at_call 19; (with_reducible refine KA.out.mono ?_); rintro e m0 ⟨z0, rfl, ho, hb2, hs2⟩; have Op0 := hide ho; have Yp0 : Hid (Below BB W4 m0) := hide (Y4.out.trans hb2); have Xp0 : Hid (Ext w m0) := hide (XW4.out.below HB0.out Yp0.out); have Rp0 := hide (hs2 hb _ _ (by decide) R4.out); have Qp0 := hide (hs2 hq _ _ (by decide) Q4.out); clear ho hb2 hs2)
  clear R4 Q4 O4 KA
  clear c0 c1 c2 c3 c4 c5 c6 c7 c8 c9 q0 q1 q2 q3 q4
  have c0 := Rp0.out.cell (i := 0) rfl
  have c1 := Rp0.out.cell (i := 1) rfl
  have c2 := Rp0.out.cell (i := 2) rfl
  have c3 := Rp0.out.cell (i := 3) rfl
  have c4 := Rp0.out.cell (i := 4) rfl
  have c5 := Rp0.out.cell (i := 5) rfl
  have c6 := Rp0.out.cell (i := 6) rfl
  have c7 := Rp0.out.cell (i := 7) rfl
  have c8 := Rp0.out.cell (i := 8) rfl
  have c9 := Rp0.out.cell (i := 9) rfl
  have q0 := Qp0.out.cell (i := 0) rfl
  have q1 := Qp0.out.cell (i := 1) rfl
  have q2 := Qp0.out.cell (i := 2) rfl
  have q3 := Qp0.out.cell (i := 3) rfl
  have q4 := Qp0.out.cell (i := 4) rfl
  obtain ⟨l0, HEp0⟩ : ∃ l, Hid ([] ++ numN 1 6 = l) := ⟨_, hide rfl⟩
  rw [HEp0.out] at Op0
  have HLp0 : Hid (l0.length ≤ 1) := hide (by rw [← HEp0.out, List.length_append, numN_length 1 _ (by decide)]; simp)
  have KA := hide (appendNumber_8 z0 l0 tx BB m0 Op0.out (Nat.le_trans HBW.out Yp0.out.size) HTX.out.1 HTX.out.2 (by have := HLp0.out; omega))
  go_upto_region 6 with (go_at_call 19; (with_reducible refine KA.out.mono ?_); rintro e m1 ⟨z1, rfl, ho, hb2, hs2⟩; have Op1 := hide ho; have Yp1 : Hid (Below BB W4 m1) := hide (Yp0.out.trans hb2); have Xp1 : Hid (Ext w m1) := hide (XW4.out.below HB0.out Yp1.out); have Rp1 := hide (hs2 hb _ _ (by decide) Rp0.out); have Qp1 := hide (hs2 hq _ _ (by decide) Qp0.out); clear ho hb2 hs2)
  clear Rp0 Qp0 Op0 KA
  clear c0 c1 c2 c3 c4 c5 c6 c7 c8 c9 q0 q1 q2 q3 q4
  have c0 := Rp1.out.cell (i := 0) rfl
  have c1 := Rp1.out.cell (i := 1) rfl
  have c2 := Rp1.out.cell (i := 2) rfl
  have c3 := Rp1.out.cell (i := 3) rfl
  have c4 := Rp1.out.cell (i := 4) rfl
  have c5 := Rp1.out.cell (i := 5) rfl
  have c6 := Rp1.out.cell (i := 6) rfl
  have c7 := Rp1.out.cell (i := 7) rfl
  have c8 := Rp1.out.cell (i := 8) rfl
  have c9 := Rp1.out.cell (i := 9) rfl
  have q0 := Qp1.out.cell (i := 0) rfl
  have q1 := Qp1.out.cell (i := 1) rfl
  have q2 := Qp1.out.cell (i := 2) rfl
  have q3 := Qp1.out.cell (i := 3) rfl
  have q4 := Qp1.out.cell (i := 4) rfl
  obtain ⟨l1, HEp1⟩ : ∃ l, Hid (l0 ++ numN 8 tx = l) := ⟨_, hide rfl⟩
  rw [HEp1.out] at Op1
  have HLp1 : Hid (l1.length ≤ 9) := hide (by rw [← HEp1.out, List.length_append, numN_length 8 _ (by decide)]; have := HLp0.out; omega)
  have KA := hide (appendNumber_8 z1 l1 pv BB m1 Op1.out (Nat.le_trans HBW.out Yp1.out.size) HPV.out.1 HPV.out.2 (by have := HLp1.out; omega))
  go_upto_region 8 with (go_at_call 19; (with_reducible refine KA.out.mono ?_); rintro e m2 ⟨z2, rfl, ho, hb2, hs2⟩; have Op2 := hide ho; have Yp2 : Hid (Below BB W4 m2) := hide (Yp1.out.trans hb2); have Xp2 : Hid (Ext w m2) := hide (XW4.out.below HB0.out Yp2.out); have Rp2 := hide (hs2 hb _ _ (by decide) Rp1.out); have Qp2 := hide (hs2 hq _ _ (by decide) Qp1.out); clear ho hb2 hs2)
  clear Rp1 Qp1 Op1 KA
  clear c0 c1 c2 c3 c4 c5 c6 c7 c8 c9 q0 q1 q2 q3 q4
  have c0 := Rp2.out.cell (i := 0) rfl
  have c1 := Rp2.out.cell (i := 1) rfl
  have c2 := Rp2.out.cell (i := 2) rfl
  have c3 := Rp2.out.cell (i := 3) rfl
  have c4 := Rp2.out.cell (i := 4) rfl
  have c5 := Rp2.out.cell (i := 5) rfl
  have c6 := Rp2.out.cell (i := 6) rfl
  have c7 := Rp2.out.cell (i := 7) rfl
  have c8 := Rp2.out.cell (i := 8) rfl
  have c9 := Rp2.out.cell (i := 9) rfl
  have q0 := Qp2.out.cell (i := 0) rfl
  have q1 := Qp2.out.cell (i := 1) rfl
  have q2 := Qp2.out.cell (i := 2) rfl
  have q3 := Qp2.out.cell (i := 3) rfl
  have q4 := Qp2.out.cell (i := 4) rfl
  obtain ⟨l2, HEp2⟩ : ∃ l, Hid (l1 ++ numN 8 pv = l) := ⟨_, hide rfl⟩
  rw [HEp2.out] at Op2
  have HLp2 : Hid (l2.length ≤ 17) := hide (by rw [← HEp2.out, List.length_append, numN_length 8 _ (by decide)]; have := HLp1.out; omega)
  have KA := hide (appendCheck_any z2 l2 6 tx pv pg off nx A B D nb a na b' nd d op w m2 BB L HD.out Xp2.out HB0.out (Nat.le_trans HBW.out Yp2.out.size) HN.out hnd64 HLL.out Op2.out (by have := HLp2.out; omega))
  go_upto_region 18 with (go_at_call 20; (with_reducible refine KA.out.mono ?_); rintro e m3 ⟨z3, rfl, ho, hb2, hs2⟩; have Op3 := hide ho; have Yp3 : Hid (Below BB W4 m3) := hide (Yp2.out.trans hb2); have Xp3 : Hid (Ext w m3) := hide (XW4.out.below HB0.out Yp3.out); have Rp3 := hide (hs2 hb _ _ (by decide) Rp2.out); have Qp3 := hide (hs2 hq _ _ (by decide) Qp2.out); clear ho hb2 hs2)
  clear Rp2 Qp2 Op2 KA
  clear c0 c1 c2 c3 c4 c5 c6 c7 c8 c9 q0 q1 q2 q3 q4
  have c0 := Rp3.out.cell (i := 0) rfl
  have c1 := Rp3.out.cell (i := 1) rfl
  have c2 := Rp3.out.cell (i := 2) rfl
  have c3 := Rp3.out.cell (i := 3) rfl
  have c4 := Rp3.out.cell (i := 4) rfl
  have c5 := Rp3.out.cell (i := 5) rfl
  have c6 := Rp3.out.cell (i := 6) rfl
  have c7 := Rp3.out.cell (i := 7) rfl
  have c8 := Rp3.out.cell (i := 8) rfl
  have c9 := Rp3.out.cell (i := 9) rfl
  have q0 := Qp3.out.cell (i := 0) rfl
  have q1 := Qp3.out.cell (i := 1) rfl
  have q2 := Qp3.out.cell (i := 2) rfl
  have q3 := Qp3.out.cell (i := 3) rfl
  have q4 := Qp3.out.cell (i := 4) rfl
  obtain ⟨l3, HEp3⟩ : ∃ l, Hid (l2 ++ (numN 1 (cntN nd op) ++ dirB L) = l) := ⟨_, hide rfl⟩
  rw [HEp3.out] at Op3
  have HLp3 : Hid (l3.length ≤ 658) := hide (by rw [← HEp3.out, List.length_append, List.length_append, numN_length 1 _ (by decide), dirB_length, HN.out]; have := HLp2.out; omega)
  have HREC : Hid (recB 6 tx pv pg off nx bf af L op = l3) := hide (by
    rw [← HEp3.out, ← HEp2.out, ← HEp1.out, ← HEp0.out]
    simp [recB, hpv, hch, hnx, hck, HN.out])
  obtain ⟨AZ, cz, hvz, hcz, hrz⟩ := Op3.out.bytes
  subst hvz
  obtain ⟨nz, HNZ⟩ : ∃ n, Hid (l3.length = n) := ⟨_, hide rfl⟩
  rw [HNZ.out] at Op3 ⊢
  have KS := hide (sumOf_any AZ l3 nz cz m3 hrz HNZ.out (by have := HNZ.out; have := HLp3.out; omega) (HT.out.ext Xp3.out))
  clear hcz hrz
  go_wp2_with (first
    | (go_at_call 21; (with_reducible refine KS.out.mono ?_); rintro e ws ⟨vs, rfl, hxs, hos⟩; obtain ⟨AS, cs, hvs, hcs, hrs⟩ := Own.bytes hos; subst hvs; have XS := hide hxs; have RS := hide hrs; clear hxs hrs hos hcs)
    | (refine wpList_catG rfl (.tmp 67) (.tmp 69) rfl BB (.slice AZ nz cz) l3 (sumB l3) AS _ cs rfl rfl rfl (Op3.out.ext XS.out) RS.out (Nat.le_trans (Nat.le_trans HBW.out Yp3.out.size) XS.out.size) (by rw [show (sumB l3).length = 4 from numN_length 4 _ (by decide)]; have := HLp3.out; omega) ?_; intro vf wf ho hb2 hs2))
  go_ret2
  refine ⟨vf, rfl, ?_, XW4.out.below HB0.out ((Yp3.out.trans (Below.mono XS.out (Nat.le_trans HBW.out Yp3.out.size))).trans hb2)⟩
  rw [fullB, HREC.out]
  exact own_mono ho HB0.out
end Go.Proofs.YtkbmcebdhiiffaaDoor
namespace Go.Proofs.YtkbmcebdhiiffaaDoor
open Go.RowKit

theorem encode_yes (k : Int) (tx pv pg off nx : Int) (A B D : Option Addr) (nb a na b' nd d : Nat) (op : Bool) (w : World) (bf af : List UInt8) (L : List (Int × Int)) (ht : Tab w) (hb0 : Rd w A bf) (ha0 : Rd w B af) (hr : RdD w D L) (hbn : bf.length = nb) (han : af.length = na) (hn : L.length = nd) (hnd : nd ≤ 140737488351232) (hna : na ≤ 140737488351232) (hnb : nb ≤ 140737488351232) (ho : -9223372036854775808 ≤ off) (ho2 : off < 9223372036854775808) (htx0 : 0 ≤ tx) (htx : tx < 18446744073709551616) (hpv0 : 0 ≤ pv) (hpv1 : pv < 18446744073709551616) (hnx0 : 0 ≤ nx) (hnx1 : nx < 18446744073709551616) (hdl : ∀ e ∈ L, 0 ≤ e.2 ∧ e.2 < 18446744073709551616) (hf : formN k pv pg off nx na nb nd L op = true) :
    Calls Tryd.prog 11 #[.agg #[.int .u8 k, .int .u64 tx, .int .u64 pv, .int .i64 pg, .int .i64 off, .slice A nb a, .slice B na b', .int .u64 nx, .slice D nd d, .bool op]] w (EncP w (fullB k tx pv pg off nx bf af L op)) := by
  have hk : 1 ≤ k ∧ k ≤ 6 := by
    simp only [formN, Bool.and_eq_true] at hf
    have h := hf.1
    simpa [hok] using h
  rcases (by omega : k = 1 ∨ k = 2 ∨ k = 3 ∨ k = 4 ∨ k = 5 ∨ k = 6) with rfl | rfl | rfl | rfl | rfl | rfl
  · exact encode_1 tx pv pg off nx A B D nb a na b' nd d op w bf af L ht hb0 ha0 hr hbn han hn hnd hna hnb ho ho2 htx0 htx hpv0 hpv1 hnx0 hnx1 hdl hf
  · exact encode_2 tx pv pg off nx A B D nb a na b' nd d op w bf af L ht hb0 ha0 hr hbn han hn hnd hna hnb ho ho2 htx0 htx hpv0 hpv1 hnx0 hnx1 hdl hf
  · exact encode_3 tx pv pg off nx A B D nb a na b' nd d op w bf af L ht hb0 ha0 hr hbn han hn hnd hna hnb ho ho2 htx0 htx hpv0 hpv1 hnx0 hnx1 hdl hf
  · exact encode_4 tx pv pg off nx A B D nb a na b' nd d op w bf af L ht hb0 ha0 hr hbn han hn hnd hna hnb ho ho2 htx0 htx hpv0 hpv1 hnx0 hnx1 hdl hf
  · exact encode_5 tx pv pg off nx A B D nb a na b' nd d op w bf af L ht hb0 ha0 hr hbn han hn hnd hna hnb ho ho2 htx0 htx hpv0 hpv1 hnx0 hnx1 hdl hf
  · exact encode_6 tx pv pg off nx A B D nb a na b' nd d op w bf af L ht hb0 ha0 hr hbn han hn hnd hna hnb ho ho2 htx0 htx hpv0 hpv1 hnx0 hnx1 hdl hf
set_option maxRecDepth 20000 in
set_option maxHeartbeats 3200000 in
theorem encode_no (k tx pv pg off nx : Int) (A B D : Option Addr) (nb a na b' nd d : Nat) (op : Bool) (w : World) (L : List (Int × Int)) (hr : RdD w D L) (hn : L.length = nd) (hnd : nd ≤ 140737488351232) (hna : na ≤ 140737488351232) (hnb : nb ≤ 140737488351232) (ho : -9223372036854775808 ≤ off) (ho2 : off < 9223372036854775808) (hf : formN k pv pg off nx na nb nd L op = false) :
    Calls Tryd.prog 11 #[.agg #[.int .u8 k, .int .u64 tx, .int .u64 pv, .int .i64 pg, .int .i64 off, .slice A nb a, .slice B na b', .int .u64 nx, .slice D nd d, .bool op]] w (fun e w' => e = .returned (.tuple #[.slice none 0 0, .int .i64 3]) ∧ Ext w w') := by
  have KF := hide (fun (W : World) (hW : Ext w W) => (show Calls Tryd.prog 9 #[.agg #[.int .u8 k, .int .u64 tx, .int .u64 pv, .int .i64 pg, .int .i64 off, .slice A nb a, .slice B na b', .int .u64 nx, .slice D nd d, .bool op]] W (RetB W false) from by have h := form_any k tx pv pg off nx A B D nb a na b' nd d op W L (hr.ext hW) hn hnd hna hnb ho ho2; rw [hf] at h; exact h))
  clear hr hn hnd hna hnb ho ho2 hf
  go_enter Tryd.func11, Tryd.ntmps11
  go_upto_region 1 with fail
  obtain ⟨W1, hX1, hR1, hg⟩ : ∃ W1, Ext w W1 ∧ Rw W1 w.heap.size 26 [.int .u8 k, .int .u64 tx, .int .u64 pv, .int .i64 pg, .int .i64 off, .slice A nb a, .slice B na b', .int .u64 nx, .slice D nd d, .bool op] ∧ w.alloc (.cells #[.int .u8 k, .int .u64 tx, .int .u64 pv, .int .i64 pg, .int .i64 off, .slice A nb a, .slice B na b', .int .u64 nx, .slice D nd d, .bool op] 26) = W1 := ⟨_, Ext.alloc _ _, Rw.new _ _ _, rfl⟩
  rw [hg]
  obtain ⟨hb, HHB⟩ : ∃ hb, Hid (w.heap.size = hb) := ⟨_, hide rfl⟩
  rw [HHB.out] at hR1 ⊢
  have X1 := hide hX1
  have c0 := hR1.cell (i := 0) rfl
  have c1 := hR1.cell (i := 1) rfl
  have c2 := hR1.cell (i := 2) rfl
  have c3 := hR1.cell (i := 3) rfl
  have c4 := hR1.cell (i := 4) rfl
  have c5 := hR1.cell (i := 5) rfl
  have c6 := hR1.cell (i := 6) rfl
  have c7 := hR1.cell (i := 7) rfl
  have c8 := hR1.cell (i := 8) rfl
  have c9 := hR1.cell (i := 9) rfl
  clear hg hX1 hR1
  go_wp2_with (go_at_call 9; (with_reducible refine (KF.out _ X1.out).mono ?_); rintro e w2 ⟨rfl, hx2⟩; have X2 := hide (X1.out.trans hx2); clear hx2)
  go_ret2
  exact ⟨rfl, X2.out⟩
end Go.Proofs.YtkbmcebdhiiffaaDoor
namespace Go.Proofs.YtkbmcebdhiiffaaDoor
open Go.RowKit

set_option maxRecDepth 20000 in
set_option maxHeartbeats 6400000 in
theorem rform_1 (tx pv pg off nx : Int) (A B D : Option Addr) (nb a na b' nd d : Nat) (op : Bool) (w : World) (L : List (Int × Int)) (hr : RdD w D L) (hn : L.length = nd) (hnd : nd ≤ 140737488351232) (hna : na ≤ 140737488351232) (hnb : nb ≤ 140737488351232) (ho : -9223372036854775808 ≤ off) (ho2 : off < 9223372036854775808) :
    Calls Tryd.prog 10 #[.agg #[.int .u8 1, .int .u64 tx, .int .u64 pv, .int .i64 pg, .int .i64 off, .slice A nb a, .slice B na b', .int .u64 nx, .slice D nd d, .bool op]] w (RetB w (formN 1 pv pg off nx na nb nd L op)) := by
  have HR := hide hr
  have HL := hide hn
  have HO := hide (And.intro ho ho2)
  clear hr hn ho ho2
  go_enter Tryd.func10, Tryd.ntmps10
  go_upto_region 1 with fail
  obtain ⟨W1, hX1, hR1, hg⟩ : ∃ W1, Ext w W1 ∧ Rw W1 w.heap.size 26 [.int .u8 1, .int .u64 tx, .int .u64 pv, .int .i64 pg, .int .i64 off, .slice A nb a, .slice B na b', .int .u64 nx, .slice D nd d, .bool op] ∧ w.alloc (.cells #[.int .u8 1, .int .u64 tx, .int .u64 pv, .int .i64 pg, .int .i64 off, .slice A nb a, .slice B na b', .int .u64 nx, .slice D nd d, .bool op] 26) = W1 := ⟨_, Ext.alloc _ _, Rw.new _ _ _, rfl⟩
  rw [hg]
  obtain ⟨hb, HHB⟩ : ∃ hb, Hid (w.heap.size = hb) := ⟨_, hide rfl⟩
  rw [HHB.out] at hR1 ⊢
  have X1 := hide hX1
  have c0 := hR1.cell (i := 0) rfl
  have c1 := hR1.cell (i := 1) rfl
  have c2 := hR1.cell (i := 2) rfl
  have c3 := hR1.cell (i := 3) rfl
  have c4 := hR1.cell (i := 4) rfl
  have c5 := hR1.cell (i := 5) rfl
  have c6 := hR1.cell (i := 6) rfl
  have c7 := hR1.cell (i := 7) rfl
  have c8 := hR1.cell (i := 8) rfl
  have c9 := hR1.cell (i := 9) rfl
  clear hg hX1 hR1
  by_cases tpg : pg = 0
  · subst tpg
    by_cases toff : off = 0
    · subst toff
      by_cases tna : na = 0
      · subst tna
        by_cases tnb : nb = 0
        · subst tnb
          by_cases tnx : nx = 0
          · subst tnx
            by_cases tpv : pv = 0
            · subst tpv
              by_cases tnd : nd = 0
              · subst tnd
                by_cases hop : op = false
                · subst hop
                  have HLN : Hid (L = []) := hide (List.length_eq_zero_iff.1 HL.out)
                  go_wp2
                  go_rounds 1
                  go_wp2
                  go_ret
                  exact ⟨ret_bool (Eq.symm (by
                    rw [HLN.out]
                    try simp [formN, hok, hpv, hch, hbf, hnx, hck, chgN, chkN, isPg, risB]
                    all_goals (try omega))), X1.out⟩
                · have hop2 : op = true := by simpa using hop
                  subst hop2
                  go_wp2
                  go_ret
                  exact ⟨ret_bool (Eq.symm (by
                    rw [Bool.eq_false_iff]
                    intro h
                    try simp [formN, hok, hpv, hch, hbf, hnx, hck, chgN, chkN, isPg] at h
                    all_goals (try omega))), X1.out⟩
              · have znd : 0 < nd := by omega
                have fnd : (0 : Int) < (nd : Int) := by omega
                go_wp2
                go_ret
                exact ⟨ret_bool (Eq.symm (by
                  rw [Bool.eq_false_iff]
                  intro h
                  try simp [formN, hok, hpv, hch, hbf, hnx, hck, chgN, chkN, isPg] at h
                  all_goals (try omega))), X1.out⟩
            · have zpv : (pv != 0) = true := by simp [tpv]
              go_wp2
              go_ret
              exact ⟨ret_bool (Eq.symm (by
                rw [Bool.eq_false_iff]
                intro h
                try simp [formN, hok, hpv, hch, hbf, hnx, hck, chgN, chkN, isPg] at h
                all_goals (try omega))), X1.out⟩
          · have znx : (nx != 0) = true := by simp [tnx]
            go_wp2
            go_ret
            exact ⟨ret_bool (Eq.symm (by
              rw [Bool.eq_false_iff]
              intro h
              try simp [formN, hok, hpv, hch, hbf, hnx, hck, chgN, chkN, isPg] at h
              all_goals (try omega))), X1.out⟩
        · have znb : 0 < nb := by omega
          have fnb : (0 : Int) < (nb : Int) := by omega
          go_wp2
          go_ret
          exact ⟨ret_bool (Eq.symm (by
            rw [Bool.eq_false_iff]
            intro h
            try simp [formN, hok, hpv, hch, hbf, hnx, hck, chgN, chkN, isPg] at h
            all_goals (try omega))), X1.out⟩
      · have zna : 0 < na := by omega
        have fna : (0 : Int) < (na : Int) := by omega
        go_wp2
        go_ret
        exact ⟨ret_bool (Eq.symm (by
          rw [Bool.eq_false_iff]
          intro h
          try simp [formN, hok, hpv, hch, hbf, hnx, hck, chgN, chkN, isPg] at h
          all_goals (try omega))), X1.out⟩
    · have zoff : (off != 0) = true := by simp [toff]
      go_wp2
      go_ret
      exact ⟨ret_bool (Eq.symm (by
        rw [Bool.eq_false_iff]
        intro h
        try simp [formN, hok, hpv, hch, hbf, hnx, hck, chgN, chkN, isPg] at h
        all_goals (try omega))), X1.out⟩
  · have zpg : (pg != 0) = true := by simp [tpg]
    go_wp2
    go_ret
    exact ⟨ret_bool (Eq.symm (by
      rw [Bool.eq_false_iff]
      intro h
      try simp [formN, hok, hpv, hch, hbf, hnx, hck, chgN, chkN, isPg] at h
      all_goals (try omega))), X1.out⟩
end Go.Proofs.YtkbmcebdhiiffaaDoor
