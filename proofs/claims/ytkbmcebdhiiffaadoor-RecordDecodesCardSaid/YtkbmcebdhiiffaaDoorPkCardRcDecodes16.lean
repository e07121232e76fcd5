/-
  The document's Encode of records, kind 1.
  The document's Encode of records, kind 2.
  The document's Encode of records, kind 3.
-/
import Derived.Test.YtkbmcebdhiiffaaDoorPkCardRcDecodes1
import Derived.Test.YtkbmcebdhiiffaaDoorPkCardRcDecodes4
set_option linter.unusedVariables false
set_option linter.unusedSimpArgs false

namespace Go.Proofs.YtkbmcebdhiiffaaDoor
open Go.RowKit

set_option maxRecDepth 20000 in
set_option maxHeartbeats 6400000 in
theorem rencode_1 (tx pv pg off nx : Int) (A B D : Option Addr) (nb a na b' nd d : Nat) (op : Bool) (w : World) (bf af : List UInt8) (L : List (Int × Int)) (ht : Tab w) (hb0 : Rd w A bf) (ha0 : Rd w B af) (hr : RdD w D L) (hbn : bf.length = nb) (han : af.length = na) (hn : L.length = nd) (hnd : nd ≤ 140737488351232) (hna : na ≤ 140737488351232) (hnb : nb ≤ 140737488351232) (ho : -9223372036854775808 ≤ off) (ho2 : off < 9223372036854775808) (htx0 : 0 ≤ tx) (htx : tx < 18446744073709551616) (hpv0 : 0 ≤ pv) (hpv1 : pv < 18446744073709551616) (hnx0 : 0 ≤ nx) (hnx1 : nx < 18446744073709551616) (hdl : ∀ e ∈ L, 0 ≤ e.2 ∧ e.2 < 18446744073709551616) (hf : formN 1 pv pg off nx na nb nd L op = true) :
    Calls Tryd.prog 13 #[.agg #[.int .u8 1, .int .u64 tx, .int .u64 pv, .int .i64 pg, .int .i64 off, .slice A nb a, .slice B na b', .int .u64 nx, .slice D nd d, .bool op]] w (fun e w' => ∃ v', e = .returned v' ∧ Own w' w.heap.size v' (fullB 1 tx pv pg off nx bf af L op) ∧ Ext w w') := by
  have HT := hide ht
  have HBF := hide hb0
  have HAF := hide ha0
  have HD := hide hr
  have HBN := hide hbn
  have HAN := hide han
  have HN := hide hn
  have HTX := hide (And.intro htx0 htx)
  have HPV := hide (And.intro hpv0 hpv1)
  have HNX := hide (And.intro hnx0 hnx1)
  clear ht hb0 ha0 hr hbn han hn htx0 htx hpv0 hpv1 hnx0 hnx1 hdl hf ho ho2
  go_enter Tryd.func13, Tryd.ntmps13
  go_upto_region 1 with fail
  obtain ⟨W1, hX1, hR1, hg⟩ : ∃ W1, Ext w W1 ∧ Rw W1 w.heap.size 26 [.int .u8 1, .int .u64 tx, .int .u64 pv, .int .i64 pg, .int .i64 off, .slice A nb a, .slice B na b', .int .u64 nx, .slice D nd d, .bool op] ∧ w.alloc (.cells #[.int .u8 1, .int .u64 tx, .int .u64 pv, .int .i64 pg, .int .i64 off, .slice A nb a, .slice B na b', .int .u64 nx, .slice D nd d, .bool op] 26) = W1 := ⟨_, Ext.alloc _ _, Rw.new _ _ _, rfl⟩
  rw [hg]
  obtain ⟨hb, HHB⟩ : ∃ hb, Hid (w.heap.size = hb) := ⟨_, hide rfl⟩
  rw [HHB.out] at hR1 ⊢
  have X1 := hide hX1
  have R1 := hide hR1
  have c0 := hR1.cell (i := 0) rfl
  clear hg hX1 hR1
  obtain ⟨BB, HBB⟩ : ∃ BB, Hid (W1.heap.size = BB) := ⟨_, hide rfl⟩
  go_upto_region 2 with fail
  obtain ⟨W2, hX2, hO2, hg⟩ : ∃ W, Ext W1 W ∧ Own W BB (.slice (some ⟨BB, 0, none⟩) 1 1) (numN 1 1) ∧ W1.alloc (.cells #[.int .u8 1] 5) = W := ⟨_, Ext.alloc _ _, by rw [← HBB.out]; exact own_one W1 _ (Nat.le_refl _) 1 (by decide) (by decide), rfl⟩
  rw [hg, HBB.out]
  have XW2 := hide (X1.out.trans hX2)
  have R2 := hide (R1.out.ext hX2)
  have O2 := hide hO2
  have X2 := XW2
  have HB0 : Hid (w.heap.size ≤ BB) := hide (by rw [← HBB.out]; exact X1.out.size)
  have Y2 : Hid (Below BB W2 W2) := hide (Below.refl _ _)
  have HBW : Hid (BB ≤ W2.heap.size) := hide (by rw [← HBB.out]; exact hX2.size)
  have HL2 : Hid ((numN 1 1).length ≤ 1) := hide (by rw [numN_length 1 _ (by decide)]; exact Nat.le_refl _)
  clear hg hX2 hO2 X1 R1 c0
  have c0 := R2.out.cell (i := 0) rfl
  have c1 := R2.out.cell (i := 1) rfl
  have c2 := R2.out.cell (i := 2) rfl
  have c3 := R2.out.cell (i := 3) rfl
  have c4 := R2.out.cell (i := 4) rfl
  have c5 := R2.out.cell (i := 5) rfl
  have c6 := R2.out.cell (i := 6) rfl
  have c7 := R2.out.cell (i := 7) rfl
  have c8 := R2.out.cell (i := 8) rfl
  have c9 := R2.out.cell (i := 9) rfl
  have KA := hide (fun (W : World) => runum tx W HTX.out.1 HTX.out.2)
  go_upto_region 3 with (first
    | (go_at_call 24; (with_reducible refine (KA.out _).mono ?_); rintro e ma0 ⟨Aa0, ca0, rfl, hca, hra, hxa⟩; have RA0 := hide hra; have XA0 := hide hxa; clear hra hxa hca)
    | (refine wpList_catG rfl (.tmp 10) (.tmp 13) rfl BB (.slice (some ⟨BB, 0, none⟩) 1 1) (numN 1 1) (numN 8 tx) Aa0 8 ca0 rfl rfl (numN_length 8 _ (by decide)).symm (O2.out.ext XA0.out) RA0.out (Nat.le_trans (Nat.le_trans HBW.out Y2.out.size) XA0.out.size) (by rw [numN_length 8 _ (by decide)]; have := HL2.out; omega) ?_; intro z0 m0 ho hb2 hs2; have Op0 := hide ho; have Yp0 : Hid (Below BB W2 m0) := hide ((Y2.out.trans (Below.mono XA0.out (Nat.le_trans HBW.out Y2.out.size))).trans hb2); have Xp0 : Hid (Ext w m0) := hide (XW2.out.below HB0.out Yp0.out); have Rp0 := hide (hs2 hb _ _ (by decide) (R2.out.ext XA0.out)); clear ho hb2 hs2))
  clear KA RA0 XA0
  clear R2 O2
  clear c0 c1 c2 c3 c4 c5 c6 c7 c8 c9
  have c0 := Rp0.out.cell (i := 0) rfl
  have c1 := Rp0.out.cell (i := 1) rfl
  have c2 := Rp0.out.cell (i := 2) rfl
  have c3 := Rp0.out.cell (i := 3) rfl
  have c4 := Rp0.out.cell (i := 4) rfl
  have c5 := Rp0.out.cell (i := 5) rfl
  have c6 := Rp0.out.cell (i := 6) rfl
  have c7 := Rp0.out.cell (i := 7) rfl
  have c8 := Rp0.out.cell (i := 8) rfl
  have c9 := Rp0.out.cell (i := 9) rfl
  obtain ⟨l0, HEp0⟩ : ∃ l, Hid ((numN 1 1) ++ numN 8 tx = l) := ⟨_, hide rfl⟩
  rw [HEp0.out] at Op0
  have HLp0 : Hid (l0.length ≤ 9) := hide (by rw [← HEp0.out, List.length_append, numN_length 8 _ (by decide)]; have := HL2.out; omega)
  have HREC : Hid (recB 1 tx pv pg off nx bf af L op = l0) := hide (by
    rw [← HEp0.out]
    simp [recB, hpv, hch, hnx, hck])
  obtain ⟨AZ, cz, hvz, hcz, hrz⟩ := Op0.out.bytes
  subst hvz
  obtain ⟨nz, HNZ⟩ : ∃ n, Hid (l0.length = n) := ⟨_, hide rfl⟩
  rw [HNZ.out] at Op0 ⊢
  have KS := hide (show Calls Tryd.prog 26 #[.slice AZ nz cz] m0 _ from HNZ.out ▸ rsum_any AZ cz l0 m0 hrz (by have := HLp0.out; omega))
  clear hcz hrz
  obtain ⟨cr, HCR⟩ : ∃ n, Hid (crc l0 = n) := ⟨_, hide rfl⟩
  rw [HCR.out] at KS
  have hcr0 : (0 : Int) ≤ (cr : Int) := by omega
  have hcr1 : (cr : Int) < 4294967296 := by rw [← HCR.out]; unfold crc; omega
  have KU := hide (fun (W : World) => runum (cr : Int) W hcr0 (by omega))
  have HSB : Hid (sumB l0 = (numN 8 (cr : Int)).drop 4) := hide (by unfold sumB; rw [HCR.out]; rfl)
  go_upto_region 24 with (first
    | (go_at_call 26; (with_reducible refine KS.out.mono ?_); rintro e ws ⟨vs, rfl, hxs, rfl⟩; have XS := hide hxs; clear hxs)
    | (go_at_call 24; (with_reducible refine (KU.out _).mono ?_); rintro e wu ⟨Au, cu, rfl, hcu, hru, hxu⟩; have XU := hide (XS.out.trans hxu); have RU := hide hru; have HCU := hide hcu; clear hxu hru hcu))
  have h4c : 4 ≤ cu := by have := HCU.out; omega
  obtain ⟨bu, ou, hAu, -⟩ := RU.out (by intro h; have := congrArg List.length h; rw [numN_length 8 _ (by decide)] at this; cases this)
  subst hAu
  have RD := hide (RU.out.drop 4)
  rw [← HSB.out] at RD
  have RE : Hid (Rd wu (some ⟨bu, ou + 4, none⟩) (sumB l0)) := RD
  have h8c : 8 ≤ cu := HCU.out
  have h8n : ¬ cu < 8 := by omega
  clear RD RU KU KS
  go_wp2_with (go_loud (refine wpList_catG rfl (.tmp 108) (.tmp 110) rfl BB (.slice AZ nz cz) l0 (sumB l0) (some ⟨bu, ou + 4, none⟩) 4 _ rfl rfl (numN_length 4 _ (by decide)).symm (Op0.out.ext XU.out) RE.out (Nat.le_trans (Nat.le_trans HBW.out Yp0.out.size) XU.out.size) (by rw [show (sumB l0).length = 4 from numN_length 4 _ (by decide)]; have := HLp0.out; omega) ?_; intro vf wf ho hb2 hs2))
  go_ret
  refine ⟨vf, rfl, ?_, XW2.out.below HB0.out ((Yp0.out.trans (Below.mono XU.out (Nat.le_trans HBW.out Yp0.out.size))).trans hb2)⟩
  rw [fullB, HREC.out]
  exact own_mono ho HB0.out
end Go.Proofs.YtkbmcebdhiiffaaDoor
namespace Go.Proofs.YtkbmcebdhiiffaaDoor
open Go.RowKit

set_option maxRecDepth 20000 in
set_option maxHeartbeats 6400000 in
theorem rencode_2 (tx pv pg off nx : Int) (A B D : Option Addr) (nb a na b' nd d : Nat) (op : Bool) (w : World) (bf af : List UInt8) (L : List (Int × Int)) (ht : Tab w) (hb0 : Rd w A bf) (ha0 : Rd w B af) (hr : RdD w D L) (hbn : bf.length = nb) (han : af.length = na) (hn : L.length = nd) (hnd : nd ≤ 140737488351232) (hna : na ≤ 140737488351232) (hnb : nb ≤ 140737488351232) (ho : -9223372036854775808 ≤ off) (ho2 : off < 9223372036854775808) (htx0 : 0 ≤ tx) (htx : tx < 18446744073709551616) (hpv0 : 0 ≤ pv) (hpv1 : pv < 18446744073709551616) (hnx0 : 0 ≤ nx) (hnx1 : nx < 18446744073709551616) (hdl : ∀ e ∈ L, 0 ≤ e.2 ∧ e.2 < 18446744073709551616) (hf : formN 2 pv pg off nx na nb nd L op = true) :
    Calls Tryd.prog 13 #[.agg #[.int .u8 2, .int .u64 tx, .int .u64 pv, .int .i64 pg, .int .i64 off, .slice A nb a, .slice B na b', .int .u64 nx, .slice D nd d, .bool op]] w (fun e w' => ∃ v', e = .returned v' ∧ Own w' w.heap.size v' (fullB 2 tx pv pg off nx bf af L op) ∧ Ext w w') := by
  obtain ⟨hpg0, hpg1, hn1, hno, hoff0, hnbE⟩ : 0 ≤ pg ∧ pg < 4096 ∧ na ≤ 512 ∧ off ≤ 512 ∧ 0 ≤ off ∧ nb ≤ 512 := by
    simp [formN, hok, hpv, hch, hbf, hnx, hck, chgN, chkN, isPg] at hf
    omega
  have HT := hide ht
  have HBF := hide hb0
  have HAF := hide ha0
  have HD := hide hr
  have HBN := hide hbn
  have HAN := hide han
  have HN := hide hn
  have HTX := hide (And.intro htx0 htx)
  have HPV := hide (And.intro hpv0 hpv1)
  have HNX := hide (And.intro hnx0 hnx1)
  clear ht hb0 ha0 hr hbn han hn htx0 htx hpv0 hpv1 hnx0 hnx1 hdl hf ho ho2
  go_enter Tryd.func13, Tryd.ntmps13
  go_upto_region 1 with fail
  obtain ⟨W1, hX1, hR1, hg⟩ : ∃ W1, Ext w W1 ∧ Rw W1 w.heap.size 26 [.int .u8 2, .int .u64 tx, .int .u64 pv, .int .i64 pg, .int .i64 off, .slice A nb a, .slice B na b', .int .u64 nx, .slice D nd d, .bool op] ∧ w.alloc (.cells #[.int .u8 2, .int .u64 tx, .int .u64 pv, .int .i64 pg, .int .i64 off, .slice A nb a, .slice B na b', .int .u64 nx, .slice D nd d, .bool op] 26) = W1 := ⟨_, Ext.alloc _ _, Rw.new _ _ _, rfl⟩
  rw [hg]
  obtain ⟨hb, HHB⟩ : ∃ hb, Hid (w.heap.size = hb) := ⟨_, hide rfl⟩
  rw [HHB.out] at hR1 ⊢
  have X1 := hide hX1
  have R1 := hide hR1
  have c0 := hR1.cell (i := 0) rfl
  clear hg hX1 hR1
  obtain ⟨BB, HBB⟩ : ∃ BB, Hid (W1.heap.size = BB) := ⟨_, hide rfl⟩
  go_upto_region 2 with fail
  obtain ⟨W2, hX2, hO2, hg⟩ : ∃ W, Ext W1 W ∧ Own W BB (.slice (some ⟨BB, 0, none⟩) 1 1) (numN 1 2) ∧ W1.alloc (.cells #[.int .u8 2] 5) = W := ⟨_, Ext.alloc _ _, by rw [← HBB.out]; exact own_one W1 _ (Nat.le_refl _) 2 (by decide) (by decide), rfl⟩
  rw [hg, HBB.out]
  have XW2 := hide (X1.out.trans hX2)
  have R2 := hide (R1.out.ext hX2)
  have O2 := hide hO2
  have X2 := XW2
  have HB0 : Hid (w.heap.size ≤ BB) := hide (by rw [← HBB.out]; exact X1.out.size)
  have Y2 : Hid (Below BB W2 W2) := hide (Below.refl _ _)
  have HBW : Hid (BB ≤ W2.heap.size) := hide (by rw [← HBB.out]; exact hX2.size)
  have HL2 : Hid ((numN 1 2).length ≤ 1) := hide (by rw [numN_length 1 _ (by decide)]; exact Nat.le_refl _)
  clear hg hX2 hO2 X1 R1 c0
  have c0 := R2.out.cell (i := 0) rfl
  have c1 := R2.out.cell (i := 1) rfl
  have c2 := R2.out.cell (i := 2) rfl
  have c3 := R2.out.cell (i := 3) rfl
  have c4 := R2.out.cell (i := 4) rfl
  have c5 := R2.out.cell (i := 5) rfl
  have c6 := R2.out.cell (i := 6) rfl
  have c7 := R2.out.cell (i := 7) rfl
  have c8 := R2.out.cell (i := 8) rfl
  have c9 := R2.out.cell (i := 9) rfl
  have KA := hide (fun (W : World) => runum tx W HTX.out.1 HTX.out.2)
  go_upto_region 3 with (first
    | (go_at_call 24; (with_reducible refine (KA.out _).mono ?_); rintro e ma0 ⟨Aa0, ca0, rfl, hca, hra, hxa⟩; have RA0 := hide hra; have XA0 := hide hxa; clear hra hxa hca)
    | (refine wpList_catG rfl (.tmp 10) (.tmp 13) rfl BB (.slice (some ⟨BB, 0, none⟩) 1 1) (numN 1 2) (numN 8 tx) Aa0 8 ca0 rfl rfl (numN_length 8 _ (by decide)).symm (O2.out.ext XA0.out) RA0.out (Nat.le_trans (Nat.le_trans HBW.out Y2.out.size) XA0.out.size) (by rw [numN_length 8 _ (by decide)]; have := HL2.out; omega) ?_; intro z0 m0 ho hb2 hs2; have Op0 := hide ho; have Yp0 : Hid (Below BB W2 m0) := hide ((Y2.out.trans (Below.mono XA0.out (Nat.le_trans HBW.out Y2.out.size))).trans hb2); have Xp0 : Hid (Ext w m0) := hide (XW2.out.below HB0.out Yp0.out); have Rp0 := hide (hs2 hb _ _ (by decide) (R2.out.ext XA0.out)); clear ho hb2 hs2))
  clear KA RA0 XA0
  clear R2 O2
  clear c0 c1 c2 c3 c4 c5 c6 c7 c8 c9
  have c0 := Rp0.out.cell (i := 0) rfl
  have c1 := Rp0.out.cell (i := 1) rfl
  have c2 := Rp0.out.cell (i := 2) rfl
  have c3 := Rp0.out.cell (i := 3) rfl
  have c4 := Rp0.out.cell (i := 4) rfl
  have c5 := Rp0.out.cell (i := 5) rfl
  have c6 := Rp0.out.cell (i := 6) rfl
  have c7 := Rp0.out.cell (i := 7) rfl
  have c8 := Rp0.out.cell (i := 8) rfl
  have c9 := Rp0.out.cell (i := 9) rfl
  obtain ⟨l0, HEp0⟩ : ∃ l, Hid ((numN 1 2) ++ numN 8 tx = l) := ⟨_, hide rfl⟩
  rw [HEp0.out] at Op0
  have HLp0 : Hid (l0.length ≤ 9) := hide (by rw [← HEp0.out, List.length_append, numN_length 8 _ (by decide)]; have := HL2.out; omega)
  have KA := hide (fun (W : World) => runum pv W HPV.out.1 HPV.out.2)
  go_upto_region 5 with (first
    | (go_at_call 24; (with_reducible refine (KA.out _).mono ?_); rintro e ma1 ⟨Aa1, ca1, rfl, hca, hra, hxa⟩; have RA1 := hide hra; have XA1 := hide hxa; clear hra hxa hca)
    | (refine wpList_catG rfl (.tmp 18) (.tmp 21) rfl BB z0 l0 (numN 8 pv) Aa1 8 ca1 rfl rfl (numN_length 8 _ (by decide)).symm (Op0.out.ext XA1.out) RA1.out (Nat.le_trans (Nat.le_trans HBW.out Yp0.out.size) XA1.out.size) (by rw [numN_length 8 _ (by decide)]; have := HLp0.out; omega) ?_; intro z1 m1 ho hb2 hs2; have Op1 := hide ho; have Yp1 : Hid (Below BB W2 m1) := hide ((Yp0.out.trans (Below.mono XA1.out (Nat.le_trans HBW.out Yp0.out.size))).trans hb2); have Xp1 : Hid (Ext w m1) := hide (XW2.out.below HB0.out Yp1.out); have Rp1 := hide (hs2 hb _ _ (by decide) (Rp0.out.ext XA1.out)); clear ho hb2 hs2))
  clear KA RA1 XA1
  clear Rp0 Op0
  clear c0 c1 c2 c3 c4 c5 c6 c7 c8 c9
  have c0 := Rp1.out.cell (i := 0) rfl
  have c1 := Rp1.out.cell (i := 1) rfl
  have c2 := Rp1.out.cell (i := 2) rfl
  have c3 := Rp1.out.cell (i := 3) rfl
  have c4 := Rp1.out.cell (i := 4) rfl
  have c5 := Rp1.out.cell (i := 5) rfl
  have c6 := Rp1.out.cell (i := 6) rfl
  have c7 := Rp1.out.cell (i := 7) rfl
  have c8 := Rp1.out.cell (i := 8) rfl
  have c9 := Rp1.out.cell (i := 9) rfl
  obtain ⟨l1, HEp1⟩ : ∃ l, Hid (l0 ++ numN 8 pv = l) := ⟨_, hide rfl⟩
  rw [HEp1.out] at Op1
  have HLp1 : Hid (l1.length ≤ 17) := hide (by rw [← HEp1.out, List.length_append, numN_length 8 _ (by decide)]; have := HLp0.out; omega)
  have KA := hide (fun (W : World) => two_any pg W (by omega) (by omega))
  go_upto_region 7 with (first
    | (go_at_call 25; (with_reducible refine (KA.out _).mono ?_); rintro e ma2 ⟨Aa2, ca2, rfl, hca, hra, hxa⟩; have RA2 := hide hra; have XA2 := hide hxa; clear hra hxa hca)
    | (refine wpList_catG rfl (.tmp 31) (.tmp 34) rfl BB z1 l1 (numN 2 pg) Aa2 2 ca2 rfl rfl (numN_length 2 _ (by decide)).symm (Op1.out.ext XA2.out) RA2.out (Nat.le_trans (Nat.le_trans HBW.out Yp1.out.size) XA2.out.size) (by rw [numN_length 2 _ (by decide)]; have := HLp1.out; omega) ?_; intro z2 m2 ho hb2 hs2; have Op2 := hide ho; have Yp2 : Hid (Below BB W2 m2) := hide ((Yp1.out.trans (Below.mono XA2.out (Nat.le_trans HBW.out Yp1.out.size))).trans hb2); have Xp2 : Hid (Ext w m2) := hide (XW2.out.below HB0.out Yp2.out); have Rp2 := hide (hs2 hb _ _ (by decide) (Rp1.out.ext XA2.out)); clear ho hb2 hs2))
  clear KA RA2 XA2
  clear Rp1 Op1
  clear c0 c1 c2 c3 c4 c5 c6 c7 c8 c9
  have c0 := Rp2.out.cell (i := 0) rfl
  have c1 := Rp2.out.cell (i := 1) rfl
  have c2 := Rp2.out.cell (i := 2) rfl
  have c3 := Rp2.out.cell (i := 3) rfl
  have c4 := Rp2.out.cell (i := 4) rfl
  have c5 := Rp2.out.cell (i := 5) rfl
  have c6 := Rp2.out.cell (i := 6) rfl
  have c7 := Rp2.out.cell (i := 7) rfl
  have c8 := Rp2.out.cell (i := 8) rfl
  have c9 := Rp2.out.cell (i := 9) rfl
  obtain ⟨l2, HEp2⟩ : ∃ l, Hid (l1 ++ numN 2 pg = l) := ⟨_, hide rfl⟩
  rw [HEp2.out] at Op2
  have HLp2 : Hid (l2.length ≤ 19) := hide (by rw [← HEp2.out, List.length_append, numN_length 2 _ (by decide)]; have := HLp1.out; omega)
  have KA := hide (fun (W : World) => two_any off W (by omega) (by omega))
  go_upto_region 8 with (first
    | (go_at_call 25; (with_reducible refine (KA.out _).mono ?_); rintro e ma3 ⟨Aa3, ca3, rfl, hca, hra, hxa⟩; have RA3 := hide hra; have XA3 := hide hxa; clear hra hxa hca)
    | (refine wpList_catG rfl (.tmp 36) (.tmp 39) rfl BB z2 l2 (numN 2 off) Aa3 2 ca3 rfl rfl (numN_length 2 _ (by decide)).symm (Op2.out.ext XA3.out) RA3.out (Nat.le_trans (Nat.le_trans HBW.out Yp2.out.size) XA3.out.size) (by rw [numN_length 2 _ (by decide)]; have := HLp2.out; omega) ?_; intro z3 m3 ho hb2 hs2; have Op3 := hide ho; have Yp3 : Hid (Below BB W2 m3) := hide ((Yp2.out.trans (Below.mono XA3.out (Nat.le_trans HBW.out Yp2.out.size))).trans hb2); have Xp3 : Hid (Ext w m3) := hide (XW2.out.below HB0.out Yp3.out); have Rp3 := hide (hs2 hb _ _ (by decide) (Rp2.out.ext XA3.out)); clear ho hb2 hs2))
  clear KA RA3 XA3
  clear Rp2 Op2
  clear c0 c1 c2 c3 c4 c5 c6 c7 c8 c9
  have c0 := Rp3.out.cell (i := 0) rfl
  have c1 := Rp3.out.cell (i := 1) rfl
  have c2 := Rp3.out.cell (i := 2) rfl
  have c3 := Rp3.out.cell (i := 3) rfl
  have c4 := Rp3.out.cell (i := 4) rfl
  have c5 := Rp3.out.cell (i := 5) rfl
  have c6 := Rp3.out.cell (i := 6) rfl
  have c7 := Rp3.out.cell (i := 7) rfl
  have c8 := Rp3.out.cell (i := 8) rfl
  have c9 := Rp3.out.cell (i := 9) rfl
  obtain ⟨l3, HEp3⟩ : ∃ l, Hid (l2 ++ numN 2 off = l) := ⟨_, hide rfl⟩
  rw [HEp3.out] at Op3
  have HLp3 : Hid (l3.length ≤ 21) := hide (by rw [← HEp3.out, List.length_append, numN_length 2 _ (by decide)]; have := HLp2.out; omega)
  have KA := hide (fun (W : World) => two_any (na : Int) W (by omega) (by omega))
  go_upto_region 9 with (first
    | (go_at_call 25; (with_reducible refine (KA.out _).mono ?_); rintro e ma4 ⟨Aa4, ca4, rfl, hca, hra, hxa⟩; have RA4 := hide hra; have XA4 := hide hxa; clear hra hxa hca)
    | (refine wpList_catG rfl (.tmp 41) (.tmp 45) rfl BB z3 l3 (numN 2 (na : Int)) Aa4 2 ca4 rfl rfl (numN_length 2 _ (by decide)).symm (Op3.out.ext XA4.out) RA4.out (Nat.le_trans (Nat.le_trans HBW.out Yp3.out.size) XA4.out.size) (by rw [numN_length 2 _ (by decide)]; have := HLp3.out; omega) ?_; intro z4 m4 ho hb2 hs2; have Op4 := hide ho; have Yp4 : Hid (Below BB W2 m4) := hide ((Yp3.out.trans (Below.mono XA4.out (Nat.le_trans HBW.out Yp3.out.size))).trans hb2); have Xp4 : Hid (Ext w m4) := hide (XW2.out.below HB0.out Yp4.out); have Rp4 := hide (hs2 hb _ _ (by decide) (Rp3.out.ext XA4.out)); clear ho hb2 hs2))
  clear KA RA4 XA4
  clear Rp3 Op3
  clear c0 c1 c2 c3 c4 c5 c6 c7 c8 c9
  have c0 := Rp4.out.cell (i := 0) rfl
  have c1 := Rp4.out.cell (i := 1) rfl
  have c2 := Rp4.out.cell (i := 2) rfl
  have c3 := Rp4.out.cell (i := 3) rfl
  have c4 := Rp4.out.cell (i := 4) rfl
  have c5 := Rp4.out.cell (i := 5) rfl
  have c6 := Rp4.out.cell (i := 6) rfl
  have c7 := Rp4.out.cell (i := 7) rfl
  have c8 := Rp4.out.cell (i := 8) rfl
  have c9 := Rp4.out.cell (i := 9) rfl
  obtain ⟨l4, HEp4⟩ : ∃ l, Hid (l3 ++ numN 2 (na : Int) = l) := ⟨_, hide rfl⟩
  rw [HEp4.out] at Op4
  have HLp4 : Hid (l4.length ≤ 23) := hide (by rw [← HEp4.out, List.length_append, numN_length 2 _ (by decide)]; have := HLp3.out; omega)
  go_upto_region 10 with (refine wpList_catG rfl (.tmp 47) (.tmp 49) rfl BB z4 l4 bf A nb a rfl rfl HBN.out.symm Op4.out (HBF.out.ext Xp4.out) (Nat.le_trans HBW.out Yp4.out.size) (by rw [HBN.out]; have := HLp4.out; omega) ?_; intro z5 m5 ho hb2 hs2; have Op5 := hide ho; have Yp5 : Hid (Below BB W2 m5) := hide (Yp4.out.trans hb2); have Xp5 : Hid (Ext w m5) := hide (XW2.out.below HB0.out Yp5.out); have Rp5 := hide (hs2 hb _ _ (by decide) Rp4.out); clear ho hb2 hs2)
  clear Rp4 Op4
  clear c0 c1 c2 c3 c4 c5 c6 c7 c8 c9
  have c0 := Rp5.out.cell (i := 0) rfl
  have c1 := Rp5.out.cell (i := 1) rfl
  have c2 := Rp5.out.cell (i := 2) rfl
  have c3 := Rp5.out.cell (i := 3) rfl
  have c4 := Rp5.out.cell (i := 4) rfl
  have c5 := Rp5.out.cell (i := 5) rfl
  have c6 := Rp5.out.cell (i := 6) rfl
  have c7 := Rp5.out.cell (i := 7) rfl
  have c8 := Rp5.out.cell (i := 8) rfl
  have c9 := Rp5.out.cell (i := 9) rfl
  obtain ⟨l5, HEp5⟩ : ∃ l, Hid (l4 ++ bf = l) := ⟨_, hide rfl⟩
  rw [HEp5.out] at Op5
  have HLp5 : Hid (l5.length ≤ 535) := hide (by rw [← HEp5.out, List.length_append, HBN.out]; have := HBN.out; have := HLp4.out; omega)
  go_upto_region 11 with (refine wpList_catG rfl (.tmp 51) (.tmp 53) rfl BB z5 l5 af B na b' rfl rfl HAN.out.symm Op5.out (HAF.out.ext Xp5.out) (Nat.le_trans HBW.out Yp5.out.size) (by rw [HAN.out]; have := HLp5.out; omega) ?_; intro z6 m6 ho hb2 hs2; have Op6 := hide ho; have Yp6 : Hid (Below BB W2 m6) := hide (Yp5.out.trans hb2); have Xp6 : Hid (Ext w m6) := hide (XW2.out.below HB0.out Yp6.out); have Rp6 := hide (hs2 hb _ _ (by decide) Rp5.out); clear ho hb2 hs2)
  clear Rp5 Op5
  clear c0 c1 c2 c3 c4 c5 c6 c7 c8 c9
  have c0 := Rp6.out.cell (i := 0) rfl
  have c1 := Rp6.out.cell (i := 1) rfl
  have c2 := Rp6.out.cell (i := 2) rfl
  have c3 := Rp6.out.cell (i := 3) rfl
  have c4 := Rp6.out.cell (i := 4) rfl
  have c5 := Rp6.out.cell (i := 5) rfl
  have c6 := Rp6.out.cell (i := 6) rfl
  have c7 := Rp6.out.cell (i := 7) rfl
  have c8 := Rp6.out.cell (i := 8) rfl
  have c9 := Rp6.out.cell (i := 9) rfl
  obtain ⟨l6, HEp6⟩ : ∃ l, Hid (l5 ++ af = l) := ⟨_, hide rfl⟩
  rw [HEp6.out] at Op6
  have HLp6 : Hid (l6.length ≤ 1047) := hide (by rw [← HEp6.out, List.length_append, HAN.out]; have := HAN.out; have := HLp5.out; omega)
  have HREC : Hid (recB 2 tx pv pg off nx bf af L op = l6) := hide (by
    rw [← HEp6.out, ← HEp5.out, ← HEp4.out, ← HEp3.out, ← HEp2.out, ← HEp1.out, ← HEp0.out]
    simp [recB, hpv, hch, hnx, hck, HAN.out])
  obtain ⟨AZ, cz, hvz, hcz, hrz⟩ := Op6.out.bytes
  subst hvz
  obtain ⟨nz, HNZ⟩ : ∃ n, Hid (l6.length = n) := ⟨_, hide rfl⟩
  rw [HNZ.out] at Op6 ⊢
  have KS := hide (show Calls Tryd.prog 26 #[.slice AZ nz cz] m6 _ from HNZ.out ▸ rsum_any AZ cz l6 m6 hrz (by have := HLp6.out; omega))
  clear hcz hrz
  obtain ⟨cr, HCR⟩ : ∃ n, Hid (crc l6 = n) := ⟨_, hide rfl⟩
  rw [HCR.out] at KS
  have hcr0 : (0 : Int) ≤ (cr : Int) := by omega
  have hcr1 : (cr : Int) < 4294967296 := by rw [← HCR.out]; unfold crc; omega
  have KU := hide (fun (W : World) => runum (cr : Int) W hcr0 (by omega))
  have HSB : Hid (sumB l6 = (numN 8 (cr : Int)).drop 4) := hide (by unfold sumB; rw [HCR.out]; rfl)
  go_upto_region 24 with (first
    | (go_at_call 26; (with_reducible refine KS.out.mono ?_); rintro e ws ⟨vs, rfl, hxs, rfl⟩; have XS := hide hxs; clear hxs)
    | (go_at_call 24; (with_reducible refine (KU.out _).mono ?_); rintro e wu ⟨Au, cu, rfl, hcu, hru, hxu⟩; have XU := hide (XS.out.trans hxu); have RU := hide hru; have HCU := hide hcu; clear hxu hru hcu))
  have h4c : 4 ≤ cu := by have := HCU.out; omega
  obtain ⟨bu, ou, hAu, -⟩ := RU.out (by intro h; have := congrArg List.length h; rw [numN_length 8 _ (by decide)] at this; cases this)
  subst hAu
  have RD := hide (RU.out.drop 4)
  rw [← HSB.out] at RD
  have RE : Hid (Rd wu (some ⟨bu, ou + 4, none⟩) (sumB l6)) := RD
  have h8c : 8 ≤ cu := HCU.out
  have h8n : ¬ cu < 8 := by omega
  clear RD RU KU KS
  go_wp2_with (go_loud (refine wpList_catG rfl (.tmp 108) (.tmp 110) rfl BB (.slice AZ nz cz) l6 (sumB l6) (some ⟨bu, ou + 4, none⟩) 4 _ rfl rfl (numN_length 4 _ (by decide)).symm (Op6.out.ext XU.out) RE.out (Nat.le_trans (Nat.le_trans HBW.out Yp6.out.size) XU.out.size) (by rw [show (sumB l6).length = 4 from numN_length 4 _ (by decide)]; have := HLp6.out; omega) ?_; intro vf wf ho hb2 hs2))
  go_ret
  refine ⟨vf, rfl, ?_, XW2.out.below HB0.out ((Yp6.out.trans (Below.mono XU.out (Nat.le_trans HBW.out Yp6.out.size))).trans hb2)⟩
  rw [fullB, HREC.out]
  exact own_mono ho HB0.out
end Go.Proofs.YtkbmcebdhiiffaaDoor
namespace Go.Proofs.YtkbmcebdhiiffaaDoor
open Go.RowKit

set_option maxRecDepth 20000 in
set_option maxHeartbeats 6400000 in
theorem rencode_3 (tx pv pg off nx : Int) (A B D : Option Addr) (nb a na b' nd d : Nat) (op : Bool) (w : World) (bf af : List UInt8) (L : List (Int × Int)) (ht : Tab w) (hb0 : Rd w A bf) (ha0 : Rd w B af) (hr : RdD w D L) (hbn : bf.length = nb) (han : af.length = na) (hn : L.length = nd) (hnd : nd ≤ 140737488351232) (hna : na ≤ 140737488351232) (hnb : nb ≤ 140737488351232) (ho : -9223372036854775808 ≤ off) (ho2 : off < 9223372036854775808) (htx0 : 0 ≤ tx) (htx : tx < 18446744073709551616) (hpv0 : 0 ≤ pv) (hpv1 : pv < 18446744073709551616) (hnx0 : 0 ≤ nx) (hnx1 : nx < 18446744073709551616) (hdl : ∀ e ∈ L, 0 ≤ e.2 ∧ e.2 < 18446744073709551616) (hf : formN 3 pv pg off nx na nb nd L op = true) :
    Calls Tryd.prog 13 #[.agg #[.int .u8 3, .int .u64 tx, .int .u64 pv, .int .i64 pg, .int .i64 off, .slice A nb a, .slice B na b', .int .u64 nx, .slice D nd d, .bool op]] w (fun e w' => ∃ v', e = .returned v' ∧ Own w' w.heap.size v' (fullB 3 tx pv pg off nx bf af L op) ∧ Ext w w') := by
  obtain ⟨hpg0, hpg1, hn1, hno, hoff0, hnbE⟩ : 0 ≤ pg ∧ pg < 4096 ∧ na ≤ 512 ∧ off ≤ 512 ∧ 0 ≤ off ∧ nb ≤ 512 := by
    simp [formN, hok, hpv, hch, hbf, hnx, hck, chgN, chkN, isPg] at hf
    omega
  have HT := hide ht
  have HBF := hide hb0
  have HAF := hide ha0
  have HD := hide hr
  have HBN := hide hbn
  have HAN := hide han
  have HN := hide hn
  have HTX := hide (And.intro htx0 htx)
  have HPV := hide (And.intro hpv0 hpv1)
  have HNX := hide (And.intro hnx0 hnx1)
  clear ht hb0 ha0 hr hbn han hn htx0 htx hpv0 hpv1 hnx0 hnx1 hdl hf ho ho2
  go_enter Tryd.func13, Tryd.ntmps13
  go_upto_region 1 with fail
  obtain ⟨W1, hX1, hR1, hg⟩ : ∃ W1, Ext w W1 ∧ Rw W1 w.heap.size 26 [.int .u8 3, .int .u64 tx, .int .u64 pv, .int .i64 pg, .int .i64 off, .slice A nb a, .slice B na b', .int .u64 nx, .slice D nd d, .bool op] ∧ w.alloc (.cells #[.int .u8 3, .int .u64 tx, .int .u64 pv, .int .i64 pg, .int .i64 off, .slice A nb a, .slice B na b', .int .u64 nx, .slice D nd d, .bool op] 26) = W1 := ⟨_, Ext.alloc _ _, Rw.new _ _ _, rfl⟩
  rw [hg]
  obtain ⟨hb, HHB⟩ : ∃ hb, Hid (w.heap.size = hb) := ⟨_, hide rfl⟩
  rw [HHB.out] at hR1 ⊢
  have X1 := hide hX1
  have R1 := hide hR1
  have c0 := hR1.cell (i := 0) rfl
  clear hg hX1 hR1
  obtain ⟨BB, HBB⟩ : ∃ BB, Hid (W1.heap.size = BB) := ⟨_, hide rfl⟩
  go_upto_region 2 with fail
  obtain ⟨W2, hX2, hO2, hg⟩ : ∃ W, Ext W1 W ∧ Own W BB (.slice (some ⟨BB, 0, none⟩) 1 1) (numN 1 3) ∧ W1.alloc (.cells #[.int .u8 3] 5) = W := ⟨_, Ext.alloc _ _, by rw [← HBB.out]; exact own_one W1 _ (Nat.le_refl _) 3 (by decide) (by decide), rfl⟩
  rw [hg, HBB.out]
  have XW2 := hide (X1.out.trans hX2)
  have R2 := hide (R1.out.ext hX2)
  have O2 := hide hO2
  have X2 := XW2
  have HB0 : Hid (w.heap.size ≤ BB) := hide (by rw [← HBB.out]; exact X1.out.size)
  have Y2 : Hid (Below BB W2 W2) := hide (Below.refl _ _)
  have HBW : Hid (BB ≤ W2.heap.size) := hide (by rw [← HBB.out]; exact hX2.size)
  have HL2 : Hid ((numN 1 3).length ≤ 1) := hide (by rw [numN_length 1 _ (by decide)]; exact Nat.le_refl _)
  clear hg hX2 hO2 X1 R1 c0
  have c0 := R2.out.cell (i := 0) rfl
  have c1 := R2.out.cell (i := 1) rfl
  have c2 := R2.out.cell (i := 2) rfl
  have c3 := R2.out.cell (i := 3) rfl
  have c4 := R2.out.cell (i := 4) rfl
  have c5 := R2.out.cell (i := 5) rfl
  have c6 := R2.out.cell (i := 6) rfl
  have c7 := R2.out.cell (i := 7) rfl
  have c8 := R2.out.cell (i := 8) rfl
  have c9 := R2.out.cell (i := 9) rfl
  have KA := hide (fun (W : World) => runum tx W HTX.out.1 HTX.out.2)
  go_upto_region 3 with (first
    | (go_at_call 24; (with_reducible refine (KA.out _).mono ?_); rintro e ma0 ⟨Aa0, ca0, rfl, hca, hra, hxa⟩; have RA0 := hide hra; have XA0 := hide hxa; clear hra hxa hca)
    | (refine wpList_catG rfl (.tmp 10) (.tmp 13) rfl BB (.slice (some ⟨BB, 0, none⟩) 1 1) (numN 1 3) (numN 8 tx) Aa0 8 ca0 rfl rfl (numN_length 8 _ (by decide)).symm (O2.out.ext XA0.out) RA0.out (Nat.le_trans (Nat.le_trans HBW.out Y2.out.size) XA0.out.size) (by rw [numN_length 8 _ (by decide)]; have := HL2.out; omega) ?_; intro z0 m0 ho hb2 hs2; have Op0 := hide ho; have Yp0 : Hid (Below BB W2 m0) := hide ((Y2.out.trans (Below.mono XA0.out (Nat.le_trans HBW.out Y2.out.size))).trans hb2); have Xp0 : Hid (Ext w m0) := hide (XW2.out.below HB0.out Yp0.out); have Rp0 := hide (hs2 hb _ _ (by decide) (R2.out.ext XA0.out)); clear ho hb2 hs2))
  clear KA RA0 XA0
  clear R2 O2
  clear c0 c1 c2 c3 c4 c5 c6 c7 c8 c9
  have c0 := Rp0.out.cell (i := 0) rfl
  have c1 := Rp0.out.cell (i := 1) rfl
  have c2 := Rp0.out.cell (i := 2) rfl
  have c3 := Rp0.out.cell (i := 3) rfl
  have c4 := Rp0.out.cell (i := 4) rfl
  have c5 := Rp0.out.cell (i := 5) rfl
  have c6 := Rp0.out.cell (i := 6) rfl
  have c7 := Rp0.out.cell (i := 7) rfl
  have c8 := Rp0.out.cell (i := 8) rfl
  have c9 := Rp0.out.cell (i := 9) rfl
  obtain ⟨l0, HEp0⟩ : ∃ l, Hid ((numN 1 3) ++ numN 8 tx = l) := ⟨_, hide rfl⟩
  rw [HEp0.out] at Op0
  have HLp0 : Hid (l0.length ≤ 9) := hide (by rw [← HEp0.out, List.length_append, numN_length 8 _ (by decide)]; have := HL2.out; omega)
  have KA := hide (fun (W : World) => runum pv W HPV.out.1 HPV.out.2)
  go_upto_region 5 with (first
    | (go_at_call 24; (with_reducible refine (KA.out _).mono ?_); rintro e ma1 ⟨Aa1, ca1, rfl, hca, hra, hxa⟩; have RA1 := hide hra; have XA1 := hide hxa; clear hra hxa hca)
    | (refine wpList_catG rfl (.tmp 18) (.tmp 21) rfl BB z0 l0 (numN 8 pv) Aa1 8 ca1 rfl rfl (numN_length 8 _ (by decide)).symm (Op0.out.ext XA1.out) RA1.out (Nat.le_trans (Nat.le_trans HBW.out Yp0.out.size) XA1.out.size) (by rw [numN_length 8 _ (by decide)]; have := HLp0.out; omega) ?_; intro z1 m1 ho hb2 hs2; have Op1 := hide ho; have Yp1 : Hid (Below BB W2 m1) := hide ((Yp0.out.trans (Below.mono XA1.out (Nat.le_trans HBW.out Yp0.out.size))).trans hb2); have Xp1 : Hid (Ext w m1) := hide (XW2.out.below HB0.out Yp1.out); have Rp1 := hide (hs2 hb _ _ (by decide) (Rp0.out.ext XA1.out)); clear ho hb2 hs2))
  clear KA RA1 XA1
  clear Rp0 Op0
  clear c0 c1 c2 c3 c4 c5 c6 c7 c8 c9
  have c0 := Rp1.out.cell (i := 0) rfl
  have c1 := Rp1.out.cell (i := 1) rfl
  have c2 := Rp1.out.cell (i := 2) rfl
  have c3 := Rp1.out.cell (i := 3) rfl
  have c4 := Rp1.out.cell (i := 4) rfl
  have c5 := Rp1.out.cell (i := 5) rfl
  have c6 := Rp1.out.cell (i := 6) rfl
  have c7 := Rp1.out.cell (i := 7) rfl
  have c8 := Rp1.out.cell (i := 8) rfl
  have c9 := Rp1.out.cell (i := 9) rfl
  obtain ⟨l1, HEp1⟩ : ∃ l, Hid (l0 ++ numN 8 pv = l) := ⟨_, hide rfl⟩
  rw [HEp1.out] at Op1
  have HLp1 : Hid (l1.length ≤ 17) := hide (by rw [← HEp1.out, List.length_append, numN_length 8 _ (by decide)]; have := HLp0.out; omega)
  have KA := hide (fun (W : World) => two_any pg W (by omega) (by omega))
  go_upto_region 7 with (first
    | (go_at_call 25; (with_reducible refine (KA.out _).mono ?_); rintro e ma2 ⟨Aa2, ca2, rfl, hca, hra, hxa⟩; have RA2 := hide hra; have XA2 := hide hxa; clear hra hxa hca)
    | (refine wpList_catG rfl (.tmp 31) (.tmp 34) rfl BB z1 l1 (numN 2 pg) Aa2 2 ca2 rfl rfl (numN_length 2 _ (by decide)).symm (Op1.out.ext XA2.out) RA2.out (Nat.le_trans (Nat.le_trans HBW.out Yp1.out.size) XA2.out.size) (by rw [numN_length 2 _ (by decide)]; have := HLp1.out; omega) ?_; intro z2 m2 ho hb2 hs2; have Op2 := hide ho; have Yp2 : Hid (Below BB W2 m2) := hide ((Yp1.out.trans (Below.mono XA2.out (Nat.le_trans HBW.out Yp1.out.size))).trans hb2); have Xp2 : Hid (Ext w m2) := hide (XW2.out.below HB0.out Yp2.out); have Rp2 := hide (hs2 hb _ _ (by decide) (Rp1.out.ext XA2.out)); clear ho hb2 hs2))
  clear KA RA2 XA2
  clear Rp1 Op1
  clear c0 c1 c2 c3 c4 c5 c6 c7 c8 c9
  have c0 := Rp2.out.cell (i := 0) rfl
  have c1 := Rp2.out.cell (i := 1) rfl
  have c2 := Rp2.out.cell (i := 2) rfl
  have c3 := Rp2.out.cell (i := 3) rfl
  have c4 := Rp2.out.cell (i := 4) rfl
  have c5 := Rp2.out.cell (i := 5) rfl
  have c6 := Rp2.out.cell (i := 6) rfl
  have c7 := Rp2.out.cell (i := 7) rfl
  have c8 := Rp2.out.cell (i := 8) rfl
  have c9 := Rp2.out.cell (i := 9) rfl
  obtain ⟨l2, HEp2⟩ : ∃ l, Hid (l1 ++ numN 2 pg = l) := ⟨_, hide rfl⟩
  rw [HEp2.out] at Op2
  have HLp2 : Hid (l2.length ≤ 19) := hide (by rw [← HEp2.out, List.length_append, numN_length 2 _ (by decide)]; have := HLp1.out; omega)
  have KA := hide (fun (W : World) => two_any off W (by omega) (by omega))
  go_upto_region 8 with (first
    | (go_at_call 25; (with_reducible refine (KA.out _).mono ?_); rintro e ma3 ⟨Aa3, ca3, rfl, hca, hra, hxa⟩; have RA3 := hide hra; have XA3 := hide hxa; clear hra hxa hca)
    | (refine wpList_catG rfl (.tmp 36) (.tmp 39) rfl BB z2 l2 (numN 2 off) Aa3 2 ca3 rfl rfl (numN_length 2 _ (by decide)).symm (Op2.out.ext XA3.out) RA3.out (Nat.le_trans (Nat.le_trans HBW.out Yp2.out.size) XA3.out.size) (by rw [numN_length 2 _ (by decide)]; have := HLp2.out; omega) ?_; intro z3 m3 ho hb2 hs2; have Op3 := hide ho; have Yp3 : Hid (Below BB W2 m3) := hide ((Yp2.out.trans (Below.mono XA3.out (Nat.le_trans HBW.out Yp2.out.size))).trans hb2); have Xp3 : Hid (Ext w m3) := hide (XW2.out.below HB0.out Yp3.out); have Rp3 := hide (hs2 hb _ _ (by decide) (Rp2.out.ext XA3.out)); clear ho hb2 hs2))
  clear KA RA3 XA3
  clear Rp2 Op2
  clear c0 c1 c2 c3 c4 c5 c6 c7 c8 c9
  have c0 := Rp3.out.cell (i := 0) rfl
  have c1 := Rp3.out.cell (i := 1) rfl
  have c2 := Rp3.out.cell (i := 2) rfl
  have c3 := Rp3.out.cell (i := 3) rfl
  have c4 := Rp3.out.cell (i := 4) rfl
  have c5 := Rp3.out.cell (i := 5) rfl
  have c6 := Rp3.out.cell (i := 6) rfl
  have c7 := Rp3.out.cell (i := 7) rfl
  have c8 := Rp3.out.cell (i := 8) rfl
  have c9 := Rp3.out.cell (i := 9) rfl
  obtain ⟨l3, HEp3⟩ : ∃ l, Hid (l2 ++ numN 2 off = l) := ⟨_, hide rfl⟩
  rw [HEp3.out] at Op3
  have HLp3 : Hid (l3.length ≤ 21) := hide (by rw [← HEp3.out, List.length_append, numN_length 2 _ (by decide)]; have := HLp2.out; omega)
  have KA := hide (fun (W : World) => two_any (na : Int) W (by omega) (by omega))
  go_upto_region 9 with (first
    | (go_at_call 25; (with_reducible refine (KA.out _).mono ?_); rintro e ma4 ⟨Aa4, ca4, rfl, hca, hra, hxa⟩; have RA4 := hide hra; have XA4 := hide hxa; clear hra hxa hca)
    | (refine wpList_catG rfl (.tmp 41) (.tmp 45) rfl BB z3 l3 (numN 2 (na : Int)) Aa4 2 ca4 rfl rfl (numN_length 2 _ (by decide)).symm (Op3.out.ext XA4.out) RA4.out (Nat.le_trans (Nat.le_trans HBW.out Yp3.out.size) XA4.out.size) (by rw [numN_length 2 _ (by decide)]; have := HLp3.out; omega) ?_; intro z4 m4 ho hb2 hs2; have Op4 := hide ho; have Yp4 : Hid (Below BB W2 m4) := hide ((Yp3.out.trans (Below.mono XA4.out (Nat.le_trans HBW.out Yp3.out.size))).trans hb2); have Xp4 : Hid (Ext w m4) := hide (XW2.out.below HB0.out Yp4.out); have Rp4 := hide (hs2 hb _ _ (by decide) (Rp3.out.ext XA4.out)); clear ho hb2 hs2))
  clear KA RA4 XA4
  clear Rp3 Op3
  clear c0 c1 c2 c3 c4 c5 c6 c7 c8 c9
  have c0 := Rp4.out.cell (i := 0) rfl
  have c1 := Rp4.out.cell (i := 1) rfl
  have c2 := Rp4.out.cell (i := 2) rfl
  have c3 := Rp4.out.cell (i := 3) rfl
  have c4 := Rp4.out.cell (i := 4) rfl
  have c5 := Rp4.out.cell (i := 5) rfl
  have c6 := Rp4.out.cell (i := 6) rfl
  have c7 := Rp4.out.cell (i := 7) rfl
  have c8 := Rp4.out.cell (i := 8) rfl
  have c9 := Rp4.out.cell (i := 9) rfl
  obtain ⟨l4, HEp4⟩ : ∃ l, Hid (l3 ++ numN 2 (na : Int) = l) := ⟨_, hide rfl⟩
  rw [HEp4.out] at Op4
  have HLp4 : Hid (l4.length ≤ 23) := hide (by rw [← HEp4.out, List.length_append, numN_length 2 _ (by decide)]; have := HLp3.out; omega)
  go_upto_region 10 with (refine wpList_catG rfl (.tmp 47) (.tmp 49) rfl BB z4 l4 bf A nb a rfl rfl HBN.out.symm Op4.out (HBF.out.ext Xp4.out) (Nat.le_trans HBW.out Yp4.out.size) (by rw [HBN.out]; have := HLp4.out; omega) ?_; intro z5 m5 ho hb2 hs2; have Op5 := hide ho; have Yp5 : Hid (Below BB W2 m5) := hide (Yp4.out.trans hb2); have Xp5 : Hid (Ext w m5) := hide (XW2.out.below HB0.out Yp5.out); have Rp5 := hide (hs2 hb _ _ (by decide) Rp4.out); clear ho hb2 hs2)
  clear Rp4 Op4
  clear c0 c1 c2 c3 c4 c5 c6 c7 c8 c9
  have c0 := Rp5.out.cell (i := 0) rfl
  have c1 := Rp5.out.cell (i := 1) rfl
  have c2 := Rp5.out.cell (i := 2) rfl
  have c3 := Rp5.out.cell (i := 3) rfl
  have c4 := Rp5.out.cell (i := 4) rfl
  have c5 := Rp5.out.cell (i := 5) rfl
  have c6 := Rp5.out.cell (i := 6) rfl
  have c7 := Rp5.out.cell (i := 7) rfl
  have c8 := Rp5.out.cell (i := 8) rfl
  have c9 := Rp5.out.cell (i := 9) rfl
  obtain ⟨l5, HEp5⟩ : ∃ l, Hid (l4 ++ bf = l) := ⟨_, hide rfl⟩
  rw [HEp5.out] at Op5
  have HLp5 : Hid (l5.length ≤ 535) := hide (by rw [← HEp5.out, List.length_append, HBN.out]; have := HBN.out; have := HLp4.out; omega)
  go_upto_region 11 with (refine wpList_catG rfl (.tmp 51) (.tmp 53) rfl BB z5 l5 af B na b' rfl rfl HAN.out.symm Op5.out (HAF.out.ext Xp5.out) (Nat.le_trans HBW.out Yp5.out.size) (by rw [HAN.out]; have := HLp5.out; omega) ?_; intro z6 m6 ho hb2 hs2; have Op6 := hide ho; have Yp6 : Hid (Below BB W2 m6) := hide (Yp5.out.trans hb2); have Xp6 : Hid (Ext w m6) := hide (XW2.out.below HB0.out Yp6.out); have Rp6 := hide (hs2 hb _ _ (by decide) Rp5.out); clear ho hb2 hs2)
  clear Rp5 Op5
  clear c0 c1 c2 c3 c4 c5 c6 c7 c8 c9
  have c0 := Rp6.out.cell (i := 0) rfl
  have c1 := Rp6.out.cell (i := 1) rfl
  have c2 := Rp6.out.cell (i := 2) rfl
  have c3 := Rp6.out.cell (i := 3) rfl
  have c4 := Rp6.out.cell (i := 4) rfl
  have c5 := Rp6.out.cell (i := 5) rfl
  have c6 := Rp6.out.cell (i := 6) rfl
  have c7 := Rp6.out.cell (i := 7) rfl
  have c8 := Rp6.out.cell (i := 8) rfl
  have c9 := Rp6.out.cell (i := 9) rfl
  obtain ⟨l6, HEp6⟩ : ∃ l, Hid (l5 ++ af = l) := ⟨_, hide rfl⟩
  rw [HEp6.out] at Op6
  have HLp6 : Hid (l6.length ≤ 1047) := hide (by rw [← HEp6.out, List.length_append, HAN.out]; have := HAN.out; have := HLp5.out; omega)
  have KA := hide (fun (W : World) => runum nx W HNX.out.1 HNX.out.2)
  go_upto_region 13 with (first
    | (go_at_call 24; (with_reducible refine (KA.out _).mono ?_); rintro e ma7 ⟨Aa7, ca7, rfl, hca, hra, hxa⟩; have RA7 := hide hra; have XA7 := hide hxa; clear hra hxa hca)
    | (refine wpList_catG rfl (.tmp 58) (.tmp 61) rfl BB z6 l6 (numN 8 nx) Aa7 8 ca7 rfl rfl (numN_length 8 _ (by decide)).symm (Op6.out.ext XA7.out) RA7.out (Nat.le_trans (Nat.le_trans HBW.out Yp6.out.size) XA7.out.size) (by rw [numN_length 8 _ (by decide)]; have := HLp6.out; omega) ?_; intro z7 m7 ho hb2 hs2; have Op7 := hide ho; have Yp7 : Hid (Below BB W2 m7) := hide ((Yp6.out.trans (Below.mono XA7.out (Nat.le_trans HBW.out Yp6.out.size))).trans hb2); have Xp7 : Hid (Ext w m7) := hide (XW2.out.below HB0.out Yp7.out); have Rp7 := hide (hs2 hb _ _ (by decide) (Rp6.out.ext XA7.out)); clear ho hb2 hs2))
  clear KA RA7 XA7
  clear Rp6 Op6
  clear c0 c1 c2 c3 c4 c5 c6 c7 c8 c9
  have c0 := Rp7.out.cell (i := 0) rfl
  have c1 := Rp7.out.cell (i := 1) rfl
  have c2 := Rp7.out.cell (i := 2) rfl
  have c3 := Rp7.out.cell (i := 3) rfl
  have c4 := Rp7.out.cell (i := 4) rfl
  have c5 := Rp7.out.cell (i := 5) rfl
  have c6 := Rp7.out.cell (i := 6) rfl
  have c7 := Rp7.out.cell (i := 7) rfl
  have c8 := Rp7.out.cell (i := 8) rfl
  have c9 := Rp7.out.cell (i := 9) rfl
  obtain ⟨l7, HEp7⟩ : ∃ l, Hid (l6 ++ numN 8 nx = l) := ⟨_, hide rfl⟩
  rw [HEp7.out] at Op7
  have HLp7 : Hid (l7.length ≤ 1055) := hide (by rw [← HEp7.out, List.length_append, numN_length 8 _ (by decide)]; have := HLp6.out; omega)
  have HREC : Hid (recB 3 tx pv pg off nx bf af L op = l7) := hide (by
    rw [← HEp7.out, ← HEp6.out, ← HEp5.out, ← HEp4.out, ← HEp3.out, ← HEp2.out, ← HEp1.out, ← HEp0.out]
    simp [recB, hpv, hch, hnx, hck, HAN.out])
  obtain ⟨AZ, cz, hvz, hcz, hrz⟩ := Op7.out.bytes
  subst hvz
  obtain ⟨nz, HNZ⟩ : ∃ n, Hid (l7.length = n) := ⟨_, hide rfl⟩
  rw [HNZ.out] at Op7 ⊢
  have KS := hide (show Calls Tryd.prog 26 #[.slice AZ nz cz] m7 _ from HNZ.out ▸ rsum_any AZ cz l7 m7 hrz (by have := HLp7.out; omega))
  clear hcz hrz
  obtain ⟨cr, HCR⟩ : ∃ n, Hid (crc l7 = n) := ⟨_, hide rfl⟩
  rw [HCR.out] at KS
  have hcr0 : (0 : Int) ≤ (cr : Int) := by omega
  have hcr1 : (cr : Int) < 4294967296 := by rw [← HCR.out]; unfold crc; omega
  have KU := hide (fun (W : World) => runum (cr : Int) W hcr0 (by omega))
  have HSB : Hid (sumB l7 = (numN 8 (cr : Int)).drop 4) := hide (by unfold sumB; rw [HCR.out]; rfl)
  go_upto_region 24 with (first
    | (go_at_call 26; (with_reducible refine KS.out.mono ?_); rintro e ws ⟨vs, rfl, hxs, rfl⟩; have XS := hide hxs; clear hxs)
    | (go_at_call 24; (with_reducible refine (KU.out _).mono ?_); rintro e wu ⟨Au, cu, rfl, hcu, hru, hxu⟩; have XU := hide (XS.out.trans hxu); have RU := hide hru; have HCU := hide hcu; clear hxu hru hcu))
  have h4c : 4 ≤ cu := by have := HCU.out; omega
  obtain ⟨bu, ou, hAu, -⟩ := RU.out (by intro h; have := congrArg List.length h; rw [numN_length 8 _ (by decide)] at this; cases this)
  subst hAu
  have RD := hide (RU.out.drop 4)
  rw [← HSB.out] at RD
  have RE : Hid (Rd wu (some ⟨bu, ou + 4, none⟩) (sumB l7)) := RD
  have h8c : 8 ≤ cu := HCU.out
  have h8n : ¬ cu < 8 := by omega
  clear RD RU KU KS
  go_wp2_with (go_loud (refine wpList_catG rfl (.tmp 108) (.tmp 110) rfl BB (.slice AZ nz cz) l7 (sumB l7) (some ⟨bu, ou + 4, none⟩) 4 _ rfl rfl (numN_length 4 _ (by decide)).symm (Op7.out.ext XU.out) RE.out (Nat.le_trans (Nat.le_trans HBW.out Yp7.out.size) XU.out.size) (by rw [show (sumB l7).length = 4 from numN_length 4 _ (by decide)]; have := HLp7.out; omega) ?_; intro vf wf ho hb2 hs2))
  go_ret
  refine ⟨vf, rfl, ?_, XW2.out.below HB0.out ((Yp7.out.trans (Below.mono XU.out (Nat.le_trans HBW.out Yp7.out.size))).trans hb2)⟩
  rw [fullB, HREC.out]
  exact own_mono ho HB0.out
end Go.Proofs.YtkbmcebdhiiffaaDoor
