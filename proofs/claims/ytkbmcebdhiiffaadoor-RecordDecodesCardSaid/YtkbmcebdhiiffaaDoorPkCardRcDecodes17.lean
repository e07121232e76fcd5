/-
  The document's Encode of records, kind 4.
  The document's Encode of records, kind 5.
  The document's Encode of records, kind 6.
  The document's Encode of records.
-/
import Derived.Test.YtkbmcebdhiiffaaDoorPkCardRcDecodes1
import Derived.Test.YtkbmcebdhiiffaaDoorPkCardRcDecodes4
import Derived.Test.YtkbmcebdhiiffaaDoorPkCardRcDecodes16
set_option linter.unusedVariables false
set_option linter.unusedSimpArgs false

namespace Go.Proofs.YtkbmcebdhiiffaaDoor
open Go.RowKit

set_option maxRecDepth 20000 in
set_option maxHeartbeats 6400000 in
theorem rencode_4 (tx pv pg off nx : Int) (A B D : Option Addr) (nb a na b' nd d : Nat) (op : Bool) (w : World) (bf af : List UInt8) (L : List (Int × Int)) (ht : Tab w) (hb0 : Rd w A bf) (ha0 : Rd w B af) (hr : RdD w D L) (hbn : bf.length = nb) (han : af.length = na) (hn : L.length = nd) (hnd : nd ≤ 140737488351232) (hna : na ≤ 140737488351232) (hnb : nb ≤ 140737488351232) (ho : -9223372036854775808 ≤ off) (ho2 : off < 9223372036854775808) (htx0 : 0 ≤ tx) (htx : tx < 18446744073709551616) (hpv0 : 0 ≤ pv) (hpv1 : pv < 18446744073709551616) (hnx0 : 0 ≤ nx) (hnx1 : nx < 18446744073709551616) (hdl : ∀ e ∈ L, 0 ≤ e.2 ∧ e.2 < 18446744073709551616) (hf : formN 4 pv pg off nx na nb nd L op = true) :
    Calls Tryd.prog 13 #[.agg #[.int .u8 4, .int .u64 tx, .int .u64 pv, .int .i64 pg, .int .i64 off, .slice A nb a, .slice B na b', .int .u64 nx, .slice D nd d, .bool op]] w (fun e w' => ∃ v', e = .returned v' ∧ Own w' w.heap.size v' (fullB 4 tx pv pg off nx bf af L op) ∧ Ext w w') := by
  have HT := hide ht
  have HBF := hide hb0
  have HAF := hide ha0
  have HD := hide hr
  have HBN := hide hbn
  have HAN := hide han
  have HN := hide hn
  have HTX := hide (And.intro htx0 htx)
  have HPV := hide (And.intro hpv0 hpv1)
  have HNX := hide (And.intro hnx0 hnx1)
  clear ht hb0 ha0 hr hbn han hn htx0 htx hpv0 hpv1 hnx0 hnx1 hdl hf ho ho2
  go_enter Tryd.func13, Tryd.ntmps13
  go_upto_region 1 with fail
  obtain ⟨W1, hX1, hR1, hg⟩ : ∃ W1, Ext w W1 ∧ Rw W1 w.heap.size 26 [.int .u8 4, .int .u64 tx, .int .u64 pv, .int .i64 pg, .int .i64 off, .slice A nb a, .slice B na b', .int .u64 nx, .slice D nd d, .bool op] ∧ w.alloc (.cells #[.int .u8 4, .int .u64 tx, .int .u64 pv, .int .i64 pg, .int .i64 off, .slice A nb a, .slice B na b', .int .u64 nx, .slice D nd d, .bool op] 26) = W1 := ⟨_, Ext.alloc _ _, Rw.new _ _ _, rfl⟩
  rw [hg]
  obtain ⟨hb, HHB⟩ : ∃ hb, Hid (w.heap.size = hb) := ⟨_, hide rfl⟩
  rw [HHB.out] at hR1 ⊢
  have X1 := hide hX1
  have R1 := hide hR1
  have c0 := hR1.cell (i := 0) rfl
  clear hg hX1 hR1
  obtain ⟨BB, HBB⟩ : ∃ BB, Hid (W1.heap.size = BB) := ⟨_, hide rfl⟩
  go_upto_region 2 with fail
  obtain ⟨W2, hX2, hO2, hg⟩ : ∃ W, Ext W1 W ∧ Own W BB (.slice (some ⟨BB, 0, none⟩) 1 1) (numN 1 4) ∧ W1.alloc (.cells #[.int .u8 4] 5) = W := ⟨_, Ext.alloc _ _, by rw [← HBB.out]; exact own_one W1 _ (Nat.le_refl _) 4 (by decide) (by decide), rfl⟩
  rw [hg, HBB.out]
  have XW2 := hide (X1.out.trans hX2)
  have R2 := hide (R1.out.ext hX2)
  have O2 := hide hO2
  have X2 := XW2
  have HB0 : Hid (w.heap.size ≤ BB) := hide (by rw [← HBB.out]; exact X1.out.size)
  have Y2 : Hid (Below BB W2 W2) := hide (Below.refl _ _)
  have HBW : Hid (BB ≤ W2.heap.size) := hide (by rw [← HBB.out]; exact hX2.size)
  have HL2 : Hid ((numN 1 4).length ≤ 1) := hide (by rw [numN_length 1 _ (by decide)]; exact Nat.le_refl _)
  clear hg hX2 hO2 X1 R1 c0
  have c0 := R2.out.cell (i := 0) rfl
  have c1 := R2.out.cell (i := 1) rfl
  have c2 := R2.out.cell (i := 2) rfl
  have c3 := R2.out.cell (i := 3) rfl
  have c4 := R2.out.cell (i := 4) rfl
  have c5 := R2.out.cell (i := 5) rfl
  have c6 := R2.out.cell (i := 6) rfl
  have c7 := R2.out.cell (i := 7) rfl
  have c8 := R2.out.cell (i := 8) rfl
  have c9 := R2.out.cell (i := 9) rfl
  have KA := hide (fun (W : World) => runum tx W HTX.out.1 HTX.out.2)
  go_upto_region 3 with (first
    | (go_at_call 24; (with_reducible refine (KA.out _).mono ?_); rintro e ma0 ⟨Aa0, ca0, rfl, hca, hra, hxa⟩; have RA0 := hide hra; have XA0 := hide hxa; clear hra hxa hca)
    | (refine wpList_catG rfl (.tmp 10) (.tmp 13) rfl BB (.slice (some ⟨BB, 0, none⟩) 1 1) (numN 1 4) (numN 8 tx) Aa0 8 ca0 rfl rfl (numN_length 8 _ (by decide)).symm (O2.out.ext XA0.out) RA0.out (Nat.le_trans (Nat.le_trans HBW.out Y2.out.size) XA0.out.size) (by rw [numN_length 8 _ (by decide)]; have := HL2.out; omega) ?_; intro z0 m0 ho hb2 hs2; have Op0 := hide ho; have Yp0 : Hid (Below BB W2 m0) := hide ((Y2.out.trans (Below.mono XA0.out (Nat.le_trans HBW.out Y2.out.size))).trans hb2); have Xp0 : Hid (Ext w m0) := hide (XW2.out.below HB0.out Yp0.out); have Rp0 := hide (hs2 hb _ _ (by decide) (R2.out.ext XA0.out)); clear ho hb2 hs2))
  clear KA RA0 XA0
  clear R2 O2
  clear c0 c1 c2 c3 c4 c5 c6 c7 c8 c9
  have c0 := Rp0.out.cell (i := 0) rfl
  have c1 := Rp0.out.cell (i := 1) rfl
  have c2 := Rp0.out.cell (i := 2) rfl
  have c3 := Rp0.out.cell (i := 3) rfl
  have c4 := Rp0.out.cell (i := 4) rfl
  have c5 := Rp0.out.cell (i := 5) rfl
  have c6 := Rp0.out.cell (i := 6) rfl
  have c7 := Rp0.out.cell (i := 7) rfl
  have c8 := Rp0.out.cell (i := 8) rfl
  have c9 := Rp0.out.cell (i := 9) rfl
  obtain ⟨l0, HEp0⟩ : ∃ l, Hid ((numN 1 4) ++ numN 8 tx = l) := ⟨_, hide rfl⟩
  rw [HEp0.out] at Op0
  have HLp0 : Hid (l0.length ≤ 9) := hide (by rw [← HEp0.out, List.length_append, numN_length 8 _ (by decide)]; have := HL2.out; omega)
  have KA := hide (fun (W : World) => runum pv W HPV.out.1 HPV.out.2)
  go_upto_region 5 with (first
    | (go_at_call 24; (with_reducible refine (KA.out _).mono ?_); rintro e ma1 ⟨Aa1, ca1, rfl, hca, hra, hxa⟩; have RA1 := hide hra; have XA1 := hide hxa; clear hra hxa hca)
    | (refine wpList_catG rfl (.tmp 18) (.tmp 21) rfl BB z0 l0 (numN 8 pv) Aa1 8 ca1 rfl rfl (numN_length 8 _ (by decide)).symm (Op0.out.ext XA1.out) RA1.out (Nat.le_trans (Nat.le_trans HBW.out Yp0.out.size) XA1.out.size) (by rw [numN_length 8 _ (by decide)]; have := HLp0.out; omega) ?_; intro z1 m1 ho hb2 hs2; have Op1 := hide ho; have Yp1 : Hid (Below BB W2 m1) := hide ((Yp0.out.trans (Below.mono XA1.out (Nat.le_trans HBW.out Yp0.out.size))).trans hb2); have Xp1 : Hid (Ext w m1) := hide (XW2.out.below HB0.out Yp1.out); have Rp1 := hide (hs2 hb _ _ (by decide) (Rp0.out.ext XA1.out)); clear ho hb2 hs2))
  clear KA RA1 XA1
  clear Rp0 Op0
  clear c0 c1 c2 c3 c4 c5 c6 c7 c8 c9
  have c0 := Rp1.out.cell (i := 0) rfl
  have c1 := Rp1.out.cell (i := 1) rfl
  have c2 := Rp1.out.cell (i := 2) rfl
  have c3 := Rp1.out.cell (i := 3) rfl
  have c4 := Rp1.out.cell (i := 4) rfl
  have c5 := Rp1.out.cell (i := 5) rfl
  have c6 := Rp1.out.cell (i := 6) rfl
  have c7 := Rp1.out.cell (i := 7) rfl
  have c8 := Rp1.out.cell (i := 8) rfl
  have c9 := Rp1.out.cell (i := 9) rfl
  obtain ⟨l1, HEp1⟩ : ∃ l, Hid (l0 ++ numN 8 pv = l) := ⟨_, hide rfl⟩
  rw [HEp1.out] at Op1
  have HLp1 : Hid (l1.length ≤ 17) := hide (by rw [← HEp1.out, List.length_append, numN_length 8 _ (by decide)]; have := HLp0.out; omega)
  have HREC : Hid (recB 4 tx pv pg off nx bf af L op = l1) := hide (by
    rw [← HEp1.out, ← HEp0.out]
    simp [recB, hpv, hch, hnx, hck])
  obtain ⟨AZ, cz, hvz, hcz, hrz⟩ := Op1.out.bytes
  subst hvz
  obtain ⟨nz, HNZ⟩ : ∃ n, Hid (l1.length = n) := ⟨_, hide rfl⟩
  rw [HNZ.out] at Op1 ⊢
  have KS := hide (show Calls Tryd.prog 26 #[.slice AZ nz cz] m1 _ from HNZ.out ▸ rsum_any AZ cz l1 m1 hrz (by have := HLp1.out; omega))
  clear hcz hrz
  obtain ⟨cr, HCR⟩ : ∃ n, Hid (crc l1 = n) := ⟨_, hide rfl⟩
  rw [HCR.out] at KS
  have hcr0 : (0 : Int) ≤ (cr : Int) := by omega
  have hcr1 : (cr : Int) < 4294967296 := by rw [← HCR.out]; unfold crc; omega
  have KU := hide (fun (W : World) => runum (cr : Int) W hcr0 (by omega))
  have HSB : Hid (sumB l1 = (numN 8 (cr : Int)).drop 4) := hide (by unfold sumB; rw [HCR.out]; rfl)
  go_upto_region 24 with (first
    | (go_at_call 26; (with_reducible refine KS.out.mono ?_); rintro e ws ⟨vs, rfl, hxs, rfl⟩; have XS := hide hxs; clear hxs)
    | (go_at_call 24; (with_reducible refine (KU.out _).mono ?_); rintro e wu ⟨Au, cu, rfl, hcu, hru, hxu⟩; have XU := hide (XS.out.trans hxu); have RU := hide hru; have HCU := hide hcu; clear hxu hru hcu))
  have h4c : 4 ≤ cu := by have := HCU.out; omega
  obtain ⟨bu, ou, hAu, -⟩ := RU.out (by intro h; have := congrArg List.length h; rw [numN_length 8 _ (by decide)] at this; cases this)
  subst hAu
  have RD := hide (RU.out.drop 4)
  rw [← HSB.out] at RD
  have RE : Hid (Rd wu (some ⟨bu, ou + 4, none⟩) (sumB l1)) := RD
  have h8c : 8 ≤ cu := HCU.out
  have h8n : ¬ cu < 8 := by omega
  clear RD RU KU KS
  go_wp2_with (go_loud (refine wpList_catG rfl (.tmp 108) (.tmp 110) rfl BB (.slice AZ nz cz) l1 (sumB l1) (some ⟨bu, ou + 4, none⟩) 4 _ rfl rfl (numN_length 4 _ (by decide)).symm (Op1.out.ext XU.out) RE.out (Nat.le_trans (Nat.le_trans HBW.out Yp1.out.size) XU.out.size) (by rw [show (sumB l1).length = 4 from numN_length 4 _ (by decide)]; have := HLp1.out; omega) ?_; intro vf wf ho hb2 hs2))
  go_ret
  refine ⟨vf, rfl, ?_, XW2.out.below HB0.out ((Yp1.out.trans (Below.mono XU.out (Nat.le_trans HBW.out Yp1.out.size))).trans hb2)⟩
  rw [fullB, HREC.out]
  exact own_mono ho HB0.out
end Go.Proofs.YtkbmcebdhiiffaaDoor
namespace Go.Proofs.YtkbmcebdhiiffaaDoor
open Go.RowKit

set_option maxRecDepth 20000 in
set_option maxHeartbeats 6400000 in
theorem rencode_5 (tx pv pg off nx : Int) (A B D : Option Addr) (nb a na b' nd d : Nat) (op : Bool) (w : World) (bf af : List UInt8) (L : List (Int × Int)) (ht : Tab w) (hb0 : Rd w A bf) (ha0 : Rd w B af) (hr : RdD w D L) (hbn : bf.length = nb) (han : af.length = na) (hn : L.length = nd) (hnd : nd ≤ 140737488351232) (hna : na ≤ 140737488351232) (hnb : nb ≤ 140737488351232) (ho : -9223372036854775808 ≤ off) (ho2 : off < 9223372036854775808) (htx0 : 0 ≤ tx) (htx : tx < 18446744073709551616) (hpv0 : 0 ≤ pv) (hpv1 : pv < 18446744073709551616) (hnx0 : 0 ≤ nx) (hnx1 : nx < 18446744073709551616) (hdl : ∀ e ∈ L, 0 ≤ e.2 ∧ e.2 < 18446744073709551616) (hf : formN 5 pv pg off nx na nb nd L op = true) :
    Calls Tryd.prog 13 #[.agg #[.int .u8 5, .int .u64 tx, .int .u64 pv, .int .i64 pg, .int .i64 off, .slice A nb a, .slice B na b', .int .u64 nx, .slice D nd d, .bool op]] w (fun e w' => ∃ v', e = .returned v' ∧ Own w' w.heap.size v' (fullB 5 tx pv pg off nx bf af L op) ∧ Ext w w') := by
  have HT := hide ht
  have HBF := hide hb0
  have HAF := hide ha0
  have HD := hide hr
  have HBN := hide hbn
  have HAN := hide han
  have HN := hide hn
  have HTX := hide (And.intro htx0 htx)
  have HPV := hide (And.intro hpv0 hpv1)
  have HNX := hide (And.intro hnx0 hnx1)
  clear ht hb0 ha0 hr hbn han hn htx0 htx hpv0 hpv1 hnx0 hnx1 hdl hf ho ho2
  go_enter Tryd.func13, Tryd.ntmps13
  go_upto_region 1 with fail
  obtain ⟨W1, hX1, hR1, hg⟩ : ∃ W1, Ext w W1 ∧ Rw W1 w.heap.size 26 [.int .u8 5, .int .u64 tx, .int .u64 pv, .int .i64 pg, .int .i64 off, .slice A nb a, .slice B na b', .int .u64 nx, .slice D nd d, .bool op] ∧ w.alloc (.cells #[.int .u8 5, .int .u64 tx, .int .u64 pv, .int .i64 pg, .int .i64 off, .slice A nb a, .slice B na b', .int .u64 nx, .slice D nd d, .bool op] 26) = W1 := ⟨_, Ext.alloc _ _, Rw.new _ _ _, rfl⟩
  rw [hg]
  obtain ⟨hb, HHB⟩ : ∃ hb, Hid (w.heap.size = hb) := ⟨_, hide rfl⟩
  rw [HHB.out] at hR1 ⊢
  have X1 := hide hX1
  have R1 := hide hR1
  have c0 := hR1.cell (i := 0) rfl
  clear hg hX1 hR1
  obtain ⟨BB, HBB⟩ : ∃ BB, Hid (W1.heap.size = BB) := ⟨_, hide rfl⟩
  go_upto_region 2 with fail
  obtain ⟨W2, hX2, hO2, hg⟩ : ∃ W, Ext W1 W ∧ Own W BB (.slice (some ⟨BB, 0, none⟩) 1 1) (numN 1 5) ∧ W1.alloc (.cells #[.int .u8 5] 5) = W := ⟨_, Ext.alloc _ _, by rw [← HBB.out]; exact own_one W1 _ (Nat.le_refl _) 5 (by decide) (by decide), rfl⟩
  rw [hg, HBB.out]
  have XW2 := hide (X1.out.trans hX2)
  have R2 := hide (R1.out.ext hX2)
  have O2 := hide hO2
  have X2 := XW2
  have HB0 : Hid (w.heap.size ≤ BB) := hide (by rw [← HBB.out]; exact X1.out.size)
  have Y2 : Hid (Below BB W2 W2) := hide (Below.refl _ _)
  have HBW : Hid (BB ≤ W2.heap.size) := hide (by rw [← HBB.out]; exact hX2.size)
  have HL2 : Hid ((numN 1 5).length ≤ 1) := hide (by rw [numN_length 1 _ (by decide)]; exact Nat.le_refl _)
  clear hg hX2 hO2 X1 R1 c0
  have c0 := R2.out.cell (i := 0) rfl
  have c1 := R2.out.cell (i := 1) rfl
  have c2 := R2.out.cell (i := 2) rfl
  have c3 := R2.out.cell (i := 3) rfl
  have c4 := R2.out.cell (i := 4) rfl
  have c5 := R2.out.cell (i := 5) rfl
  have c6 := R2.out.cell (i := 6) rfl
  have c7 := R2.out.cell (i := 7) rfl
  have c8 := R2.out.cell (i := 8) rfl
  have c9 := R2.out.cell (i := 9) rfl
  have KA := hide (fun (W : World) => runum tx W HTX.out.1 HTX.out.2)
  go_upto_region 3 with (first
    | (go_at_call 24; (with_reducible refine (KA.out _).mono ?_); rintro e ma0 ⟨Aa0, ca0, rfl, hca, hra, hxa⟩; have RA0 := hide hra; have XA0 := hide hxa; clear hra hxa hca)
    | (refine wpList_catG rfl (.tmp 10) (.tmp 13) rfl BB (.slice (some ⟨BB, 0, none⟩) 1 1) (numN 1 5) (numN 8 tx) Aa0 8 ca0 rfl rfl (numN_length 8 _ (by decide)).symm (O2.out.ext XA0.out) RA0.out (Nat.le_trans (Nat.le_trans HBW.out Y2.out.size) XA0.out.size) (by rw [numN_length 8 _ (by decide)]; have := HL2.out; omega) ?_; intro z0 m0 ho hb2 hs2; have Op0 := hide ho; have Yp0 : Hid (Below BB W2 m0) := hide ((Y2.out.trans (Below.mono XA0.out (Nat.le_trans HBW.out Y2.out.size))).trans hb2); have Xp0 : Hid (Ext w m0) := hide (XW2.out.below HB0.out Yp0.out); have Rp0 := hide (hs2 hb _ _ (by decide) (R2.out.ext XA0.out)); clear ho hb2 hs2))
  clear KA RA0 XA0
  clear R2 O2
  clear c0 c1 c2 c3 c4 c5 c6 c7 c8 c9
  have c0 := Rp0.out.cell (i := 0) rfl
  have c1 := Rp0.out.cell (i := 1) rfl
  have c2 := Rp0.out.cell (i := 2) rfl
  have c3 := Rp0.out.cell (i := 3) rfl
  have c4 := Rp0.out.cell (i := 4) rfl
  have c5 := Rp0.out.cell (i := 5) rfl
  have c6 := Rp0.out.cell (i := 6) rfl
  have c7 := Rp0.out.cell (i := 7) rfl
  have c8 := Rp0.out.cell (i := 8) rfl
  have c9 := Rp0.out.cell (i := 9) rfl
  obtain ⟨l0, HEp0⟩ : ∃ l, Hid ((numN 1 5) ++ numN 8 tx = l) := ⟨_, hide rfl⟩
  rw [HEp0.out] at Op0
  have HLp0 : Hid (l0.length ≤ 9) := hide (by rw [← HEp0.out, List.length_append, numN_length 8 _ (by decide)]; have := HL2.out; omega)
  have KA := hide (fun (W : World) => runum pv W HPV.out.1 HPV.out.2)
  go_upto_region 5 with (first
    | (go_at_call 24; (with_reducible refine (KA.out _).mono ?_); rintro e ma1 ⟨Aa1, ca1, rfl, hca, hra, hxa⟩; have RA1 := hide hra; have XA1 := hide hxa; clear hra hxa hca)
    | (refine wpList_catG rfl (.tmp 18) (.tmp 21) rfl BB z0 l0 (numN 8 pv) Aa1 8 ca1 rfl rfl (numN_length 8 _ (by decide)).symm (Op0.out.ext XA1.out) RA1.out (Nat.le_trans (Nat.le_trans HBW.out Yp0.out.size) XA1.out.size) (by rw [numN_length 8 _ (by decide)]; have := HLp0.out; omega) ?_; intro z1 m1 ho hb2 hs2; have Op1 := hide ho; have Yp1 : Hid (Below BB W2 m1) := hide ((Yp0.out.trans (Below.mono XA1.out (Nat.le_trans HBW.out Yp0.out.size))).trans hb2); have Xp1 : Hid (Ext w m1) := hide (XW2.out.below HB0.out Yp1.out); have Rp1 := hide (hs2 hb _ _ (by decide) (Rp0.out.ext XA1.out)); clear ho hb2 hs2))
  clear KA RA1 XA1
  clear Rp0 Op0
  clear c0 c1 c2 c3 c4 c5 c6 c7 c8 c9
  have c0 := Rp1.out.cell (i := 0) rfl
  have c1 := Rp1.out.cell (i := 1) rfl
  have c2 := Rp1.out.cell (i := 2) rfl
  have c3 := Rp1.out.cell (i := 3) rfl
  have c4 := Rp1.out.cell (i := 4) rfl
  have c5 := Rp1.out.cell (i := 5) rfl
  have c6 := Rp1.out.cell (i := 6) rfl
  have c7 := Rp1.out.cell (i := 7) rfl
  have c8 := Rp1.out.cell (i := 8) rfl
  have c9 := Rp1.out.cell (i := 9) rfl
  obtain ⟨l1, HEp1⟩ : ∃ l, Hid (l0 ++ numN 8 pv = l) := ⟨_, hide rfl⟩
  rw [HEp1.out] at Op1
  have HLp1 : Hid (l1.length ≤ 17) := hide (by rw [← HEp1.out, List.length_append, numN_length 8 _ (by decide)]; have := HLp0.out; omega)
  have HREC : Hid (recB 5 tx pv pg off nx bf af L op = l1) := hide (by
    rw [← HEp1.out, ← HEp0.out]
    simp [recB, hpv, hch, hnx, hck])
  obtain ⟨AZ, cz, hvz, hcz, hrz⟩ := Op1.out.bytes
  subst hvz
  obtain ⟨nz, HNZ⟩ : ∃ n, Hid (l1.length = n) := ⟨_, hide rfl⟩
  rw [HNZ.out] at Op1 ⊢
  have KS := hide (show Calls Tryd.prog 26 #[.slice AZ nz cz] m1 _ from HNZ.out ▸ rsum_any AZ cz l1 m1 hrz (by have := HLp1.out; omega))
  clear hcz hrz
  obtain ⟨cr, HCR⟩ : ∃ n, Hid (crc l1 = n) := ⟨_, hide rfl⟩
  rw [HCR.out] at KS
  have hcr0 : (0 : Int) ≤ (cr : Int) := by omega
  have hcr1 : (cr : Int) < 4294967296 := by rw [← HCR.out]; unfold crc; omega
  have KU := hide (fun (W : World) => runum (cr : Int) W hcr0 (by omega))
  have HSB : Hid (sumB l1 = (numN 8 (cr : Int)).drop 4) := hide (by unfold sumB; rw [HCR.out]; rfl)
  go_upto_region 24 with (first
    | (go_at_call 26; (with_reducible refine KS.out.mono ?_); rintro e ws ⟨vs, rfl, hxs, rfl⟩; have XS := hide hxs; clear hxs)
    | (go_at_call 24; (with_reducible refine (KU.out _).mono ?_); rintro e wu ⟨Au, cu, rfl, hcu, hru, hxu⟩; have XU := hide (XS.out.trans hxu); have RU := hide hru; have HCU := hide hcu; clear hxu hru hcu))
  have h4c : 4 ≤ cu := by have := HCU.out; omega
  obtain ⟨bu, ou, hAu, -⟩ := RU.out (by intro h; have := congrArg List.length h; rw [numN_length 8 _ (by decide)] at this; cases this)
  subst hAu
  have RD := hide (RU.out.drop 4)
  rw [← HSB.out] at RD
  have RE : Hid (Rd wu (some ⟨bu, ou + 4, none⟩) (sumB l1)) := RD
  have h8c : 8 ≤ cu := HCU.out
  have h8n : ¬ cu < 8 := by omega
  clear RD RU KU KS
  go_wp2_with (go_loud (refine wpList_catG rfl (.tmp 108) (.tmp 110) rfl BB (.slice AZ nz cz) l1 (sumB l1) (some ⟨bu, ou + 4, none⟩) 4 _ rfl rfl (numN_length 4 _ (by decide)).symm (Op1.out.ext XU.out) RE.out (Nat.le_trans (Nat.le_trans HBW.out Yp1.out.size) XU.out.size) (by rw [show (sumB l1).length = 4 from numN_length 4 _ (by decide)]; have := HLp1.out; omega) ?_; intro vf wf ho hb2 hs2))
  go_ret
  refine ⟨vf, rfl, ?_, XW2.out.below HB0.out ((Yp1.out.trans (Below.mono XU.out (Nat.le_trans HBW.out Yp1.out.size))).trans hb2)⟩
  rw [fullB, HREC.out]
  exact own_mono ho HB0.out
end Go.Proofs.YtkbmcebdhiiffaaDoor
namespace Go.Proofs.YtkbmcebdhiiffaaDoor
open Go.RowKit

set_option maxRecDepth 20000 in
set_option maxHeartbeats 6400000 in
theorem rencode_6 (tx pv pg off nx : Int) (A B D : Option Addr) (nb a na b' nd d : Nat) (op : Bool) (w : World) (bf af : List UInt8) (L : List (Int × Int)) (ht : Tab w) (hb0 : Rd w A bf) (ha0 : Rd w B af) (hr : RdD w D L) (hbn : bf.length = nb) (han : af.length = na) (hn : L.length = nd) (hnd : nd ≤ 140737488351232) (hna : na ≤ 140737488351232) (hnb : nb ≤ 140737488351232) (ho : -9223372036854775808 ≤ off) (ho2 : off < 9223372036854775808) (htx0 : 0 ≤ tx) (htx : tx < 18446744073709551616) (hpv0 : 0 ≤ pv) (hpv1 : pv < 18446744073709551616) (hnx0 : 0 ≤ nx) (hnx1 : nx < 18446744073709551616) (hdl : ∀ e ∈ L, 0 ≤ e.2 ∧ e.2 < 18446744073709551616) (hf : formN 6 pv pg off nx na nb nd L op = true) :
    Calls Tryd.prog 13 #[.agg #[.int .u8 6, .int .u64 tx, .int .u64 pv, .int .i64 pg, .int .i64 off, .slice A nb a, .slice B na b', .int .u64 nx, .slice D nd d, .bool op]] w (fun e w' => ∃ v', e = .returned v' ∧ Own w' w.heap.size v' (fullB 6 tx pv pg off nx bf af L op) ∧ Ext w w') := by
  obtain ⟨hnd64, hris⟩ : nd ≤ 64 ∧ risB (-1) L = true := by
    simp [formN, hok, hpv, hch, hbf, hnx, hck, chgN, chkN] at hf
    exact ⟨hf.2.2.1, hf.2.2.2⟩
  have HLL := hide (fun (e : Int × Int) (he : e ∈ L) => (show (0 ≤ e.1 ∧ e.1 < 4096) ∧ 0 ≤ e.2 ∧ e.2 < 18446744073709551616 from ⟨risB_mem L (-1) (Int.le_refl _) hris e he, hdl e he⟩))
  clear hris
  have HT := hide ht
  have HBF := hide hb0
  have HAF := hide ha0
  have HD := hide hr
  have HBN := hide hbn
  have HAN := hide han
  have HN := hide hn
  have HTX := hide (And.intro htx0 htx)
  have HPV := hide (And.intro hpv0 hpv1)
  have HNX := hide (And.intro hnx0 hnx1)
  clear ht hb0 ha0 hr hbn han hn htx0 htx hpv0 hpv1 hnx0 hnx1 hdl hf ho ho2
  go_enter Tryd.func13, Tryd.ntmps13
  go_upto_region 1 with fail
  obtain ⟨W1, hX1, hR1, hg⟩ : ∃ W1, Ext w W1 ∧ Rw W1 w.heap.size 26 [.int .u8 6, .int .u64 tx, .int .u64 pv, .int .i64 pg, .int .i64 off, .slice A nb a, .slice B na b', .int .u64 nx, .slice D nd d, .bool op] ∧ w.alloc (.cells #[.int .u8 6, .int .u64 tx, .int .u64 pv, .int .i64 pg, .int .i64 off, .slice A nb a, .slice B na b', .int .u64 nx, .slice D nd d, .bool op] 26) = W1 := ⟨_, Ext.alloc _ _, Rw.new _ _ _, rfl⟩
  rw [hg]
  obtain ⟨hb, HHB⟩ : ∃ hb, Hid (w.heap.size = hb) := ⟨_, hide rfl⟩
  rw [HHB.out] at hR1 ⊢
  have X1 := hide hX1
  have R1 := hide hR1
  have c0 := hR1.cell (i := 0) rfl
  clear hg hX1 hR1
  obtain ⟨BB, HBB⟩ : ∃ BB, Hid (W1.heap.size = BB) := ⟨_, hide rfl⟩
  go_upto_region 2 with fail
  obtain ⟨W2, hX2, hO2, hg⟩ : ∃ W, Ext W1 W ∧ Own W BB (.slice (some ⟨BB, 0, none⟩) 1 1) (numN 1 6) ∧ W1.alloc (.cells #[.int .u8 6] 5) = W := ⟨_, Ext.alloc _ _, by rw [← HBB.out]; exact own_one W1 _ (Nat.le_refl _) 6 (by decide) (by decide), rfl⟩
  rw [hg, HBB.out]
  have XW2 := hide (X1.out.trans hX2)
  have R2 := hide (R1.out.ext hX2)
  have O2 := hide hO2
  have X2 := XW2
  have HB0 : Hid (w.heap.size ≤ BB) := hide (by rw [← HBB.out]; exact X1.out.size)
  have Y2 : Hid (Below BB W2 W2) := hide (Below.refl _ _)
  have HBW : Hid (BB ≤ W2.heap.size) := hide (by rw [← HBB.out]; exact hX2.size)
  have HL2 : Hid ((numN 1 6).length ≤ 1) := hide (by rw [numN_length 1 _ (by decide)]; exact Nat.le_refl _)
  clear hg hX2 hO2 X1 R1 c0
  have c0 := R2.out.cell (i := 0) rfl
  have c1 := R2.out.cell (i := 1) rfl
  have c2 := R2.out.cell (i := 2) rfl
  have c3 := R2.out.cell (i := 3) rfl
  have c4 := R2.out.cell (i := 4) rfl
  have c5 := R2.out.cell (i := 5) rfl
  have c6 := R2.out.cell (i := 6) rfl
  have c7 := R2.out.cell (i := 7) rfl
  have c8 := R2.out.cell (i := 8) rfl
  have c9 := R2.out.cell (i := 9) rfl
  have KA := hide (fun (W : World) => runum tx W HTX.out.1 HTX.out.2)
  go_upto_region 3 with (first
    | (go_at_call 24; (with_reducible refine (KA.out _).mono ?_); rintro e ma0 ⟨Aa0, ca0, rfl, hca, hra, hxa⟩; have RA0 := hide hra; have XA0 := hide hxa; clear hra hxa hca)
    | (refine wpList_catG rfl (.tmp 10) (.tmp 13) rfl BB (.slice (some ⟨BB, 0, none⟩) 1 1) (numN 1 6) (numN 8 tx) Aa0 8 ca0 rfl rfl (numN_length 8 _ (by decide)).symm (O2.out.ext XA0.out) RA0.out (Nat.le_trans (Nat.le_trans HBW.out Y2.out.size) XA0.out.size) (by rw [numN_length 8 _ (by decide)]; have := HL2.out; omega) ?_; intro z0 m0 ho hb2 hs2; have Op0 := hide ho; have Yp0 : Hid (Below BB W2 m0) := hide ((Y2.out.trans (Below.mono XA0.out (Nat.le_trans HBW.out Y2.out.size))).trans hb2); have Xp0 : Hid (Ext w m0) := hide (XW2.out.below HB0.out Yp0.out); have Rp0 := hide (hs2 hb _ _ (by decide) (R2.out.ext XA0.out)); clear ho hb2 hs2))
  clear KA RA0 XA0
  clear R2 O2
  clear c0 c1 c2 c3 c4 c5 c6 c7 c8 c9
  have c0 := Rp0.out.cell (i := 0) rfl
  have c1 := Rp0.out.cell (i := 1) rfl
  have c2 := Rp0.out.cell (i := 2) rfl
  have c3 := Rp0.out.cell (i := 3) rfl
  have c4 := Rp0.out.cell (i := 4) rfl
  have c5 := Rp0.out.cell (i := 5) rfl
  have c6 := Rp0.out.cell (i := 6) rfl
  have c7 := Rp0.out.cell (i := 7) rfl
  have c8 := Rp0.out.cell (i := 8) rfl
  have c9 := Rp0.out.cell (i := 9) rfl
  obtain ⟨l0, HEp0⟩ : ∃ l, Hid ((numN 1 6) ++ numN 8 tx = l) := ⟨_, hide rfl⟩
  rw [HEp0.out] at Op0
  have HLp0 : Hid (l0.length ≤ 9) := hide (by rw [← HEp0.out, List.length_append, numN_length 8 _ (by decide)]; have := HL2.out; omega)
  have KA := hide (fun (W : World) => runum pv W HPV.out.1 HPV.out.2)
  go_upto_region 5 with (first
    | (go_at_call 24; (with_reducible refine (KA.out _).mono ?_); rintro e ma1 ⟨Aa1, ca1, rfl, hca, hra, hxa⟩; have RA1 := hide hra; have XA1 := hide hxa; clear hra hxa hca)
    | (refine wpList_catG rfl (.tmp 18) (.tmp 21) rfl BB z0 l0 (numN 8 pv) Aa1 8 ca1 rfl rfl (numN_length 8 _ (by decide)).symm (Op0.out.ext XA1.out) RA1.out (Nat.le_trans (Nat.le_trans HBW.out Yp0.out.size) XA1.out.size) (by rw [numN_length 8 _ (by decide)]; have := HLp0.out; omega) ?_; intro z1 m1 ho hb2 hs2; have Op1 := hide ho; have Yp1 : Hid (Below BB W2 m1) := hide ((Yp0.out.trans (Below.mono XA1.out (Nat.le_trans HBW.out Yp0.out.size))).trans hb2); have Xp1 : Hid (Ext w m1) := hide (XW2.out.below HB0.out Yp1.out); have Rp1 := hide (hs2 hb _ _ (by decide) (Rp0.out.ext XA1.out)); clear ho hb2 hs2))
  clear KA RA1 XA1
  clear Rp0 Op0
  clear c0 c1 c2 c3 c4 c5 c6 c7 c8 c9
  have c0 := Rp1.out.cell (i := 0) rfl
  have c1 := Rp1.out.cell (i := 1) rfl
  have c2 := Rp1.out.cell (i := 2) rfl
  have c3 := Rp1.out.cell (i := 3) rfl
  have c4 := Rp1.out.cell (i := 4) rfl
  have c5 := Rp1.out.cell (i := 5) rfl
  have c6 := Rp1.out.cell (i := 6) rfl
  have c7 := Rp1.out.cell (i := 7) rfl
  have c8 := Rp1.out.cell (i := 8) rfl
  have c9 := Rp1.out.cell (i := 9) rfl
  obtain ⟨l1, HEp1⟩ : ∃ l, Hid (l0 ++ numN 8 pv = l) := ⟨_, hide rfl⟩
  rw [HEp1.out] at Op1
  have HLp1 : Hid (l1.length ≤ 17) := hide (by rw [← HEp1.out, List.length_append, numN_length 8 _ (by decide)]; have := HLp0.out; omega)
  cases op with
  | false =>
    have hndi : (nd : Int) ≤ 64 := by omega
    go_upto_region 17 with fail
    have XA : Hid (Ext m1 (World.alloc m1 (.cells #[.int .u8 (2 * (nd : Int))] 5))) := hide (Ext.alloc _ _)
    have RA : Hid (Rd (World.alloc m1 (.cells #[.int .u8 (2 * (nd : Int))] 5)) (some ⟨(World.heap m1).size, 0, none⟩) (numN 1 (2 * (nd : Int)))) := hide (by
      rw [show numN 1 (2 * (nd : Int)) = [b8 (2 * (nd : Int))] from by show [b8 ((2 * (nd : Int)) % 256)] = _; rw [Int.emod_eq_of_lt (by omega) (by omega)]]
      exact Rd.one _ _ _ (by omega) (by omega))
    go_upto_region 18 with (go_loud (refine wpList_catG rfl (.tmp 74) (.tmp 77) rfl BB z1 l1 (numN 1 (2 * (nd : Int))) (some ⟨(World.heap m1).size, 0, none⟩) 1 _ rfl rfl (numN_length 1 _ (by decide)).symm (Op1.out.ext XA.out) RA.out (Nat.le_trans (Nat.le_trans HBW.out Yp1.out.size) XA.out.size) (by rw [numN_length 1 _ (by decide)]; have := HLp1.out; omega) ?_; intro z8 m8 ho hb2 hs2; have Op8 := hide ho; have Yp8 : Hid (Below BB W2 m8) := hide ((Yp1.out.trans (Below.mono XA.out (Nat.le_trans HBW.out Yp1.out.size))).trans hb2); have Xp8 : Hid (Ext w m8) := hide (XW2.out.below HB0.out Yp8.out); have Rp8 := hide (hs2 hb _ _ (by decide) (Rp1.out.ext XA.out)); clear ho hb2 hs2))
    clear Rp1 Op1 XA RA
    clear c0 c1 c2 c3 c4 c5 c6 c7 c8 c9
    obtain ⟨l8, HEp8⟩ : ∃ l, Hid (l1 ++ numN 1 (2 * (nd : Int)) = l) := ⟨_, hide rfl⟩
    rw [HEp8.out] at Op8
    have HLp8 : Hid (l8.length ≤ 18) := hide (by rw [← HEp8.out, List.length_append, numN_length 1 _ (by decide)]; have := HLp1.out; omega)
    have c8 := Rp8.out.cell (i := 8) rfl
    go_upto_region 19 with fail
    go_loopw [3, 5] (fun pz iv wr => ∃ (i : Nat) (v' : Value), i ≤ nd ∧ v' = pz ∧ iv = .int .i64 (i : Int) ∧ Hid (Own wr BB v' (l8 ++ dirB (L.take i))) ∧ Hid (Below BB W2 wr) ∧ Hid (Rw wr hb 26 [.int .u8 6, .int .u64 tx, .int .u64 pv, .int .i64 pg, .int .i64 off, .slice A nb a, .slice B na b', .int .u64 nx, .slice D nd d, .bool false])) (fun _ iv _ => nd - (intOf iv).toNat)
    case atStart => exact ⟨0, _, Nat.zero_le _, rfl, rfl, hide (by rw [List.take_zero]; show Own _ _ _ (l8 ++ []); rw [List.append_nil]; exact Op8.out), Yp8, Rp8⟩
    case round =>
      obtain ⟨i, v', hi, rfl, rfl, OWr, YWr, RWr⟩ := hrel
      clear Op8 Yp8 Rp8 Xp8 c8
      have c8 := RWr.out.cell (i := 8) rfl
      have XWr : Hid (Ext w wr) := hide (XW2.out.below HB0.out YWr.out)
      have HLWr : Hid ((l8 ++ dirB (L.take i)).length ≤ 1000) := hide (by rw [List.length_append, dirB_length, List.length_take]; have := HLp8.out; omega)
      by_cases hlt : i < nd
      · obtain ⟨⟨y, z⟩, he⟩ : ∃ e, L[i]? = some e := ⟨_, List.getElem?_eq_getElem (by rw [HN.out]; exact hlt)⟩
        obtain ⟨hy, hz⟩ := HLL.out _ (List.mem_of_getElem? he)
        have HZ := hide hz
        have hy0 : 0 ≤ y := hy.1
        have hy1 : y < 4096 := hy.2
        obtain ⟨bb, oo, hD, k1, k2⟩ := (HD.out.ext XWr.out).at he
        subst hD
        have HE := hide he
        have hii : (i : Int) < (nd : Int) := by omega
        have hi0 : (0 : Int) ≤ (i : Int) := by omega
        clear he hz hy
        have KA := hide (fun (W : World) => two_any y W hy0 (by omega))
        go_upto_region 22 with (first
          | (go_at_call 25; (with_reducible refine (KA.out _).mono ?_); rintro e ma ⟨Aa, ca, rfl, hca, hra, hxa⟩; have RA := hide hra; have XA := hide hxa; clear hra hxa hca)
          | (refine wpList_catG rfl (.tmp 86) (.tmp 93) rfl BB v' (l8 ++ dirB (L.take i)) (numN 2 y) Aa 2 ca rfl rfl (numN_length 2 _ (by decide)).symm (OWr.out.ext XA.out) RA.out (Nat.le_trans (Nat.le_trans HBW.out YWr.out.size) XA.out.size) (by rw [numN_length 2 _ (by decide)]; have := HLWr.out; omega) ?_; intro z9 m9 ho hb2 hs2; have Op9 := hide ho; have Yp9 : Hid (Below BB W2 m9) := hide ((YWr.out.trans (Below.mono XA.out (Nat.le_trans HBW.out YWr.out.size))).trans hb2); have Xp9 : Hid (Ext w m9) := hide (XW2.out.below HB0.out Yp9.out); have Rp9 := hide (hs2 hb _ _ (by decide) (RWr.out.ext XA.out)); clear ho hb2 hs2))
        obtain ⟨bb2, oo2, hD2, k3, k4⟩ := (HD.out.ext Xp9.out).at HE.out
        cases hD2
        clear k1 k2 c8 KA RA XA OWr RWr
        have c8 := Rp9.out.cell (i := 8) rfl
        have HLp9 : Hid ((l8 ++ dirB (L.take i) ++ numN 2 y).length ≤ 1002) := hide (by rw [List.length_append, numN_length 2 _ (by decide)]; have := HLWr.out; omega)
        have KA := hide (fun (W : World) => runum z W HZ.out.1 HZ.out.2)
        go_upto_region 20 with (first
          | (go_at_call 24; (with_reducible refine (KA.out _).mono ?_); rintro e ma ⟨Aa, ca, rfl, hca, hra, hxa⟩; have RA := hide hra; have XA := hide hxa; clear hra hxa hca)
          | (refine wpList_catG rfl (.tmp 95) (.tmp 102) rfl BB z9 (l8 ++ dirB (L.take i) ++ numN 2 y) (numN 8 z) Aa 8 ca rfl rfl (numN_length 8 _ (by decide)).symm (Op9.out.ext XA.out) RA.out (Nat.le_trans (Nat.le_trans HBW.out Yp9.out.size) XA.out.size) (by rw [numN_length 8 _ (by decide)]; have := HLp9.out; omega) ?_; intro z10 m10 ho hb2 hs2; have Op10 := hide ho; have Yp10 : Hid (Below BB W2 m10) := hide ((Yp9.out.trans (Below.mono XA.out (Nat.le_trans HBW.out Yp9.out.size))).trans hb2); have Xp10 : Hid (Ext w m10) := hide (XW2.out.below HB0.out Yp10.out); have Rp10 := hide (hs2 hb _ _ (by decide) (Rp9.out.ext XA.out)); clear ho hb2 hs2))
        clear k3 k4 c8 KA RA XA Op9 Rp9
        go_wp2
        refine ⟨⟨i + 1, _, by omega, rfl, by go_num, hide (by rw [dirB_snoc L i _ HE.out, ← List.append_assoc, ← List.append_assoc]; exact Op10.out), Yp10, Rp10⟩, by simp [intOf]; omega⟩
      · have hii : ¬ (i : Int) < (nd : Int) := by omega
        obtain ⟨l9, HEp9⟩ : ∃ l, Hid (l8 ++ dirB L = l) := ⟨_, hide rfl⟩
        rw [List.take_of_length_le (by rw [HN.out]; omega), HEp9.out] at OWr HLWr
        have HREC : Hid (recB 6 tx pv pg off nx bf af L false = l9) := hide (by
          rw [← HEp9.out, ← HEp8.out, ← HEp1.out, ← HEp0.out]
          simp [recB, hpv, hch, hnx, hck, HN.out, cntN])
        obtain ⟨AZ, cz, hvz, hcz, hrz⟩ := OWr.out.bytes
        subst hvz
        obtain ⟨nz, HNZ⟩ : ∃ n, Hid (l9.length = n) := ⟨_, hide rfl⟩
        rw [HNZ.out] at OWr ⊢
        have KS := hide (show Calls Tryd.prog 26 #[.slice AZ nz cz] wr _ from HNZ.out ▸ rsum_any AZ cz l9 wr hrz (by have := HLWr.out; omega))
        clear hcz hrz
        obtain ⟨cr, HCR⟩ : ∃ n, Hid (crc l9 = n) := ⟨_, hide rfl⟩
        rw [HCR.out] at KS
        have hcr0 : (0 : Int) ≤ (cr : Int) := by omega
        have hcr1 : (cr : Int) < 4294967296 := by rw [← HCR.out]; unfold crc; omega
        have KU := hide (fun (W : World) => runum (cr : Int) W hcr0 (by omega))
        have HSB : Hid (sumB l9 = (numN 8 (cr : Int)).drop 4) := hide (by unfold sumB; rw [HCR.out]; rfl)
        go_upto_region 24 with (first
          | (go_at_call 26; (with_reducible refine KS.out.mono ?_); rintro e ws ⟨vs, rfl, hxs, rfl⟩; have XS := hide hxs; clear hxs)
          | (go_at_call 24; (with_reducible refine (KU.out _).mono ?_); rintro e wu ⟨Au, cu, rfl, hcu, hru, hxu⟩; have XU := hide (XS.out.trans hxu); have RU := hide hru; have HCU := hide hcu; clear hxu hru hcu))
        have h4c : 4 ≤ cu := by have := HCU.out; omega
        obtain ⟨bu, ou, hAu, -⟩ := RU.out (by intro h; have := congrArg List.length h; rw [numN_length 8 _ (by decide)] at this; cases this)
        subst hAu
        have RD := hide (RU.out.drop 4)
        rw [← HSB.out] at RD
        have RE : Hid (Rd wu (some ⟨bu, ou + 4, none⟩) (sumB l9)) := RD
        have h8c : 8 ≤ cu := HCU.out
        have h8n : ¬ cu < 8 := by omega
        clear RD RU KU KS
        go_wp2_with (go_loud (refine wpList_catG rfl (.tmp 108) (.tmp 110) rfl BB (.slice AZ nz cz) l9 (sumB l9) (some ⟨bu, ou + 4, none⟩) 4 _ rfl rfl (numN_length 4 _ (by decide)).symm (OWr.out.ext XU.out) RE.out (Nat.le_trans (Nat.le_trans HBW.out YWr.out.size) XU.out.size) (by rw [show (sumB l9).length = 4 from numN_length 4 _ (by decide)]; have := HLWr.out; omega) ?_; intro vf wf ho hb2 hs2))
        go_ret
        refine ⟨vf, rfl, ?_, XW2.out.below HB0.out ((YWr.out.trans (Below.mono XU.out (Nat.le_trans HBW.out YWr.out.size))).trans hb2)⟩
        rw [fullB, HREC.out]
        exact own_mono ho HB0.out
  | true =>
    have hndi : (nd : Int) ≤ 64 := by omega
    go_upto_region 17 with fail
    have XA : Hid (Ext m1 (World.alloc m1 (.cells #[.int .u8 (2 * (nd : Int) + 1)] 5))) := hide (Ext.alloc _ _)
    have RA : Hid (Rd (World.alloc m1 (.cells #[.int .u8 (2 * (nd : Int) + 1)] 5)) (some ⟨(World.heap m1).size, 0, none⟩) (numN 1 (2 * (nd : Int) + 1))) := hide (by
      rw [show numN 1 (2 * (nd : Int) + 1) = [b8 (2 * (nd : Int) + 1)] from by show [b8 ((2 * (nd : Int) + 1) % 256)] = _; rw [Int.emod_eq_of_lt (by omega) (by omega)]]
      exact Rd.one _ _ _ (by omega) (by omega))
    go_upto_region 18 with (go_loud (refine wpList_catG rfl (.tmp 74) (.tmp 77) rfl BB z1 l1 (numN 1 (2 * (nd : Int) + 1)) (some ⟨(World.heap m1).size, 0, none⟩) 1 _ rfl rfl (numN_length 1 _ (by decide)).symm (Op1.out.ext XA.out) RA.out (Nat.le_trans (Nat.le_trans HBW.out Yp1.out.size) XA.out.size) (by rw [numN_length 1 _ (by decide)]; have := HLp1.out; omega) ?_; intro z8 m8 ho hb2 hs2; have Op8 := hide ho; have Yp8 : Hid (Below BB W2 m8) := hide ((Yp1.out.trans (Below.mono XA.out (Nat.le_trans HBW.out Yp1.out.size))).trans hb2); have Xp8 : Hid (Ext w m8) := hide (XW2.out.below HB0.out Yp8.out); have Rp8 := hide (hs2 hb _ _ (by decide) (Rp1.out.ext XA.out)); clear ho hb2 hs2))
    clear Rp1 Op1 XA RA
    clear c0 c1 c2 c3 c4 c5 c6 c7 c8 c9
    obtain ⟨l8, HEp8⟩ : ∃ l, Hid (l1 ++ numN 1 (2 * (nd : Int) + 1) = l) := ⟨_, hide rfl⟩
    rw [HEp8.out] at Op8
    have HLp8 : Hid (l8.length ≤ 18) := hide (by rw [← HEp8.out, List.length_append, numN_length 1 _ (by decide)]; have := HLp1.out; omega)
    have c8 := Rp8.out.cell (i := 8) rfl
    go_upto_region 19 with fail
    go_loopw [3, 5] (fun pz iv wr => ∃ (i : Nat) (v' : Value), i ≤ nd ∧ v' = pz ∧ iv = .int .i64 (i : Int) ∧ Hid (Own wr BB v' (l8 ++ dirB (L.take i))) ∧ Hid (Below BB W2 wr) ∧ Hid (Rw wr hb 26 [.int .u8 6, .int .u64 tx, .int .u64 pv, .int .i64 pg, .int .i64 off, .slice A nb a, .slice B na b', .int .u64 nx, .slice D nd d, .bool true])) (fun _ iv _ => nd - (intOf iv).toNat)
    case atStart => exact ⟨0, _, Nat.zero_le _, rfl, rfl, hide (by rw [List.take_zero]; show Own _ _ _ (l8 ++ []); rw [List.append_nil]; exact Op8.out), Yp8, Rp8⟩
    case round =>
      obtain ⟨i, v', hi, rfl, rfl, OWr, YWr, RWr⟩ := hrel
      clear Op8 Yp8 Rp8 Xp8 c8
      have c8 := RWr.out.cell (i := 8) rfl
      have XWr : Hid (Ext w wr) := hide (XW2.out.below HB0.out YWr.out)
      have HLWr : Hid ((l8 ++ dirB (L.take i)).length ≤ 1000) := hide (by rw [List.length_append, dirB_length, List.length_take]; have := HLp8.out; omega)
      by_cases hlt : i < nd
      · obtain ⟨⟨y, z⟩, he⟩ : ∃ e, L[i]? = some e := ⟨_, List.getElem?_eq_getElem (by rw [HN.out]; exact hlt)⟩
        obtain ⟨hy, hz⟩ := HLL.out _ (List.mem_of_getElem? he)
        have HZ := hide hz
        have hy0 : 0 ≤ y := hy.1
        have hy1 : y < 4096 := hy.2
        obtain ⟨bb, oo, hD, k1, k2⟩ := (HD.out.ext XWr.out).at he
        subst hD
        have HE := hide he
        have hii : (i : Int) < (nd : Int) := by omega
        have hi0 : (0 : Int) ≤ (i : Int) := by omega
        clear he hz hy
        have KA := hide (fun (W : World) => two_any y W hy0 (by omega))
        go_upto_region 22 with (first
          | (go_at_call 25; (with_reducible refine (KA.out _).mono ?_); rintro e ma ⟨Aa, ca, rfl, hca, hra, hxa⟩; have RA := hide hra; have XA := hide hxa; clear hra hxa hca)
          | (refine wpList_catG rfl (.tmp 86) (.tmp 93) rfl BB v' (l8 ++ dirB (L.take i)) (numN 2 y) Aa 2 ca rfl rfl (numN_length 2 _ (by decide)).symm (OWr.out.ext XA.out) RA.out (Nat.le_trans (Nat.le_trans HBW.out YWr.out.size) XA.out.size) (by rw [numN_length 2 _ (by decide)]; have := HLWr.out; omega) ?_; intro z9 m9 ho hb2 hs2; have Op9 := hide ho; have Yp9 : Hid (Below BB W2 m9) := hide ((YWr.out.trans (Below.mono XA.out (Nat.le_trans HBW.out YWr.out.size))).trans hb2); have Xp9 : Hid (Ext w m9) := hide (XW2.out.below HB0.out Yp9.out); have Rp9 := hide (hs2 hb _ _ (by decide) (RWr.out.ext XA.out)); clear ho hb2 hs2))
        obtain ⟨bb2, oo2, hD2, k3, k4⟩ := (HD.out.ext Xp9.out).at HE.out
        cases hD2
        clear k1 k2 c8 KA RA XA OWr RWr
        have c8 := Rp9.out.cell (i := 8) rfl
        have HLp9 : Hid ((l8 ++ dirB (L.take i) ++ numN 2 y).length ≤ 1002) := hide (by rw [List.length_append, numN_length 2 _ (by decide)]; have := HLWr.out; omega)
        have KA := hide (fun (W : World) => runum z W HZ.out.1 HZ.out.2)
        go_upto_region 20 with (first
          | (go_at_call 24; (with_reducible refine (KA.out _).mono ?_); rintro e ma ⟨Aa, ca, rfl, hca, hra, hxa⟩; have RA := hide hra; have XA := hide hxa; clear hra hxa hca)
          | (refine wpList_catG rfl (.tmp 95) (.tmp 102) rfl BB z9 (l8 ++ dirB (L.take i) ++ numN 2 y) (numN 8 z) Aa 8 ca rfl rfl (numN_length 8 _ (by decide)).symm (Op9.out.ext XA.out) RA.out (Nat.le_trans (Nat.le_trans HBW.out Yp9.out.size) XA.out.size) (by rw [numN_length 8 _ (by decide)]; have := HLp9.out; omega) ?_; intro z10 m10 ho hb2 hs2; have Op10 := hide ho; have Yp10 : Hid (Below BB W2 m10) := hide ((Yp9.out.trans (Below.mono XA.out (Nat.le_trans HBW.out Yp9.out.size))).trans hb2); have Xp10 : Hid (Ext w m10) := hide (XW2.out.below HB0.out Yp10.out); have Rp10 := hide (hs2 hb _ _ (by decide) (Rp9.out.ext XA.out)); clear ho hb2 hs2))
        clear k3 k4 c8 KA RA XA Op9 Rp9
        go_wp2
        refine ⟨⟨i + 1, _, by omega, rfl, by go_num, hide (by rw [dirB_snoc L i _ HE.out, ← List.append_assoc, ← List.append_assoc]; exact Op10.out), Yp10, Rp10⟩, by simp [intOf]; omega⟩
      · have hii : ¬ (i : Int) < (nd : Int) := by omega
        obtain ⟨l9, HEp9⟩ : ∃ l, Hid (l8 ++ dirB L = l) := ⟨_, hide rfl⟩
        rw [List.take_of_length_le (by rw [HN.out]; omega), HEp9.out] at OWr HLWr
        have HREC : Hid (recB 6 tx pv pg off nx bf af L true = l9) := hide (by
          rw [← HEp9.out, ← HEp8.out, ← HEp1.out, ← HEp0.out]
          simp [recB, hpv, hch, hnx, hck, HN.out, cntN])
        obtain ⟨AZ, cz, hvz, hcz, hrz⟩ := OWr.out.bytes
        subst hvz
        obtain ⟨nz, HNZ⟩ : ∃ n, Hid (l9.length = n) := ⟨_, hide rfl⟩
        rw [HNZ.out] at OWr ⊢
        have KS := hide (show Calls Tryd.prog 26 #[.slice AZ nz cz] wr _ from HNZ.out ▸ rsum_any AZ cz l9 wr hrz (by have := HLWr.out; omega))
        clear hcz hrz
        obtain ⟨cr, HCR⟩ : ∃ n, Hid (crc l9 = n) := ⟨_, hide rfl⟩
        rw [HCR.out] at KS
        have hcr0 : (0 : Int) ≤ (cr : Int) := by omega
        have hcr1 : (cr : Int) < 4294967296 := by rw [← HCR.out]; unfold crc; omega
        have KU := hide (fun (W : World) => runum (cr : Int) W hcr0 (by omega))
        have HSB : Hid (sumB l9 = (numN 8 (cr : Int)).drop 4) := hide (by unfold sumB; rw [HCR.out]; rfl)
        go_upto_region 24 with (first
          | (go_at_call 26; (with_reducible refine KS.out.mono ?_); rintro e ws ⟨vs, rfl, hxs, rfl⟩; have XS := hide hxs; clear hxs)
          | (go_at_call 24; (with_reducible refine (KU.out _).mono ?_); rintro e wu ⟨Au, cu, rfl, hcu, hru, hxu⟩; have XU := hide (XS.out.trans hxu); have RU := hide hru; have HCU := hide hcu; clear hxu hru hcu))
        have h4c : 4 ≤ cu := by have := HCU.out; omega
        obtain ⟨bu, ou, hAu, -⟩ := RU.out (by intro h; have := congrArg List.length h; rw [numN_length 8 _ (by decide)] at this; cases this)
        subst hAu
        have RD := hide (RU.out.drop 4)
        rw [← HSB.out] at RD
        have RE : Hid (Rd wu (some ⟨bu, ou + 4, none⟩) (sumB l9)) := RD
        have h8c : 8 ≤ cu := HCU.out
        have h8n : ¬ cu < 8 := by omega
        clear RD RU KU KS
        go_wp2_with (go_loud (refine wpList_catG rfl (.tmp 108) (.tmp 110) rfl BB (.slice AZ nz cz) l9 (sumB l9) (some ⟨bu, ou + 4, none⟩) 4 _ rfl rfl (numN_length 4 _ (by decide)).symm (OWr.out.ext XU.out) RE.out (Nat.le_trans (Nat.le_trans HBW.out YWr.out.size) XU.out.size) (by rw [show (sumB l9).length = 4 from numN_length 4 _ (by decide)]; have := HLWr.out; omega) ?_; intro vf wf ho hb2 hs2))
        go_ret
        refine ⟨vf, rfl, ?_, XW2.out.below HB0.out ((YWr.out.trans (Below.mono XU.out (Nat.le_trans HBW.out YWr.out.size))).trans hb2)⟩
        rw [fullB, HREC.out]
        exact own_mono ho HB0.out
end Go.Proofs.YtkbmcebdhiiffaaDoor
namespace Go.Proofs.YtkbmcebdhiiffaaDoor
open Go.RowKit

theorem rencode_yes (k : Int) (tx pv pg off nx : Int) (A B D : Option Addr) (nb a na b' nd d : Nat) (op : Bool) (w : World) (bf af : List UInt8) (L : List (Int × Int)) (ht : Tab w) (hb0 : Rd w A bf) (ha0 : Rd w B af) (hr : RdD w D L) (hbn : bf.length = nb) (han : af.length = na) (hn : L.length = nd) (hnd : nd ≤ 140737488351232) (hna : na ≤ 140737488351232) (hnb : nb ≤ 140737488351232) (ho : -9223372036854775808 ≤ off) (ho2 : off < 9223372036854775808) (htx0 : 0 ≤ tx) (htx : tx < 18446744073709551616) (hpv0 : 0 ≤ pv) (hpv1 : pv < 18446744073709551616) (hnx0 : 0 ≤ nx) (hnx1 : nx < 18446744073709551616) (hdl : ∀ e ∈ L, 0 ≤ e.2 ∧ e.2 < 18446744073709551616) (hf : formN k pv pg off nx na nb nd L op = true) :
    Calls Tryd.prog 13 #[.agg #[.int .u8 k, .int .u64 tx, .int .u64 pv, .int .i64 pg, .int .i64 off, .slice A nb a, .slice B na b', .int .u64 nx, .slice D nd d, .bool op]] w (fun e w' => ∃ v', e = .returned v' ∧ Own w' w.heap.size v' (fullB k tx pv pg off nx bf af L op) ∧ Ext w w') := by
  have hk : 1 ≤ k ∧ k ≤ 6 := by
    simp only [formN, Bool.and_eq_true] at hf
    have h := hf.1
    simpa [hok] using h
  rcases (by omega : k = 1 ∨ k = 2 ∨ k = 3 ∨ k = 4 ∨ k = 5 ∨ k = 6) with rfl | rfl | rfl | rfl | rfl | rfl
  · exact rencode_1 tx pv pg off nx A B D nb a na b' nd d op w bf af L ht hb0 ha0 hr hbn han hn hnd hna hnb ho ho2 htx0 htx hpv0 hpv1 hnx0 hnx1 hdl hf
  · exact rencode_2 tx pv pg off nx A B D nb a na b' nd d op w bf af L ht hb0 ha0 hr hbn han hn hnd hna hnb ho ho2 htx0 htx hpv0 hpv1 hnx0 hnx1 hdl hf
  · exact rencode_3 tx pv pg off nx A B D nb a na b' nd d op w bf af L ht hb0 ha0 hr hbn han hn hnd hna hnb ho ho2 htx0 htx hpv0 hpv1 hnx0 hnx1 hdl hf
  · exact rencode_4 tx pv pg off nx A B D nb a na b' nd d op w bf af L ht hb0 ha0 hr hbn han hn hnd hna hnb ho ho2 htx0 htx hpv0 hpv1 hnx0 hnx1 hdl hf
  · exact rencode_5 tx pv pg off nx A B D nb a na b' nd d op w bf af L ht hb0 ha0 hr hbn han hn hnd hna hnb ho ho2 htx0 htx hpv0 hpv1 hnx0 hnx1 hdl hf
  · exact rencode_6 tx pv pg off nx A B D nb a na b' nd d op w bf af L ht hb0 ha0 hr hbn han hn hnd hna hnb ho ho2 htx0 htx hpv0 hpv1 hnx0 hnx1 hdl hf
end Go.Proofs.YtkbmcebdhiiffaaDoor
