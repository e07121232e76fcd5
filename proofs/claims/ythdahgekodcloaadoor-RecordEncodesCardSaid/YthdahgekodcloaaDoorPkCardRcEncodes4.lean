/-
  The document's Encode of records, kind 6.
  The document's Encode of records.
  bytes.Clone.
  The reader of records: take, number.
  The reader of records: the dirty pages.
  The reader of records: check.
  The reader of records: record, plain.
-/
import Derived.Laws.Cover3
import Derived.Deep.RegionHeld3
import Derived.Deep.RegionLaw
import Derived.Test.YthdahgekodcloaaDoorPkCardRcEncodes0
import Derived.Test.YthdahgekodcloaaDoorPkCardRcEncodes1
import Derived.Test.YthdahgekodcloaaDoorPkCardRcEncodes2
import Derived.Test.YthdahgekodcloaaDoorPkCardRcEncodes3

namespace Go.Proofs.YthdahgekodcloaaDoor
open Go.RowKit

set_option maxRecDepth 20000 in
set_option maxHeartbeats 6400000 in
theorem rencode_6 (tx pv pg off nx : Int) (A B D : Option Addr) (nb a na b' nd d : Nat) (op : Bool) (w : World) (bf af : List UInt8) (L : List (Int × Int)) (ht : Tab w) (hb0 : Rd w A bf) (ha0 : Rd w B af) (hr : RdD w D L) (hbn : bf.length = nb) (han : af.length = na) (hn : L.length = nd) (hnd : nd ≤ 140737488351232) (hna : na ≤ 140737488351232) (hnb : nb ≤ 140737488351232) (ho : -9223372036854775808 ≤ off) (ho2 : off < 9223372036854775808) (htx0 : 0 ≤ tx) (htx : tx < 18446744073709551616) (hpv0 : 0 ≤ pv) (hpv1 : pv < 18446744073709551616) (hnx0 : 0 ≤ nx) (hnx1 : nx < 18446744073709551616) (hdl : ∀ e ∈ L, 0 ≤ e.2 ∧ e.2 < 18446744073709551616) (hf : formN 6 pv pg off nx na nb nd L op = true) :
    Calls Tryd.prog 13 #[.agg #[.int .u8 6, .int .u64 tx, .int .u64 pv, .int .i64 pg, .int .i64 off, .slice A nb a, .slice B na b', .int .u64 nx, .slice D nd d, .bool op]] w (fun e w' => ∃ v', e = .returned v' ∧ Own w' w.heap.size v' (fullB 6 tx pv pg off nx bf af L op) ∧ Ext w w') := by
  obtain ⟨hnd64, hris⟩ : nd ≤ 64 ∧ risB (-1) L = true := by
    simp [formN, hok, hpv, hch, hbf, hnx, hck, chgN, chkN] at hf
    exact ⟨hf.2.2.1, hf.2.2.2⟩
  have HLL := hide (fun (e : Int × Int) (he : e ∈ L) => (show (0 ≤ e.1 ∧ e.1 < 4096) ∧ 0 ≤ e.2 ∧ e.2 < 18446744073709551616 from ⟨risB_mem L (-1) (Int.le_refl _) hris e he, hdl e he⟩))
  clear hris
  have HT := hide ht
  have HBF := hide hb0
  have HAF := hide ha0
  have HD := hide hr
  have HBN := hide hbn
  have HAN := hide han
  have HN := hide hn
  have HTX := hide (And.intro htx0 htx)
  have HPV := hide (And.intro hpv0 hpv1)
  have HNX := hide (And.intro hnx0 hnx1)
  clear ht hb0 ha0 hr hbn han hn htx0 htx hpv0 hpv1 hnx0 hnx1 hdl hf ho ho2
  go_enter Tryd.func13, Tryd.ntmps13
  go_upto_region 1 with fail
  obtain ⟨W1, hX1, hR1, hg⟩ : ∃ W1, Ext w W1 ∧ Rw W1 w.heap.size 26 [.int .u8 6, .int .u64 tx, .int .u64 pv, .int .i64 pg, .int .i64 off, .slice A nb a, .slice B na b', .int .u64 nx, .slice D nd d, .bool op] ∧ w.alloc (.cells #[.int .u8 6, .int .u64 tx, .int .u64 pv, .int .i64 pg, .int .i64 off, .slice A nb a, .slice B na b', .int .u64 nx, .slice D nd d, .bool op] 26) = W1 := ⟨_, Ext.alloc _ _, Rw.new _ _ _, rfl⟩
  rw [hg]
  obtain ⟨hb, HHB⟩ : ∃ hb, Hid (w.heap.size = hb) := ⟨_, hide rfl⟩
  rw [HHB.out] at hR1 ⊢
  have X1 := hide hX1
  have R1 := hide hR1
  have c0 := hR1.cell (i := 0) rfl
  clear hg hX1 hR1
  obtain ⟨BB, HBB⟩ : ∃ BB, Hid (W1.heap.size = BB) := ⟨_, hide rfl⟩
  go_upto_region 2 with fail
  obtain ⟨W2, hX2, hO2, hg⟩ : ∃ W, Ext W1 W ∧ Own W BB (.slice (some ⟨BB, 0, none⟩) 1 1) (numN 1 6) ∧ W1.alloc (.cells #[.int .u8 6] 5) = W := ⟨_, Ext.alloc _ _, by rw [← HBB.out]; exact own_one W1 _ (Nat.le_refl _) 6 (by decide) (by decide), rfl⟩
  rw [hg, HBB.out]
  have XW2 := hide (X1.out.trans hX2)
  have R2 := hide (R1.out.ext hX2)
  have O2 := hide hO2
  have X2 := XW2
  have HB0 : Hid (w.heap.size ≤ BB) := hide (by rw [← HBB.out]; exact X1.out.size)
  have Y2 : Hid (Below BB W2 W2) := hide (Below.refl _ _)
  have HBW : Hid (BB ≤ W2.heap.size) := hide (by rw [← HBB.out]; exact hX2.size)
  have HL2 : Hid ((numN 1 6).length ≤ 1) := hide (by rw [numN_length 1 _ (by decide)]; exact Nat.le_refl _)
  clear hg hX2 hO2 X1 R1 c0
  have c0 := R2.out.cell (i := 0) rfl
  have c1 := R2.out.cell (i := 1) rfl
  have c2 := R2.out.cell (i := 2) rfl
  have c3 := R2.out.cell (i := 3) rfl
  have c4 := R2.out.cell (i := 4) rfl
  have c5 := R2.out.cell (i := 5) rfl
  have c6 := R2.out.cell (i := 6) rfl
  have c7 := R2.out.cell (i := 7) rfl
  have c8 := R2.out.cell (i := 8) rfl
  have c9 := R2.out.cell (i := 9) rfl
  have KA := hide (fun (W : World) => runum tx W HTX.out.1 HTX.out.2)
  go_upto_region 3 with (first
    | (go_at_call 24; (with_reducible refine (KA.out _).mono ?_); rintro e ma0 ⟨Aa0, ca0, rfl, hca, hra, hxa⟩; have RA0 := hide hra; have XA0 := hide hxa; clear hra hxa hca)
    | (refine wpList_catG rfl (.tmp 10) (.tmp 13) rfl BB (.slice (some ⟨BB, 0, none⟩) 1 1) (numN 1 6) (numN 8 tx) Aa0 8 ca0 rfl rfl (numN_length 8 _ (by decide)).symm (O2.out.ext XA0.out) RA0.out (Nat.le_trans (Nat.le_trans HBW.out Y2.out.size) XA0.out.size) (by rw [numN_length 8 _ (by decide)]; have := HL2.out; omega) ?_; intro z0 m0 ho hb2 hs2; have Op0 := hide ho; have Yp0 : Hid (Below BB W2 m0) := hide ((Y2.out.trans (Below.mono XA0.out (Nat.le_trans HBW.out Y2.out.size))).trans hb2); have Xp0 : Hid (Ext w m0) := hide (XW2.out.below HB0.out Yp0.out); have Rp0 := hide (hs2 hb _ _ (by decide) (R2.out.ext XA0.out)); clear ho hb2 hs2))
  clear KA RA0 XA0
  clear R2 O2
  clear c0 c1 c2 c3 c4 c5 c6 c7 c8 c9
  have c0 := Rp0.out.cell (i := 0) rfl
  have c1 := Rp0.out.cell (i := 1) rfl
  have c2 := Rp0.out.cell (i := 2) rfl
  have c3 := Rp0.out.cell (i := 3) rfl
  have c4 := Rp0.out.cell (i := 4) rfl
  have c5 := Rp0.out.cell (i := 5) rfl
  have c6 := Rp0.out.cell (i := 6) rfl
  have c7 := Rp0.out.cell (i := 7) rfl
  have c8 := Rp0.out.cell (i := 8) rfl
  have c9 := Rp0.out.cell (i := 9) rfl
  obtain ⟨l0, HEp0⟩ : ∃ l, Hid ((numN 1 6) ++ numN 8 tx = l) := ⟨_, hide rfl⟩
  rw [HEp0.out] at Op0
  have HLp0 : Hid (l0.length ≤ 9) := hide (by rw [← HEp0.out, List.length_append, numN_length 8 _ (by decide)]; have := HL2.out; omega)
  have KA := hide (fun (W : World) => runum pv W HPV.out.1 HPV.out.2)
  go_upto_region 5 with (first
    | (go_at_call 24; (with_reducible refine (KA.out _).mono ?_); rintro e ma1 ⟨Aa1, ca1, rfl, hca, hra, hxa⟩; have RA1 := hide hra; have XA1 := hide hxa; clear hra hxa hca)
    | (refine wpList_catG rfl (.tmp 18) (.tmp 21) rfl BB z0 l0 (numN 8 pv) Aa1 8 ca1 rfl rfl (numN_length 8 _ (by decide)).symm (Op0.out.ext XA1.out) RA1.out (Nat.le_trans (Nat.le_trans HBW.out Yp0.out.size) XA1.out.size) (by rw [numN_length 8 _ (by decide)]; have := HLp0.out; omega) ?_; intro z1 m1 ho hb2 hs2; have Op1 := hide ho; have Yp1 : Hid (Below BB W2 m1) := hide ((Yp0.out.trans (Below.mono XA1.out (Nat.le_trans HBW.out Yp0.out.size))).trans hb2); have Xp1 : Hid (Ext w m1) := hide (XW2.out.below HB0.out Yp1.out); have Rp1 := hide (hs2 hb _ _ (by decide) (Rp0.out.ext XA1.out)); clear ho hb2 hs2))
  clear KA RA1 XA1
  clear Rp0 Op0
  clear c0 c1 c2 c3 c4 c5 c6 c7 c8 c9
  have c0 := Rp1.out.cell (i := 0) rfl
  have c1 := Rp1.out.cell (i := 1) rfl
  have c2 := Rp1.out.cell (i := 2) rfl
  have c3 := Rp1.out.cell (i := 3) rfl
  have c4 := Rp1.out.cell (i := 4) rfl
  have c5 := Rp1.out.cell (i := 5) rfl
  have c6 := Rp1.out.cell (i := 6) rfl
  have c7 := Rp1.out.cell (i := 7) rfl
  have c8 := Rp1.out.cell (i := 8) rfl
  have c9 := Rp1.out.cell (i := 9) rfl
  obtain ⟨l1, HEp1⟩ : ∃ l, Hid (l0 ++ numN 8 pv = l) := ⟨_, hide rfl⟩
  rw [HEp1.out] at Op1
  have HLp1 : Hid (l1.length ≤ 17) := hide (by rw [← HEp1.out, List.length_append, numN_length 8 _ (by decide)]; have := HLp0.out; omega)
  cases op with
  | false =>
    have hndi : (nd : Int) ≤ 64 := by omega
    go_upto_region 17 with fail
    have XA : Hid (Ext m1 (World.alloc m1 (.cells #[.int .u8 (2 * (nd : Int))] 5))) := hide (Ext.alloc _ _)
    have RA : Hid (Rd (World.alloc m1 (.cells #[.int .u8 (2 * (nd : Int))] 5)) (some ⟨(World.heap m1).size, 0, none⟩) (numN 1 (2 * (nd : Int)))) := hide (by
      rw [show numN 1 (2 * (nd : Int)) = [b8 (2 * (nd : Int))] from by show [b8 ((2 * (nd : Int)) % 256)] = _; rw [Int.emod_eq_of_lt (by omega) (by omega)]]
      exact Rd.one _ _ _ (by omega) (by omega))
    go_upto_region 18 with (go_loud (refine wpList_catG rfl (.tmp 74) (.tmp 77) rfl BB z1 l1 (numN 1 (2 * (nd : Int))) (some ⟨(World.heap m1).size, 0, none⟩) 1 _ rfl rfl (numN_length 1 _ (by decide)).symm (Op1.out.ext XA.out) RA.out (Nat.le_trans (Nat.le_trans HBW.out Yp1.out.size) XA.out.size) (by rw [numN_length 1 _ (by decide)]; have := HLp1.out; omega) ?_; intro z8 m8 ho hb2 hs2; have Op8 := hide ho; have Yp8 : Hid (Below BB W2 m8) := hide ((Yp1.out.trans (Below.mono XA.out (Nat.le_trans HBW.out Yp1.out.size))).trans hb2); have Xp8 : Hid (Ext w m8) := hide (XW2.out.below HB0.out Yp8.out); have Rp8 := hide (hs2 hb _ _ (by decide) (Rp1.out.ext XA.out)); clear ho hb2 hs2))
    clear Rp1 Op1 XA RA
    clear c0 c1 c2 c3 c4 c5 c6 c7 c8 c9
    obtain ⟨l8, HEp8⟩ : ∃ l, Hid (l1 ++ numN 1 (2 * (nd : Int)) = l) := ⟨_, hide rfl⟩
    rw [HEp8.out] at Op8
    have HLp8 : Hid (l8.length ≤ 18) := hide (by rw [← HEp8.out, List.length_append, numN_length 1 _ (by decide)]; have := HLp1.out; omega)
    have c8 := Rp8.out.cell (i := 8) rfl
    go_upto_region 19 with fail
    go_loopw [3, 5] (fun pz iv wr => ∃ (i : Nat) (v' : Value), i ≤ nd ∧ v' = pz ∧ iv = .int .i64 (i : Int) ∧ Hid (Own wr BB v' (l8 ++ dirB (L.take i))) ∧ Hid (Below BB W2 wr) ∧ Hid (Rw wr hb 26 [.int .u8 6, .int .u64 tx, .int .u64 pv, .int .i64 pg, .int .i64 off, .slice A nb a, .slice B na b', .int .u64 nx, .slice D nd d, .bool false])) (fun _ iv _ => nd - (intOf iv).toNat)
    case atStart => exact ⟨0, _, Nat.zero_le _, rfl, rfl, hide (by rw [List.take_zero]; show Own _ _ _ (l8 ++ []); rw [List.append_nil]; exact Op8.out), Yp8, Rp8⟩
    case round =>
      obtain ⟨i, v', hi, rfl, rfl, OWr, YWr, RWr⟩ := hrel
      clear Op8 Yp8 Rp8 Xp8 c8
      have c8 := RWr.out.cell (i := 8) rfl
      have XWr : Hid (Ext w wr) := hide (XW2.out.below HB0.out YWr.out)
      have HLWr : Hid ((l8 ++ dirB (L.take i)).length ≤ 1000) := hide (by rw [List.length_append, dirB_length, List.length_take]; have := HLp8.out; omega)
      by_cases hlt : i < nd
      · obtain ⟨⟨y, z⟩, he⟩ : ∃ e, L[i]? = some e := ⟨_, List.getElem?_eq_getElem (by rw [HN.out]; exact hlt)⟩
        obtain ⟨hy, hz⟩ := HLL.out _ (List.mem_of_getElem? he)
        have HZ := hide hz
        have hy0 : 0 ≤ y := hy.1
        have hy1 : y < 4096 := hy.2
        obtain ⟨bb, oo, hD, k1, k2⟩ := (HD.out.ext XWr.out).at he
        subst hD
        have HE := hide he
        have hii : (i : Int) < (nd : Int) := by omega
        have hi0 : (0 : Int) ≤ (i : Int) := by omega
        clear he hz hy
        have KA := hide (fun (W : World) => two_any y W hy0 (by omega))
        go_upto_region 22 with (first
          | (go_at_call 25; (with_reducible refine (KA.out _).mono ?_); rintro e ma ⟨Aa, ca, rfl, hca, hra, hxa⟩; have RA := hide hra; have XA := hide hxa; clear hra hxa hca)
          | (refine wpList_catG rfl (.tmp 86) (.tmp 93) rfl BB v' (l8 ++ dirB (L.take i)) (numN 2 y) Aa 2 ca rfl rfl (numN_length 2 _ (by decide)).symm (OWr.out.ext XA.out) RA.out (Nat.le_trans (Nat.le_trans HBW.out YWr.out.size) XA.out.size) (by rw [numN_length 2 _ (by decide)]; have := HLWr.out; omega) ?_; intro z9 m9 ho hb2 hs2; have Op9 := hide ho; have Yp9 : Hid (Below BB W2 m9) := hide ((YWr.out.trans (Below.mono XA.out (Nat.le_trans HBW.out YWr.out.size))).trans hb2); have Xp9 : Hid (Ext w m9) := hide (XW2.out.below HB0.out Yp9.out); have Rp9 := hide (hs2 hb _ _ (by decide) (RWr.out.ext XA.out)); clear ho hb2 hs2))
        obtain ⟨bb2, oo2, hD2, k3, k4⟩ := (HD.out.ext Xp9.out).at HE.out
        cases hD2
        clear k1 k2 c8 KA RA XA OWr RWr
        have c8 := Rp9.out.cell (i := 8) rfl
        have HLp9 : Hid ((l8 ++ dirB (L.take i) ++ numN 2 y).length ≤ 1002) := hide (by rw [List.length_append, numN_length 2 _ (by decide)]; have := HLWr.out; omega)
        have KA := hide (fun (W : World) => runum z W HZ.out.1 HZ.out.2)
        go_upto_region 20 with (first
          | (go_at_call 24; (with_reducible refine (KA.out _).mono ?_); rintro e ma ⟨Aa, ca, rfl, hca, hra, hxa⟩; have RA := hide hra; have XA := hide hxa; clear hra hxa hca)
          | (refine wpList_catG rfl (.tmp 95) (.tmp 102) rfl BB z9 (l8 ++ dirB (L.take i) ++ numN 2 y) (numN 8 z) Aa 8 ca rfl rfl (numN_length 8 _ (by decide)).symm (Op9.out.ext XA.out) RA.out (Nat.le_trans (Nat.le_trans HBW.out Yp9.out.size) XA.out.size) (by rw [numN_length 8 _ (by decide)]; have := HLp9.out; omega) ?_; intro z10 m10 ho hb2 hs2; have Op10 := hide ho; have Yp10 : Hid (Below BB W2 m10) := hide ((Yp9.out.trans (Below.mono XA.out (Nat.le_trans HBW.out Yp9.out.size))).trans hb2); have Xp10 : Hid (Ext w m10) := hide (XW2.out.below HB0.out Yp10.out); have Rp10 := hide (hs2 hb _ _ (by decide) (Rp9.out.ext XA.out)); clear ho hb2 hs2))
        clear k3 k4 c8 KA RA XA Op9 Rp9
        go_wp2
        refine ⟨⟨i + 1, _, by omega, rfl, by go_num, hide (by rw [dirB_snoc L i _ HE.out, ← List.append_assoc, ← List.append_assoc]; exact Op10.out), Yp10, Rp10⟩, by simp [intOf]; omega⟩
      · have hii : ¬ (i : Int) < (nd : Int) := by omega
        obtain ⟨l9, HEp9⟩ : ∃ l, Hid (l8 ++ dirB L = l) := ⟨_, hide rfl⟩
        rw [List.take_of_length_le (by rw [HN.out]; omega), HEp9.out] at OWr HLWr
        have HREC : Hid (recB 6 tx pv pg off nx bf af L false = l9) := hide (by
          rw [← HEp9.out, ← HEp8.out, ← HEp1.out, ← HEp0.out]
          simp [recB, hpv, hch, hnx, hck, HN.out, cntN])
        obtain ⟨AZ, cz, hvz, hcz, hrz⟩ := OWr.out.bytes
        subst hvz
        obtain ⟨nz, HNZ⟩ : ∃ n, Hid (l9.length = n) := ⟨_, hide rfl⟩
        rw [HNZ.out] at OWr ⊢
        have KS := hide (show Calls Tryd.prog 26 #[.slice AZ nz cz] wr _ from HNZ.out ▸ rsum_any AZ cz l9 wr hrz (by have := HLWr.out; omega))
        clear hcz hrz
        obtain ⟨cr, HCR⟩ : ∃ n, Hid (crc l9 = n) := ⟨_, hide rfl⟩
        rw [HCR.out] at KS
        have hcr0 : (0 : Int) ≤ (cr : Int) := by omega
        have hcr1 : (cr : Int) < 4294967296 := by rw [← HCR.out]; unfold crc; omega
        have KU := hide (fun (W : World) => runum (cr : Int) W hcr0 (by omega))
        have HSB : Hid (sumB l9 = (numN 8 (cr : Int)).drop 4) := hide (by unfold sumB; rw [HCR.out]; rfl)
        go_upto_region 24 with (first
          | (go_at_call 26; (with_reducible refine KS.out.mono ?_); rintro e ws ⟨vs, rfl, hxs, rfl⟩; have XS := hide hxs; clear hxs)
          | (go_at_call 24; (with_reducible refine (KU.out _).mono ?_); rintro e wu ⟨Au, cu, rfl, hcu, hru, hxu⟩; have XU := hide (XS.out.trans hxu); have RU := hide hru; have HCU := hide hcu; clear hxu hru hcu))
        have h4c : 4 ≤ cu := by have := HCU.out; omega
        obtain ⟨bu, ou, hAu, -⟩ := RU.out (by intro h; have := congrArg List.length h; rw [numN_length 8 _ (by decide)] at this; cases this)
        subst hAu
        have RD := hide (RU.out.drop 4)
        rw [← HSB.out] at RD
        have RE : Hid (Rd wu (some ⟨bu, ou + 4, none⟩) (sumB l9)) := RD
        have h8c : 8 ≤ cu := HCU.out
        have h8n : ¬ cu < 8 := by omega
        clear RD RU KU KS
        go_wp2_with (go_loud (refine wpList_catG rfl (.tmp 108) (.tmp 110) rfl BB (.slice AZ nz cz) l9 (sumB l9) (some ⟨bu, ou + 4, none⟩) 4 _ rfl rfl (numN_length 4 _ (by decide)).symm (OWr.out.ext XU.out) RE.out (Nat.le_trans (Nat.le_trans HBW.out YWr.out.size) XU.out.size) (by rw [show (sumB l9).length = 4 from numN_length 4 _ (by decide)]; have := HLWr.out; omega) ?_; intro vf wf ho hb2 hs2))
        go_ret
        refine ⟨vf, rfl, ?_, XW2.out.below HB0.out ((YWr.out.trans (Below.mono XU.out (Nat.le_trans HBW.out YWr.out.size))).trans hb2)⟩
        rw [fullB, HREC.out]
        exact own_mono ho HB0.out
  | true =>
    have hndi : (nd : Int) ≤ 64 := by omega
    go_upto_region 17 with fail
    have XA : Hid (Ext m1 (World.alloc m1 (.cells #[.int .u8 (2 * (nd : Int) + 1)] 5))) := hide (Ext.alloc _ _)
    have RA : Hid (Rd (World.alloc m1 (.cells #[.int .u8 (2 * (nd : Int) + 1)] 5)) (some ⟨(World.heap m1).size, 0, none⟩) (numN 1 (2 * (nd : Int) + 1))) := hide (by
      rw [show numN 1 (2 * (nd : Int) + 1) = [b8 (2 * (nd : Int) + 1)] from by show [b8 ((2 * (nd : Int) + 1) % 256)] = _; rw [Int.emod_eq_of_lt (by omega) (by omega)]]
      exact Rd.one _ _ _ (by omega) (by omega))
    go_upto_region 18 with (go_loud (refine wpList_catG rfl (.tmp 74) (.tmp 77) rfl BB z1 l1 (numN 1 (2 * (nd : Int) + 1)) (some ⟨(World.heap m1).size, 0, none⟩) 1 _ rfl rfl (numN_length 1 _ (by decide)).symm (Op1.out.ext XA.out) RA.out (Nat.le_trans (Nat.le_trans HBW.out Yp1.out.size) XA.out.size) (by rw [numN_length 1 _ (by decide)]; have := HLp1.out; omega) ?_; intro z8 m8 ho hb2 hs2; have Op8 := hide ho; have Yp8 : Hid (Below BB W2 m8) := hide ((Yp1.out.trans (Below.mono XA.out (Nat.le_trans HBW.out Yp1.out.size))).trans hb2); have Xp8 : Hid (Ext w m8) := hide (XW2.out.below HB0.out Yp8.out); have Rp8 := hide (hs2 hb _ _ (by decide) (Rp1.out.ext XA.out)); clear ho hb2 hs2))
    clear Rp1 Op1 XA RA
    clear c0 c1 c2 c3 c4 c5 c6 c7 c8 c9
    obtain ⟨l8, HEp8⟩ : ∃ l, Hid (l1 ++ numN 1 (2 * (nd : Int) + 1) = l) := ⟨_, hide rfl⟩
    rw [HEp8.out] at Op8
    have HLp8 : Hid (l8.length ≤ 18) := hide (by rw [← HEp8.out, List.length_append, numN_length 1 _ (by decide)]; have := HLp1.out; omega)
    have c8 := Rp8.out.cell (i := 8) rfl
    go_upto_region 19 with fail
    go_loopw [3, 5] (fun pz iv wr => ∃ (i : Nat) (v' : Value), i ≤ nd ∧ v' = pz ∧ iv = .int .i64 (i : Int) ∧ Hid (Own wr BB v' (l8 ++ dirB (L.take i))) ∧ Hid (Below BB W2 wr) ∧ Hid (Rw wr hb 26 [.int .u8 6, .int .u64 tx, .int .u64 pv, .int .i64 pg, .int .i64 off, .slice A nb a, .slice B na b', .int .u64 nx, .slice D nd d, .bool true])) (fun _ iv _ => nd - (intOf iv).toNat)
    case atStart => exact ⟨0, _, Nat.zero_le _, rfl, rfl, hide (by rw [List.take_zero]; show Own _ _ _ (l8 ++ []); rw [List.append_nil]; exact Op8.out), Yp8, Rp8⟩
    case round =>
      obtain ⟨i, v', hi, rfl, rfl, OWr, YWr, RWr⟩ := hrel
      clear Op8 Yp8 Rp8 Xp8 c8
      have c8 := RWr.out.cell (i := 8) rfl
      have XWr : Hid (Ext w wr) := hide (XW2.out.below HB0.out YWr.out)
      have HLWr : Hid ((l8 ++ dirB (L.take i)).length ≤ 1000) := hide (by rw [List.length_append, dirB_length, List.length_take]; have := HLp8.out; omega)
      by_cases hlt : i < nd
      · obtain ⟨⟨y, z⟩, he⟩ : ∃ e, L[i]? = some e := ⟨_, List.getElem?_eq_getElem (by rw [HN.out]; exact hlt)⟩
        obtain ⟨hy, hz⟩ := HLL.out _ (List.mem_of_getElem? he)
        have HZ := hide hz
        have hy0 : 0 ≤ y := hy.1
        have hy1 : y < 4096 := hy.2
        obtain ⟨bb, oo, hD, k1, k2⟩ := (HD.out.ext XWr.out).at he
        subst hD
        have HE := hide he
        have hii : (i : Int) < (nd : Int) := by omega
        have hi0 : (0 : Int) ≤ (i : Int) := by omega
        clear he hz hy
        have KA := hide (fun (W : World) => two_any y W hy0 (by omega))
        go_upto_region 22 with (first
          | (go_at_call 25; (with_reducible refine (KA.out _).mono ?_); rintro e ma ⟨Aa, ca, rfl, hca, hra, hxa⟩; have RA := hide hra; have XA := hide hxa; clear hra hxa hca)
          | (refine wpList_catG rfl (.tmp 86) (.tmp 93) rfl BB v' (l8 ++ dirB (L.take i)) (numN 2 y) Aa 2 ca rfl rfl (numN_length 2 _ (by decide)).symm (OWr.out.ext XA.out) RA.out (Nat.le_trans (Nat.le_trans HBW.out YWr.out.size) XA.out.size) (by rw [numN_length 2 _ (by decide)]; have := HLWr.out; omega) ?_; intro z9 m9 ho hb2 hs2; have Op9 := hide ho; have Yp9 : Hid (Below BB W2 m9) := hide ((YWr.out.trans (Below.mono XA.out (Nat.le_trans HBW.out YWr.out.size))).trans hb2); have Xp9 : Hid (Ext w m9) := hide (XW2.out.below HB0.out Yp9.out); have Rp9 := hide (hs2 hb _ _ (by decide) (RWr.out.ext XA.out)); clear ho hb2 hs2))
        obtain ⟨bb2, oo2, hD2, k3, k4⟩ := (HD.out.ext Xp9.out).at HE.out
        cases hD2
        clear k1 k2 c8 KA RA XA OWr RWr
        have c8 := Rp9.out.cell (i := 8) rfl
        have HLp9 : Hid ((l8 ++ dirB (L.take i) ++ numN 2 y).length ≤ 1002) := hide (by rw [List.length_append, numN_length 2 _ (by decide)]; have := HLWr.out; omega)
        have KA := hide (fun (W : World) => runum z W HZ.out.1 HZ.out.2)
        go_upto_region 20 with (first
          | (go_at_call 24; (with_reducible refine (KA.out _).mono ?_); rintro e ma ⟨Aa, ca, rfl, hca, hra, hxa⟩; have RA := hide hra; have XA := hide hxa; clear hra hxa hca)
          | (refine wpList_catG rfl (.tmp 95) (.tmp 102) rfl BB z9 (l8 ++ dirB (L.take i) ++ numN 2 y) (numN 8 z) Aa 8 ca rfl rfl (numN_length 8 _ (by decide)).symm (Op9.out.ext XA.out) RA.out (Nat.le_trans (Nat.le_trans HBW.out Yp9.out.size) XA.out.size) (by rw [numN_length 8 _ (by decide)]; have := HLp9.out; omega) ?_; intro z10 m10 ho hb2 hs2; have Op10 := hide ho; have Yp10 : Hid (Below BB W2 m10) := hide ((Yp9.out.trans (Below.mono XA.out (Nat.le_trans HBW.out Yp9.out.size))).trans hb2); have Xp10 : Hid (Ext w m10) := hide (XW2.out.below HB0.out Yp10.out); have Rp10 := hide (hs2 hb _ _ (by decide) (Rp9.out.ext XA.out)); clear ho hb2 hs2))
        clear k3 k4 c8 KA RA XA Op9 Rp9
        go_wp2
        refine ⟨⟨i + 1, _, by omega, rfl, by go_num, hide (by rw [dirB_snoc L i _ HE.out, ← List.append_assoc, ← List.append_assoc]; exact Op10.out), Yp10, Rp10⟩, by simp [intOf]; omega⟩
      · have hii : ¬ (i : Int) < (nd : Int) := by omega
        obtain ⟨l9, HEp9⟩ : ∃ l, Hid (l8 ++ dirB L = l) := ⟨_, hide rfl⟩
        rw [List.take_of_length_le (by rw [HN.out]; omega), HEp9.out] at OWr HLWr
        have HREC : Hid (recB 6 tx pv pg off nx bf af L true = l9) := hide (by
          rw [← HEp9.out, ← HEp8.out, ← HEp1.out, ← HEp0.out]
          simp [recB, hpv, hch, hnx, hck, HN.out, cntN])
        obtain ⟨AZ, cz, hvz, hcz, hrz⟩ := OWr.out.bytes
        subst hvz
        obtain ⟨nz, HNZ⟩ : ∃ n, Hid (l9.length = n) := ⟨_, hide rfl⟩
        rw [HNZ.out] at OWr ⊢
        have KS := hide (show Calls Tryd.prog 26 #[.slice AZ nz cz] wr _ from HNZ.out ▸ rsum_any AZ cz l9 wr hrz (by have := HLWr.out; omega))
        clear hcz hrz
        obtain ⟨cr, HCR⟩ : ∃ n, Hid (crc l9 = n) := ⟨_, hide rfl⟩
        rw [HCR.out] at KS
        have hcr0 : (0 : Int) ≤ (cr : Int) := by omega
        have hcr1 : (cr : Int) < 4294967296 := by rw [← HCR.out]; unfold crc; omega
        have KU := hide (fun (W : World) => runum (cr : Int) W hcr0 (by omega))
        have HSB : Hid (sumB l9 = (numN 8 (cr : Int)).drop 4) := hide (by unfold sumB; rw [HCR.out]; rfl)
        go_upto_region 24 with (first
          | (go_at_call 26; (with_reducible refine KS.out.mono ?_); rintro e ws ⟨vs, rfl, hxs, rfl⟩; have XS := hide hxs; clear hxs)
          | (go_at_call 24; (with_reducible refine (KU.out _).mono ?_); rintro e wu ⟨Au, cu, rfl, hcu, hru, hxu⟩; have XU := hide (XS.out.trans hxu); have RU := hide hru; have HCU := hide hcu; clear hxu hru hcu))
        have h4c : 4 ≤ cu := by have := HCU.out; omega
        obtain ⟨bu, ou, hAu, -⟩ := RU.out (by intro h; have := congrArg List.length h; rw [numN_length 8 _ (by decide)] at this; cases this)
        subst hAu
        have RD := hide (RU.out.drop 4)
        rw [← HSB.out] at RD
        have RE : Hid (Rd wu (some ⟨bu, ou + 4, none⟩) (sumB l9)) := RD
        have h8c : 8 ≤ cu := HCU.out
        have h8n : ¬ cu < 8 := by omega
        clear RD RU KU KS
        go_wp2_with (go_loud (refine wpList_catG rfl (.tmp 108) (.tmp 110) rfl BB (.slice AZ nz cz) l9 (sumB l9) (some ⟨bu, ou + 4, none⟩) 4 _ rfl rfl (numN_length 4 _ (by decide)).symm (OWr.out.ext XU.out) RE.out (Nat.le_trans (Nat.le_trans HBW.out YWr.out.size) XU.out.size) (by rw [show (sumB l9).length = 4 from numN_length 4 _ (by decide)]; have := HLWr.out; omega) ?_; intro vf wf ho hb2 hs2))
        go_ret
        refine ⟨vf, rfl, ?_, XW2.out.below HB0.out ((YWr.out.trans (Below.mono XU.out (Nat.le_trans HBW.out YWr.out.size))).trans hb2)⟩
        rw [fullB, HREC.out]
        exact own_mono ho HB0.out
end Go.Proofs.YthdahgekodcloaaDoor
namespace Go.Proofs.YthdahgekodcloaaDoor
open Go.RowKit

theorem rencode_yes (k : Int) (tx pv pg off nx : Int) (A B D : Option Addr) (nb a na b' nd d : Nat) (op : Bool) (w : World) (bf af : List UInt8) (L : List (Int × Int)) (ht : Tab w) (hb0 : Rd w A bf) (ha0 : Rd w B af) (hr : RdD w D L) (hbn : bf.length = nb) (han : af.length = na) (hn : L.length = nd) (hnd : nd ≤ 140737488351232) (hna : na ≤ 140737488351232) (hnb : nb ≤ 140737488351232) (ho : -9223372036854775808 ≤ off) (ho2 : off < 9223372036854775808) (htx0 : 0 ≤ tx) (htx : tx < 18446744073709551616) (hpv0 : 0 ≤ pv) (hpv1 : pv < 18446744073709551616) (hnx0 : 0 ≤ nx) (hnx1 : nx < 18446744073709551616) (hdl : ∀ e ∈ L, 0 ≤ e.2 ∧ e.2 < 18446744073709551616) (hf : formN k pv pg off nx na nb nd L op = true) :
    Calls Tryd.prog 13 #[.agg #[.int .u8 k, .int .u64 tx, .int .u64 pv, .int .i64 pg, .int .i64 off, .slice A nb a, .slice B na b', .int .u64 nx, .slice D nd d, .bool op]] w (fun e w' => ∃ v', e = .returned v' ∧ Own w' w.heap.size v' (fullB k tx pv pg off nx bf af L op) ∧ Ext w w') := by
  have hk : 1 ≤ k ∧ k ≤ 6 := by
    simp only [formN, Bool.and_eq_true] at hf
    have h := hf.1
    simpa [hok] using h
  rcases (by omega : k = 1 ∨ k = 2 ∨ k = 3 ∨ k = 4 ∨ k = 5 ∨ k = 6) with rfl | rfl | rfl | rfl | rfl | rfl
  · exact rencode_1 tx pv pg off nx A B D nb a na b' nd d op w bf af L ht hb0 ha0 hr hbn han hn hnd hna hnb ho ho2 htx0 htx hpv0 hpv1 hnx0 hnx1 hdl hf
  · exact rencode_2 tx pv pg off nx A B D nb a na b' nd d op w bf af L ht hb0 ha0 hr hbn han hn hnd hna hnb ho ho2 htx0 htx hpv0 hpv1 hnx0 hnx1 hdl hf
  · exact rencode_3 tx pv pg off nx A B D nb a na b' nd d op w bf af L ht hb0 ha0 hr hbn han hn hnd hna hnb ho ho2 htx0 htx hpv0 hpv1 hnx0 hnx1 hdl hf
  · exact rencode_4 tx pv pg off nx A B D nb a na b' nd d op w bf af L ht hb0 ha0 hr hbn han hn hnd hna hnb ho ho2 htx0 htx hpv0 hpv1 hnx0 hnx1 hdl hf
  · exact rencode_5 tx pv pg off nx A B D nb a na b' nd d op w bf af L ht hb0 ha0 hr hbn han hn hnd hna hnb ho ho2 htx0 htx hpv0 hpv1 hnx0 hnx1 hdl hf
  · exact rencode_6 tx pv pg off nx A B D nb a na b' nd d op w bf af L ht hb0 ha0 hr hbn han hn hnd hna hnb ho ho2 htx0 htx hpv0 hpv1 hnx0 hnx1 hdl hf
end Go.Proofs.YthdahgekodcloaaDoor
namespace Go.Proofs.YthdahgekodcloaaDoor
open Go.RowKit

theorem run_eql_nil {P : Program} (w : World) (t e : TypeId) (a : Option Addr) (l c : Nat) (h : P.underlying t = some (.slice e)) : (binOp .eql t (.slice a l c) (.slice none 0 0)).run P w = .ok (.bool a.isNone) w := by
  simp only [binOp]
  simp [run_equal_slice_nil w t e a l c h]
theorem Own.empty (w : World) : Own (w.alloc (.cells #[] 5)) w.heap.size (.slice (some ⟨w.heap.size, 0, none⟩) 0 0) [] :=
  ⟨rfl, .inr ⟨w.heap.size, 0, #[], rfl, Nat.le_refl _, heap_alloc_new w _, Nat.le_refl _, by unfold maxLen; decide, rfl, rfl⟩⟩
/-- It stays, if just blocks below turn. -/
theorem Own.farB {w : World} {B : Nat} {v : Value} {l : List UInt8} (h : Own w B v l) {g : Nat} (hg : g < B) (i : Nat) (u : Value) : Own (w.setCell ⟨g, i, none⟩ u) B v l := by
  refine ⟨h.1, ?_⟩
  rcases h.2 with hn | ⟨g', cap, cur, rfl, hb, hg', rest⟩
  · exact .inl hn
  · exact .inr ⟨g', cap, cur, rfl, hb, (Below.heap_setCell w ⟨g, i, none⟩ u g' (by show g' ≠ g; omega)).trans hg', rest⟩
set_option maxRecDepth 20000 in
set_option maxHeartbeats 800000 in
theorem clone_any (A : Option Addr) (l : List UInt8) (n c : Nat) (w : World) (hr : Rd w A l) (hn : l.length = n) (hl : n ≤ 140737488351232) : Calls Tryd.prog 35 #[.slice A n c] w (Ret w (fun w' v => Own w' w.heap.size v l)) := by
  rcases A with _ | a
  · have hl : l = [] := by
      cases l with
      | nil => rfl
      | cons x xs => obtain ⟨_, _, hA, _⟩ := hr (by simp); cases hA
    subst hl
    clear hr
    have hq := fun (W : World) => run_eql_nil (P := Tryd.prog) W 23 5 none n c Tryd.underlying23
    go_enter Tryd.func35, Tryd.ntmps35
    go_wp2
    go_ret
    exact Ret.mk (Ext.refl _) (Own.nil _ _)
  · have HR := hide hr
    have HL := hide hl
    have hq := fun (W : World) => run_eql_nil (P := Tryd.prog) W 23 5 (some a) n c Tryd.underlying23
    clear hr hl
    go_enter Tryd.func35, Tryd.ntmps35
    go_wp2_with (at_builtin; refine wpList_cat rfl (.tmp 5) (.tmp 6) rfl w.heap.size _ [] l _ n c rfl rfl hn.symm (Own.empty w) (HR.out.ext (Ext.alloc _ _)) (by simp) (by rw [List.length_nil, hn]; have := HL.out; omega) ?_; intro v2 w2 hown hb; rw [List.nil_append] at hown; have O2 := hide hown; have X2 : Hid (Ext w w2) := hide (Below.trans (Ext.alloc w _) hb); clear hown hb)
    go_ret
    exact Ret.mk X2.out O2.out
end Go.Proofs.YthdahgekodcloaaDoor
namespace Go.Proofs.YthdahgekodcloaaDoor
open Go.RowKit

/-- What is taken from the front of the bytes that are left. -/
def tk (n : Nat) (st : List UInt8 × Bool) : List UInt8 × (List UInt8 × Bool) := if st.1.length < n then ([], ([], true)) else (st.1.take n, (st.1.drop n, st.2))
/-- A reader's block; the bytes that are left lie where they lay in w0. -/
structure RdrAt (w0 w : World) (g : Nat) (st : List UInt8 × Bool) : Prop where
  out : ∃ A c, Rw w g 54 [.slice A st.1.length c, .bool st.2] ∧ st.1.length ≤ c ∧ ((A = none ∧ st.1 = [] ∧ c = 0) ∨ ∃ b off, A = some ⟨b, off, none⟩ ∧ ∀ j u, st.1[j]? = some u → w0.cell? ⟨b, off + j, none⟩ = some (.int .u8 (u.toNat : Int)))
theorem RdrAt.lt {w0 w : World} {g : Nat} {st : List UInt8 × Bool} (h : RdrAt w0 w g st) : g < w.heap.size := by
  obtain ⟨A, c, hr, _⟩ := h.out
  exact hr.lt
theorem RdrAt.same {w0 w w' : World} {g : Nat} {st : List UInt8 × Bool} (h : RdrAt w0 w g st) (hx : w'.heap[g]? = w.heap[g]?) : RdrAt w0 w' g st := by
  obtain ⟨A, c, hr, hc, ha⟩ := h.out
  exact ⟨A, c, hx.trans hr, hc, ha⟩
theorem RdrAt.ext {w0 w w' : World} {g : Nat} {st : List UInt8 × Bool} (h : RdrAt w0 w g st) (hx : Ext w w') : RdrAt w0 w' g st := h.same (hx.block g h.lt)
/-- What a call of the reader leaves beside its answer. -/
def RdrP (w0 w : World) (g : Nat) (st : List UInt8 × Bool) (S : World → Value → Prop) (e : Ending) (w' : World) : Prop := ∃ v, e = .returned v ∧ S w' v ∧ RdrAt w0 w' g st ∧ w.grownBy w' (some g)
theorem grown_set {w w1 : World} {g i : Nat} {v : Value} (h : w.grownBy w1 (some g)) : w.grownBy (w1.setCell ⟨g, i, none⟩ v) (some g) :=
  ⟨h.os, h.tape, h.output, Nat.le_trans h.size (by simp [World.setCell]), fun k hk hne => (Below.heap_setCell w1 ⟨g, i, none⟩ v k (fun e => hne (by rw [e]))).trans (h.block k hk hne)⟩
theorem grown_of_ext {w w' : World} (h : Ext w w') (r : Option Nat) : w.grownBy w' r := ⟨h.os, h.tape, h.output, h.size, fun k hk _ => h.block k hk⟩
set_option maxRecDepth 20000 in
set_option maxHeartbeats 1600000 in
theorem take_any (g n : Nat) (l : List UInt8) (s : Bool) (w0 w : World) (hx : Ext w0 w) (h : RdrAt w0 w g (l, s)) (hl : l.length ≤ 140737488351232) :
    Calls Tryd.prog 33 #[.pointer (some ⟨g, 0, none⟩), .int .i64 (n : Int)] w (RdrP w0 w g (tk n (l, s)).2 (fun w' v => Own w' w.heap.size v (tk n (l, s)).1)) := by
  obtain ⟨A, c, hr, hc, ha⟩ := h.out
  have hc : l.length ≤ c := hc
  obtain ⟨m, HM⟩ : ∃ m, Hid (l.length = m) := ⟨_, hide rfl⟩
  have hr : Rw w g 54 [.slice A l.length c, .bool s] := hr
  rw [HM.out] at hr hc hl
  have c0 := hr.cell (i := 0) rfl
  have c1 := hr.cell (i := 1) rfl
  have f0 := hr.frozen 0
  have f1 := hr.frozen 1
  have HR := hide hr
  by_cases hs : m < n
  · have hsi : (m : Int) < (n : Int) := by omega
    have e : tk n (l, s) = ([], ([], true)) := by unfold tk; rw [if_pos (by show l.length < n; rw [HM.out]; exact hs)]
    rw [e]
    clear e hr h ha hs
    go_enter Tryd.func33, Tryd.ntmps33
    go_wp2
    go_ret
    exact ⟨_, rfl, Own.nil _ _, ⟨none, 0, (HR.out.set 0 _).set 1 _, Nat.le_refl _, .inl ⟨rfl, rfl, rfl⟩⟩, grown_set (grown_set (grown_of_ext (Ext.refl w) _))⟩
  · have hsi : ¬ (m : Int) < (n : Int) := by omega
    have hmn : (n : Int) ≤ (m : Int) := by omega
    have hnc : (n : Int) ≤ (c : Int) := by omega
    have hmc : (m : Int) ≤ (c : Int) := by omega
    have hni : (n : Int) ≤ 140737488351232 := by omega
    have e : tk n (l, s) = (l.take n, (l.drop n, s)) := by unfold tk; rw [if_neg (by show ¬ l.length < n; rw [HM.out]; exact hs)]
    rw [e]
    clear e
    rcases ha with ⟨rfl, hl0, rfl⟩ | ⟨b, off, rfl, hj⟩
    · have hl0 : l = [] := hl0
      have hm0 : m = 0 := by rw [← HM.out, hl0]; rfl
      obtain rfl : n = 0 := by omega
      subst hm0 hl0
      have KC := hide (fun (W : World) => clone_any none [] 0 0 W (Rd.nil _ _) rfl (by omega))
      clear hr h c0 c1 f0 f1 hsi hmn hnc hmc hni hs hl hc
      have c0 := HR.out.cell (i := 0) rfl
      have c1 := HR.out.cell (i := 1) rfl
      go_enter Tryd.func33, Tryd.ntmps33
      go_upto_region 6 with (go_at_call 35; (with_reducible refine (KC.out _).mono ?_); rintro e w2 ⟨v2, rfl, hx2, ho2⟩; have X2 := hide hx2; have O2 := hide ho2; have R2 := hide (HR.out.ext hx2); clear hx2 ho2)
      clear c0 c1
      have c0 := R2.out.cell (i := 0) rfl
      have f0 := R2.out.frozen 0
      go_wp2
      go_ret
      exact ⟨v2, rfl, O2.out.farB HR.out.lt 0 _, ⟨none, 0, R2.out.set 0 _, Nat.le_refl _, .inl ⟨rfl, rfl, rfl⟩⟩, grown_set (grown_of_ext X2.out _)⟩
    · have RL : Hid (Rd w (some ⟨b, off, none⟩) (l.take n)) := hide (((show Rd w0 (some ⟨b, off, none⟩) l from fun _ => ⟨b, off, rfl, hj⟩).ext hx).take n)
      have HTL : Hid ((l.take n).length = n) := hide (by rw [List.length_take, HM.out]; omega)
      have HDL : Hid ((l.drop n).length = m - n) := hide (by rw [List.length_drop, HM.out])
      have KC := hide (fun (W : World) => clone_any (some ⟨b, off, none⟩) (l.take n) n c W)
      have HJ := hide hj
      have HHC := hide hc
      clear hr h hs hj hl hx
      by_cases hcn : c = n
      · obtain rfl : c = m := by have := HHC.out; omega
        subst hcn
        go_enter Tryd.func33, Tryd.ntmps33
        go_upto_region 6 with (go_at_call 35; (with_reducible refine (KC.out _ RL.out HTL.out (by omega)).mono ?_); rintro e w2 ⟨v2, rfl, hx2, ho2⟩; have X2 := hide hx2; have O2 := hide ho2; have R2 := hide (HR.out.ext hx2); clear hx2 ho2)
        clear c0 c1 f0 f1
        have c0 := R2.out.cell (i := 0) rfl
        have f0 := R2.out.frozen 0
        go_wp2
        go_ret
        refine ⟨v2, rfl, O2.out.farB HR.out.lt 0 _, ⟨some ⟨b, off, none⟩, 0, ?_, ?_, .inr ⟨b, off, rfl, fun j u hu => ?_⟩⟩, grown_set (grown_of_ext X2.out _)⟩
        · show Rw _ _ _ [.slice _ (l.drop c).length _, _]
          rw [HDL.out, Nat.sub_self]
          exact R2.out.set 0 _
        · show (l.drop c).length ≤ 0
          rw [HDL.out]; omega
        · have hu : (l.drop c)[j]? = some u := hu
          rw [List.drop_eq_nil_of_le (by rw [HM.out]; exact Nat.le_refl _)] at hu
          cases hu
      · have hcn2 : ¬ c = n := hcn
        go_enter Tryd.func33, Tryd.ntmps33
        go_upto_region 6 with (go_at_call 35; (with_reducible refine (KC.out _ RL.out HTL.out (by omega)).mono ?_); rintro e w2 ⟨v2, rfl, hx2, ho2⟩; have X2 := hide hx2; have O2 := hide ho2; have R2 := hide (HR.out.ext hx2); clear hx2 ho2)
        clear c0 c1 f0 f1
        have c0 := R2.out.cell (i := 0) rfl
        have f0 := R2.out.frozen 0
        go_wp2
        go_ret
        refine ⟨v2, rfl, O2.out.farB HR.out.lt 0 _, ⟨some ⟨b, off + n, none⟩, c - n, ?_, ?_, .inr ⟨b, off + n, rfl, fun j u hu => ?_⟩⟩, grown_set (grown_of_ext X2.out _)⟩
        · show Rw _ _ _ [.slice _ (l.drop n).length _, _]
          rw [HDL.out]
          exact R2.out.set 0 _
        · show (l.drop n).length ≤ c - n
          rw [HDL.out]; have := HHC.out; omega
        · have hu : (l.drop n)[j]? = some u := hu
          rw [List.getElem?_drop] at hu
          rw [Nat.add_assoc]
          exact HJ.out (n + j) u hu
theorem tk_le (n : Nat) (st : List UInt8 × Bool) : (tk n st).1.length ≤ n := by
  unfold tk
  split
  · exact Nat.zero_le _
  · rw [List.length_take]; omega
theorem tk_left (n : Nat) (st : List UInt8 × Bool) : (tk n st).2.1.length ≤ st.1.length := by
  unfold tk
  split
  · exact Nat.zero_le _
  · show (st.1.drop n).length ≤ _
    rw [List.length_drop]; omega
set_option maxRecDepth 20000 in
set_option maxHeartbeats 1600000 in
theorem number_any (g n : Nat) (st : List UInt8 × Bool) (w0 w : World) (hx : Ext w0 w) (h : RdrAt w0 w g st) (hl : st.1.length ≤ 140737488351232) (hn : n ≤ 8) :
    Calls Tryd.prog 32 #[.pointer (some ⟨g, 0, none⟩), .int .i64 (n : Int)] w (RdrP w0 w g (tk n st).2 (fun _ v => v = .int .u64 (num (tk n st).1))) := by
  have KT := hide (take_any g n st.1 st.2 w0 w hx h hl)
  obtain ⟨t, HT⟩ : ∃ t, Hid ((tk n st).1 = t) := ⟨_, hide rfl⟩
  obtain ⟨s2, HS⟩ : ∃ s, Hid ((tk n st).2 = s) := ⟨_, hide rfl⟩
  have HTL : Hid (t.length ≤ n) := hide (by rw [← HT.out]; exact tk_le n st)
  rw [show (st.1, st.2) = st from rfl, HT.out, HS.out] at KT
  rw [HT.out, HS.out]
  clear h hl hx
  obtain ⟨p, HP⟩ : ∃ p, Hid (t.length = p) := ⟨_, hide rfl⟩
  have hp8 : (p : Int) ≤ 8 := by have := HTL.out; have := HP.out; omega
  go_enter Tryd.func32, Tryd.ntmps32
  go_upto_region 3 with (go_at_call 33; (with_reducible refine KT.out.mono ?_); rintro e w2 ⟨v2, rfl, ho2, hr2, hg2⟩; obtain ⟨At, ct, rfl, -, hrt⟩ := Own.bytes ho2; have RT := hide hrt; have R2 := hide hr2; have G2 := hide hg2; clear hrt hr2 hg2 ho2)
  rw [HP.out]
  go_loop [5, 7, 12] (fun u _ c => ∃ j : Nat, j ≤ p ∧ c = .int .i64 j ∧ u = .int .u64 (num (t.take j))) (fun _ _ c => p - (intOf c).toNat)
  case atStart => exact ⟨0, Nat.zero_le _, rfl, rfl⟩
  case round =>
    obtain ⟨j, hj, rfl, rfl⟩ := hrel
    by_cases hlt : j < p
    · obtain ⟨b, off, x, rfl, hx, hc⟩ := RT.out.at (k := j) (by rw [HP.out]; exact hlt)
      have hb := (num_bound (t.take j)).1
      have HX := hide hx
      have hji : (j : Int) < (p : Int) := by omega
      clear hx
      go_wp2
      refine ⟨⟨j + 1, by omega, by go_num, ?_⟩, by simp [intOf]; omega⟩
      have hb2 := num_take_lt t j (by omega)
      have hx2 := x.toNat_lt
      have hst := num_step t 0 j x (by rw [Nat.zero_add]; exact HX.out)
      rw [List.drop_zero] at hst
      rw [or_byte _ _ hb hb2 (by omega) (by omega), hst]
    · obtain rfl : j = p := by omega
      go_wp2
      go_ret
      exact ⟨_, rfl, by rw [List.take_of_length_le (by rw [HP.out]; exact Nat.le_refl _)]; rfl, R2.out, G2.out⟩
end Go.Proofs.YthdahgekodcloaaDoor
namespace Go.Proofs.YthdahgekodcloaaDoor
open Go.RowKit

def dvs (L : List (Int × Int)) : List Value := L.flatMap fun d => [.int .i64 d.1, .int .u64 d.2]
theorem dvs_append (a b : List (Int × Int)) : dvs (a ++ b) = dvs a ++ dvs b := List.flatMap_append
theorem dvs_get : ∀ (L : List (Int × Int)) (j : Nat) (d : Int × Int), L[j]? = some d → (dvs L)[j * 2]? = some (.int .i64 d.1) ∧ (dvs L)[j * 2 + 1]? = some (.int .u64 d.2)
  | [], _, _, h => by cases h
  | x :: L, 0, d, h => by injection h with h; subst h; exact ⟨rfl, rfl⟩
  | x :: L, j + 1, d, h => by
    have ih := dvs_get L j d h
    have e : dvs (x :: L) = .int .i64 x.1 :: .int .u64 x.2 :: dvs L := rfl
    rw [e, show (j + 1) * 2 = j * 2 + 1 + 1 by omega]
    exact ih
/-- Dirty pages of the call's own. -/
def OwnD (w : World) (B : Nat) (v : Value) (L : List (Int × Int)) : Prop := w.ownsRow B 47 2 v L.length (dvs L)
theorem OwnD.nil (w : World) (B : Nat) : OwnD w B (.slice none 0 0) [] := World.ownsRow_nil _ _ _ _
theorem OwnD.same {w w' : World} {B : Nat} {v : Value} {L : List (Int × Int)} (h : OwnD w B v L) (hx : ∀ k, v.ownBlock = some k → w'.heap[k]? = w.heap[k]?) : OwnD w' B v L := by
  refine ⟨h.1, ?_⟩
  rcases h.2 with hn | ⟨g, cap, cur, rfl, hb, hg, rest⟩
  · exact .inl hn
  · exact .inr ⟨g, cap, cur, rfl, hb, (hx g rfl).trans hg, rest⟩
theorem OwnD.at {w : World} {B : Nat} {v : Value} {L : List (Int × Int)} (h : OwnD w B v L) (k : Nat) (hk : v.ownBlock = some k) : B ≤ k ∧ k < w.heap.size := by
  rcases h.2 with ⟨rfl, _⟩ | ⟨g, cap, cur, rfl, hb, hg, _⟩
  · cases hk
  · injection hk with hk
    subst hk
    exact ⟨hb, (Array.getElem?_eq_some_iff.1 hg).1⟩
theorem OwnD.slice {w : World} {B : Nat} {v : Value} {L : List (Int × Int)} (h : OwnD w B v L) : ∃ A c, v = .slice A L.length c ∧ L.length ≤ c ∧ RdD w A L := by
  rcases h.2 with ⟨rfl, h0⟩ | ⟨g, cap, cur, rfl, hb, hg, hnc, _⟩
  · exact ⟨none, 0, by rw [h0], by rw [h0]; exact Nat.le_refl _, fun hn => absurd (List.length_eq_zero_iff.1 h0) hn⟩
  · refine ⟨_, cap, rfl, hnc, fun _ => ⟨g, 0, rfl, fun j d hj => ?_⟩⟩
    obtain ⟨e1, e2⟩ := dvs_get L j d hj
    have c1 := h.cells (g := g) rfl (j * 2) _ e1
    have c2 := h.cells (g := g) rfl (j * 2 + 1) _ e2
    rw [add_flat] at c1 c2
    exact ⟨c1, c2⟩
theorem info_dirty : (Tryd.prog.info? 47).map (fun i => (i.zero, i.size, i.bytes)) = some (some (.agg #[.int .i64 0, .int .u64 0]), 2, 16) := by kernel_rfl
theorem info_partsD : ∃ i0, Tryd.prog.info? 47 = some i0 ∧ i0.zero = some (.agg #[.int .i64 0, .int .u64 0]) ∧ i0.size = 2 ∧ i0.bytes = 16 := by
  have h := info_dirty
  cases hq : Tryd.prog.info? 47 with
  | none => rw [hq] at h; cases h
  | some i =>
    rw [hq] at h
    simp only [Option.map_some, Option.some.injEq, Prod.mk.injEq] at h
    exact ⟨i, rfl, h.1, h.2.1, h.2.2⟩
theorem append_dr {W : World} {B : Nat} {v : Value} {L : List (Int × Int)} (d : Int × Int) (hown : OwnD W B v L) (hk : L.length ≤ 1000) (hB : B ≤ W.heap.size) (ty : Nat) :
    ∃ A' c' W2, (Builtin.append_ #[24, 24] ty #[v, .slice (some ⟨W.heap.size, 0, none⟩) 1 1]).run Tryd.prog (W.alloc (.cells #[.int .i64 d.1, .int .u64 d.2] 47)) = .ok (.slice A' (L.length + 1) c') W2 ∧
      OwnD W2 B (.slice A' (L.length + 1) c') (L ++ [d]) ∧ (W.alloc (.cells #[.int .i64 d.1, .int .u64 d.2] 47)).grownBy W2 v.ownBlock := by
  obtain ⟨i0, hi, hz, hsz, hby⟩ := info_partsD
  have R := Rw.new W 47 [.int .i64 d.1, .int .u64 d.2]
  have hX := Ext.alloc W (.cells #[.int .i64 d.1, .int .u64 d.2] 47)
  have hown' : OwnD (W.alloc (.cells #[.int .i64 d.1, .int .u64 d.2] 47)) B v L := hown.same fun k hk => hX.block k (hown.at k hk).2
  have hone : ∀ u ∈ [Value.int .i64 d.1, .int .u64 d.2], u.oneCell' = true := by
    intro u hu
    rcases List.mem_cons.1 hu with rfl | hu
    · rfl
    · rw [List.mem_singleton.1 hu]; rfl
  obtain ⟨v', w', hrun, h3, h4, -, -⟩ := run_append_own_at (P := Tryd.prog) (w := W.alloc (.cells #[.int .i64 d.1, .int .u64 d.2] 47)) B 24 ty 47 i0 _ 2 16 Tryd.underlying24 hi hz hsz hby rfl (by decide) v L.length (dvs L) hown' ⟨W.heap.size, 0, none⟩ 1 1 [.int .i64 d.1, .int .u64 d.2] rfl (fun j u hu => by rw [add_flat, Nat.zero_add]; exact R.cell hu) hone (by unfold maxLen; omega) (by omega) (Nat.le_trans hB hX.size)
  obtain ⟨A', c', rfl⟩ : ∃ A' c', v' = .slice A' (L.length + 1) c' := by
    rcases h3.2 with ⟨_, h0⟩ | ⟨g', cap, _, hv, _⟩
    · omega
    · exact ⟨_, _, hv⟩
  refine ⟨A', c', w', hrun, ?_, h4⟩
  unfold OwnD
  rw [dvs_append, List.length_append]
  exact h3
/-- The dirty pages that stand in front. -/
def dirR : Nat → List UInt8 × Bool → List (Int × Int) × (List UInt8 × Bool)
  | 0, st => ([], st)
  | m + 1, st => ((num (tk 2 st).1, num (tk 8 (tk 2 st).2).1) :: (dirR m (tk 8 (tk 2 st).2).2).1, (dirR m (tk 8 (tk 2 st).2).2).2)
theorem build_dr (y z : Int) (W : World) : (Instr.buildSlice 24 1 #[(0, .agg #[.int .i64 y, .int .u64 z])]).run Tryd.prog W = .ok (.slice (some ⟨W.heap.size, 0, none⟩) 1 1) (W.alloc (.cells #[.int .i64 y, .int .u64 z] 47)) := by kernel_rfl
theorem gives_buildSlice {P : Program} {o : Oper} {a : Act} {w : World} {R : Value → World → Prop} {t : TypeId} {n : Nat} {parts : Array (Nat × Operand)} {v : Value} {w' : World} (h : o.op = .buildSlice t n parts) (vs : List (Nat × Value)) (hv : parts.toList.map (fun x => (x.1, a.eval x.2)) = vs)
    (hrun : (Instr.buildSlice t n vs.toArray).run P w = .ok v w') (hR : R v w') : gives P o a w R := by
  refine gives_of_run (w' := w') (v := v) ?_ hR
  have e : (parts.map fun (i, x) => (i, a.eval x)) = vs.toArray := by
    apply Array.ext'
    rw [Array.toList_map]
    exact hv
  unfold execOp
  simp only [h, e, Sem.run_bind, hrun, Result.andThen_ok, Sem.run_pure]
theorem gives_append {P : Program} {o : Oper} {a : Act} {w : World} {R : Value → World → Prop} {s x : Operand} {t : TypeId} {u y v : Value} {w' : World} (h : o.op = .call { callee := .builtin .append, args := #[s, x], argTypes := #[t, t] }) (hs : a.eval s = u) (hx : a.eval x = y)
    (hrun : (Builtin.append_ #[t, t] o.type #[u, y]).run P w = .ok v w') (hR : R v w') : gives P o a w R := by
  refine gives_of_run (w' := w') (v := v) ?_ hR
  unfold execOp
  simp only [h, resolve, invoke, builtin, Sem.run_bind, Sem.run_pure, Result.andThen_ok, List.map_toArray, List.map_cons, List.map_nil, hs, hx, hrun]
theorem step_gives {P : Program} {ops : Array Oper} {o : Oper} {a : Act} {w w' : World} {x : Value} {K : Act → World → Prop} {Q : Exit → Act → World → Prop} {E : Prop} (h : gives P o a w fun v w2 => v = x ∧ w2 = w') (hgd : o.guard = none) (hK : K (a.put o.dst x) w') :
    if Region.wanted o (yielded ops a.tmps) = true then o.wp P a w K Q else E := by
  rw [if_pos (by simp [Region.wanted, hgd])]
  exact wp_of_gives h fun v w2 ⟨hv, hw⟩ => by subst hv hw; exact hK
/-- All blocks but two stay. -/
structure Only2 (g h : Nat) (w w' : World) : Prop where
  os : w'.os = w.os
  tape : w'.tape = w.tape
  output : w'.output = w.output
  size : w.heap.size ≤ w'.heap.size
  block : ∀ k, k < w.heap.size → k ≠ g → k ≠ h → w'.heap[k]? = w.heap[k]?
theorem Only2.refl (g h : Nat) (w : World) : Only2 g h w w := ⟨rfl, rfl, rfl, Nat.le_refl _, fun _ _ _ _ => rfl⟩
theorem Only2.grown {g h : Nat} {w w1 w2 : World} {r : Option Nat} (k : Only2 g h w w1) (hg : w1.grownBy w2 r) (hr : ∀ b, r = some b → b = g ∨ b = h ∨ w.heap.size ≤ b) : Only2 g h w w2 :=
  ⟨hg.os.trans k.os, hg.tape.trans k.tape, hg.output.trans k.output, Nat.le_trans k.size hg.size, fun b hb h1 h2 => (hg.block b (Nat.lt_of_lt_of_le hb k.size) (fun e => by rcases hr b e.symm with h3 | h3 | h3 <;> omega)).trans (k.block b hb h1 h2)⟩
theorem Only2.ext {g h : Nat} {w w1 w2 : World} (k : Only2 g h w w1) (hx : Ext w1 w2) : Only2 g h w w2 := k.grown (grown_of_ext hx none) (fun b h => by cases h)
theorem Only2.set {g h : Nat} {w w1 : World} (k : Only2 g h w w1) (i : Nat) (v : Value) : Only2 g h w (w1.setCell ⟨h, i, none⟩ v) :=
  ⟨k.os, k.tape, k.output, Nat.le_trans k.size (by simp [World.setCell]), fun b hb h1 h2 => (Below.heap_setCell w1 ⟨h, i, none⟩ v b h2).trans (k.block b hb h1 h2)⟩
theorem Only2.ofExt {g h : Nat} {w0 w w' : World} (k : Only2 g h w w') (hx : Ext w0 w) (hg : w0.heap.size ≤ g) (hh : w0.heap.size ≤ h) : Ext w0 w' :=
  ⟨k.os.trans hx.os, k.tape.trans hx.tape, k.output.trans hx.output, Nat.le_trans hx.size k.size, fun b hb => (k.block b (Nat.lt_of_lt_of_le hb hx.size) (by omega) (by omega)).trans (hx.block b hb)⟩
theorem rdr_ne {w0 w : World} {g h : Nat} {st : List UInt8 × Bool} {t : TypeId} {vs : List Value} (hr : RdrAt w0 w g st) (hR : Rw w h t vs) (ht : t ≠ 54) : h ≠ g := fun e => by
  subst e
  obtain ⟨A, c, h1, _⟩ := hr.out
  unfold Rw at h1 hR
  rw [h1] at hR
  injection hR with hR
  injection hR with _ h2
  exact ht h2.symm
theorem num_lt (n : Nat) (st : List UInt8 × Bool) : 0 ≤ num (tk n st).1 ∧ num (tk n st).1 < 256 ^ n := by
  have h := num_bound (tk n st).1
  refine ⟨h.1, Int.lt_of_lt_of_le h.2 ?_⟩
  have h3 : 256 ^ (tk n st).1.length ≤ 256 ^ n := Nat.pow_le_pow_right (by omega) (tk_le n st)
  have h2 : ((256 ^ (tk n st).1.length : Nat) : Int) ≤ ((256 ^ n : Nat) : Int) := Int.ofNat_le.2 h3
  rw [Int.natCast_pow, Int.natCast_pow] at h2
  exact h2
theorem dirR_len : ∀ (m : Nat) (st : List UInt8 × Bool), (dirR m st).1.length = m
  | 0, _ => rfl
  | m + 1, st => by simp only [dirR, List.length_cons, dirR_len m]
theorem number_1 (g : Nat) (st : List UInt8 × Bool) (w0 w : World) (hx : Ext w0 w) (h : RdrAt w0 w g st) (hl : st.1.length ≤ 140737488351232) :
    Calls Tryd.prog 32 #[.pointer (some ⟨g, 0, none⟩), .int .i64 1] w (RdrP w0 w g (tk 1 st).2 (fun _ v => v = .int .u64 (num (tk 1 st).1))) := number_any g 1 st w0 w hx h hl (by decide)
theorem number_2 (g : Nat) (st : List UInt8 × Bool) (w0 w : World) (hx : Ext w0 w) (h : RdrAt w0 w g st) (hl : st.1.length ≤ 140737488351232) :
    Calls Tryd.prog 32 #[.pointer (some ⟨g, 0, none⟩), .int .i64 2] w (RdrP w0 w g (tk 2 st).2 (fun _ v => v = .int .u64 (num (tk 2 st).1))) := number_any g 2 st w0 w hx h hl (by decide)
theorem number_8 (g : Nat) (st : List UInt8 × Bool) (w0 w : World) (hx : Ext w0 w) (h : RdrAt w0 w g st) (hl : st.1.length ≤ 140737488351232) :
    Calls Tryd.prog 32 #[.pointer (some ⟨g, 0, none⟩), .int .i64 8] w (RdrP w0 w g (tk 8 st).2 (fun _ v => v = .int .u64 (num (tk 8 st).1))) := number_any g 8 st w0 w hx h hl (by decide)
end Go.Proofs.YthdahgekodcloaaDoor
namespace Go.Proofs.YthdahgekodcloaaDoor
open Go.RowKit

set_option maxRecDepth 20000 in
set_option maxHeartbeats 6400000 in
theorem check_any (g h : Nat) (st : List UInt8 × Bool) (k tx pv pg off nx : Int) (v5 v6 : Value) (o0 : Bool) (w0 w : World) (hx : Ext w0 w) (hg0 : w0.heap.size ≤ g) (hh0 : w0.heap.size ≤ h) (hr : RdrAt w0 w g st) (hl : st.1.length ≤ 140737488351232) (hR : Rw w h 26 [.int .u8 k, .int .u64 tx, .int .u64 pv, .int .i64 pg, .int .i64 off, v5, v6, .int .u64 nx, .slice none 0 0, .bool o0])
    (q : Nat) (hq : num (tk 1 st).1 = (q : Int)) :
    Calls Tryd.prog 34 #[.pointer (some ⟨g, 0, none⟩), .pointer (some ⟨h, 0, none⟩)] w (fun e w' => e = .returned (.tuple #[]) ∧ ∃ v8, Rw w' h 26 [.int .u8 k, .int .u64 tx, .int .u64 pv, .int .i64 pg, .int .i64 off, v5, v6, .int .u64 nx, v8, .bool ((q : Int) % 2 == 1)] ∧ OwnD w' w.heap.size v8 (dirR (q / 2) (tk 1 st).2).1 ∧ RdrAt w0 w' g (dirR (q / 2) (tk 1 st).2).2 ∧ Only2 g h w w') := by
  have HX := hide hx
  have HG0 := hide hg0
  have HH0 := hide hh0
  have HRR := hide hr
  have HRW := hide hR
  have hne := rdr_ne hr hR (by decide)
  have HNE := hide hne
  have KN := hide (number_1 g st w0 w hx hr hl)
  have hqb : (q : Int) ≤ 255 := by have := (num_lt 1 st).2; rw [hq] at this; omega
  obtain ⟨s1, HS1⟩ : ∃ s, Hid ((tk 1 st).2 = s) := ⟨_, hide rfl⟩
  have HL1 : Hid (s1.1.length ≤ 140737488351232) := hide (by rw [← HS1.out]; exact Nat.le_trans (tk_left 1 st) hl)
  rw [hq, HS1.out] at KN
  rw [HS1.out]
  have HGW0 : Hid (g < w.heap.size ∧ h < w.heap.size) := hide ⟨hr.lt, hR.lt⟩
  clear hx hg0 hh0 hr hR hl hq hne
  have hwq : IntKind.i64.wrap (q : Int) = (q : Int) := by rw [IntKind.wrap_i64]; omega
  go_enter Tryd.func34, Tryd.ntmps34
  go_upto_region 1 with (go_at_call 32; (with_reducible refine KN.out.mono ?_); rintro e w2 ⟨v2, rfl, rfl, hr2, hg2⟩; have R2 := hide hr2; have G2 := hide hg2; have RW2 := hide ((hg2.block h HRW.out.lt (fun e => HNE.out (by injection e))).trans HRW.out); have Y2 : Hid (Only2 g h w w2) := hide ((Only2.refl g h w).grown hg2 (fun b e => .inl (by injection e with e; exact e.symm))); clear hr2 hg2)
  have RW2 : Hid (Rw w2 h 26 [.int .u8 k, .int .u64 tx, .int .u64 pv, .int .i64 pg, .int .i64 off, v5, v6, .int .u64 nx, .slice none 0 0, .bool o0]) := RW2
  have f9 := RW2.out.frozen 9
  have c9 := RW2.out.cell (i := 9) rfl
  go_upto_region 3 with fail
  obtain ⟨op, HOP⟩ : ∃ op, Hid (((q : Int) % 2 == 1) = op) := ⟨_, hide rfl⟩
  obtain ⟨m, HMM⟩ : ∃ m : Nat, Hid (q / 2 = m) := ⟨_, hide rfl⟩
  rw [show (q : Int) / 2 = ((q / 2 : Nat) : Int) by omega, HMM.out]
  rw [HOP.out]

  obtain ⟨w3, hR3, hY3, hr3, hgg⟩ : ∃ w3, Rw w3 h 26 [.int .u8 k, .int .u64 tx, .int .u64 pv, .int .i64 pg, .int .i64 off, v5, v6, .int .u64 nx, .slice none 0 0, .bool op] ∧ Only2 g h w w3 ∧ RdrAt w0 w3 g s1 ∧ w2.setCell ⟨h, 9, none⟩ (.bool op) = w3 := ⟨_, RW2.out.set 9 _, Y2.out.set 9 _, R2.out.same (Below.heap_setCell w2 ⟨h, 9, none⟩ _ g (fun e => HNE.out e.symm)), rfl⟩
  rw [hgg]
  have RW3 := hide hR3
  have Y3 := hide hY3
  have R3 := hide hr3
  clear hgg hR3 hY3 hr3 R2 G2 RW2 Y2 f9 c9 KN HRR
  have hmb : (m : Int) ≤ 127 := by have := HMM.out; omega
  have HGW : Hid (g < w.heap.size ∧ h < w.heap.size) := HGW0
  go_loopw [17] (fun iv wr => ∃ (i : Nat) (acc : List (Int × Int)) (sti : List UInt8 × Bool) (v8 : Value), i ≤ m ∧ iv = .int .i64 (i : Int) ∧ Hid (dirR m s1 = (acc ++ (dirR (m - i) sti).1, (dirR (m - i) sti).2)) ∧ Hid (acc.length = i) ∧ Hid (sti.1.length ≤ 140737488351232) ∧ Hid (Rw wr h 26 [.int .u8 k, .int .u64 tx, .int .u64 pv, .int .i64 pg, .int .i64 off, v5, v6, .int .u64 nx, v8, .bool op]) ∧ Hid (OwnD wr w.heap.size v8 acc) ∧ Hid (RdrAt w0 wr g sti) ∧ Hid (Only2 g h w wr)) (fun iv _ => m - (intOf iv).toNat)
  case atStart => exact ⟨0, [], s1, .slice none 0 0, Nat.zero_le _, rfl, hide rfl, hide rfl, HL1, RW3, hide (OwnD.nil _ _), R3, Y3⟩
  case round =>
    obtain ⟨i, acc, sti, v8, hi, rfl, HDR, HAL, HLI, RWI, DI, RI, YI⟩ := hrel
    clear RW3 Y3 R3
    by_cases hlt : i < m
    · have hii : (i : Int) < (m : Int) := by omega
      have hi0 : (0 : Int) ≤ (i : Int) := by omega
      have KN2 := hide (number_2 g sti w0 _ (YI.out.ofExt HX.out HG0.out HH0.out) RI.out HLI.out)
      obtain ⟨y, HY⟩ : ∃ y, Hid (num (tk 2 sti).1 = y) := ⟨_, hide rfl⟩
      obtain ⟨sj, HSJ⟩ : ∃ s, Hid ((tk 2 sti).2 = s) := ⟨_, hide rfl⟩
      have hyb : 0 ≤ y ∧ y < 65536 := by have h := num_lt 2 sti; rw [HY.out] at h; exact ⟨h.1, by have := h.2; omega⟩
      have hwy : IntKind.i64.wrap y = y := by rw [IntKind.wrap_i64]; omega
      have HLJ : Hid (sj.1.length ≤ 140737488351232) := hide (by rw [← HSJ.out]; exact Nat.le_trans (tk_left 2 sti) HLI.out)
      rw [HY.out, HSJ.out] at KN2
      go_upto_region 5 with (go_at_call 32; (with_reducible refine KN2.out.mono ?_); rintro e w4 ⟨v4, rfl, rfl, hr4, hg4⟩; have R4 := hide hr4; have RW4 := hide ((hg4.block h RWI.out.lt (fun e => HNE.out (by injection e))).trans RWI.out); have D4 := hide (DI.out.same (fun b hb => hg4.block b (DI.out.at b hb).2 (fun e => by injection e with e; have := (DI.out.at b hb).1; have := HGW.out.1; omega))); have Y4 : Hid (Only2 g h w w4) := hide (YI.out.grown hg4 (fun b e => .inl (by injection e with e; exact e.symm))); clear hr4 hg4)
      have RW4 : Hid (Rw w4 h 26 [.int .u8 k, .int .u64 tx, .int .u64 pv, .int .i64 pg, .int .i64 off, v5, v6, .int .u64 nx, v8, .bool op]) := RW4
      obtain ⟨A8, cc8, hv8, -, -⟩ := D4.out.slice
      rw [HAL.out] at hv8
      subst hv8
      have f8 := RW4.out.frozen 8
      have c8 := RW4.out.cell (i := 8) rfl
      have KN8 := hide (number_8 g sj w0 w4.drew ((Y4.out.ofExt HX.out HG0.out HH0.out).trans (Ext.drew _)) (R4.out.ext (Ext.drew _)) HLJ.out)
      obtain ⟨z, HZ⟩ : ∃ y, Hid (num (tk 8 sj).1 = y) := ⟨_, hide rfl⟩
      obtain ⟨sk, HSK⟩ : ∃ s, Hid ((tk 8 sj).2 = s) := ⟨_, hide rfl⟩
      rw [HZ.out, HSK.out] at KN8
      clear KN2 RI RWI DI YI
      go_region_law (first
          | (go_simp; go_at_call 32; refine KN8.out.mono ?_; rintro e w5 ⟨v5q, rfl, rfl, hr5, hg5⟩; have c8b : w5.cell? ⟨h, 8, none⟩ = some (.slice A8 i cc8) := (World.cell?_of_block (a := ⟨h, 8, none⟩) (hg5.block h RW4.out.lt (fun e => HNE.out (by injection e)))).trans c8; have RW5 : Rw w5 h 26 [.int .u8 k, .int .u64 tx, .int .u64 pv, .int .i64 pg, .int .i64 off, v5, v6, .int .u64 nx, .slice A8 i cc8, .bool op] := (hg5.block h RW4.out.lt (fun e => HNE.out (by injection e))).trans RW4.out; have c8d := (RW5.ext (Ext.alloc w5 (.cells #[.int .i64 y, .int .u64 z] 47))).cell (i := 8) rfl; have D5 : OwnD w5 w.heap.size (.slice A8 i cc8) acc := D4.out.same (fun b hb => hg5.block b (D4.out.at b hb).2 (fun e => by injection e with e; have := (D4.out.at b hb).1; have := HGW.out.1; omega)); have Y5 : Only2 g h w w5 := (Y4.out.ext (Ext.drew _)).grown hg5 (fun b e => .inl (by injection e with e; exact e.symm)))
          | (obtain ⟨A9, cc9, w9, hrun, ho9, hg9⟩ := append_dr (W := w5) (y, z) D5 (by rw [HAL.out]; omega) Y5.size 24; refine step_gives (gives_append (s := .tmp 26) (x := .tmp 31) rfl (by rfl) (by rfl) hrun ⟨rfl, rfl⟩) rfl ?_; have RW9 : Rw w9 h 26 [.int .u8 k, .int .u64 tx, .int .u64 pv, .int .i64 pg, .int .i64 off, v5, v6, .int .u64 nx, .slice A8 i cc8, .bool op] := (hg9.block h (RW5.ext (Ext.alloc _ _)).lt (fun e => by have := (D5.at h e.symm).1; have := HGW.out.2; omega)).trans (RW5.ext (Ext.alloc _ _)); have c8c := RW9.cell (i := 8) rfl; have f8c := RW9.frozen 8))
      all_goals
        have Y9 : Only2 g h w w9 := (Y5.ext (Ext.alloc _ _)).grown hg9 (fun b e => .inr (.inr (D5.at b e).1))
        have RW9b : Rw w9 h 26 [.int .u8 k, .int .u64 tx, .int .u64 pv, .int .i64 pg, .int .i64 off, v5, v6, .int .u64 nx, .slice A8 i cc8, .bool op] := RW9
        have R9 : RdrAt w0 w9 g sk := (hr5.ext (Ext.alloc _ _)).same (hg9.block g (hr5.ext (Ext.alloc _ _)).lt (fun e => by have := (D5.at g e.symm).1; have := HGW.out.1; omega))
        obtain ⟨wx, hwx⟩ : ∃ wx, w9.setCell ⟨h, 8, none⟩ (.slice A9 (acc.length + 1) cc9) = wx := ⟨_, rfl⟩
        have YX : Hid (Only2 g h w wx) := hide (by rw [← hwx]; exact Y9.set 8 _)
        have RWX : Hid (Rw wx h 26 [.int .u8 k, .int .u64 tx, .int .u64 pv, .int .i64 pg, .int .i64 off, v5, v6, .int .u64 nx, .slice A9 (acc.length + 1) cc9, .bool op]) := hide (by rw [← hwx]; exact RW9b.set 8 _)
        have RX : Hid (RdrAt w0 wx g sk) := hide (R9.same (by rw [← hwx]; exact Below.heap_setCell w9 ⟨h, 8, none⟩ _ g (fun e => HNE.out e.symm)))
        have DX : Hid (OwnD wx w.heap.size (.slice A9 (acc.length + 1) cc9) (acc ++ [(y, z)])) := hide (ho9.same (fun b hb => by rw [← hwx]; exact Below.heap_setCell w9 ⟨h, 8, none⟩ _ b (fun e => by have := (ho9.at b hb).1; have := HGW.out.2; simp only at e; omega)))
        have HLK : Hid (sk.1.length ≤ 140737488351232) := hide (by rw [← HSK.out]; exact Nat.le_trans (tk_left 8 sj) HLJ.out)
        have HDN : Hid (dirR m s1 = ((acc ++ [(y, z)]) ++ (dirR (m - (i + 1)) sk).1, (dirR (m - (i + 1)) sk).2)) := hide (by
          rw [HDR.out, show m - i = (m - (i + 1)) + 1 by omega]
          simp only [dirR, HY.out, HSJ.out, HZ.out, HSK.out, List.append_assoc, List.singleton_append])
        rw [hwx]
        clear hwx Y9 RW9b R9 hr5 hg5 D5 Y5 hrun ho9 hg9 c8b c8c c8d f8c c8 f8 RW9 RW5
        go_wp2
        exact ⟨⟨i + 1, acc ++ [(y, z)], sk, _, by omega, by go_num, HDN, hide (by rw [List.length_append, HAL.out]; rfl), HLK, RWX, DX, RX, YX⟩, by simp [intOf]; omega⟩
    · have hii : ¬ (i : Int) < (m : Int) := by omega
      obtain rfl : i = m := by omega
      have HE : Hid (dirR i s1 = (acc, sti)) := hide (by rw [HDR.out, Nat.sub_self]; simp [dirR])
      go_wp2
      go_end0
      refine ⟨rfl, v8, ?_, ?_, ?_, YI.out⟩
      · rw [HOP.out]; exact RWI.out
      · rw [HMM.out, HE.out]; exact DI.out
      · rw [HMM.out, HE.out]; exact RI.out
end Go.Proofs.YthdahgekodcloaaDoor
namespace Go.Proofs.YthdahgekodcloaaDoor
open Go.RowKit

def rdN (b : Bool) (n : Nat) (st : List UInt8 × Bool) : Int × (List UInt8 × Bool) := if b then (num (tk n st).1, (tk n st).2) else (0, st)
def rdB (b : Bool) (n : Nat) (st : List UInt8 × Bool) : List UInt8 × (List UInt8 × Bool) := if b then tk n st else ([], st)
def rdD (b : Bool) (q : Nat) (st : List UInt8 × Bool) : List (Int × Int) × (List UInt8 × Bool) := if b then dirR (q / 2) st else ([], st)
/-- The record that stands in front, and what is left. -/
def rdRec (st : List UInt8 × Bool) : Rec × (List UInt8 × Bool) :=
  let a0 := tk 1 st
  let k := num a0.1
  let a1 := tk 8 a0.2
  let a2 := rdN (hpv k) 8 a1.2
  let a3 := rdN (hch k) 2 a2.2
  let a4 := rdN (hch k) 2 a3.2
  let a5 := rdN (hch k) 2 a4.2
  let a6 := rdB (hbf k) a5.1.toNat a5.2
  let a7 := rdB (hch k) a5.1.toNat a6.2
  let a8 := rdN (hnx k) 8 a7.2
  let a9 := rdN (hck k) 1 a8.2
  let b := rdD (hck k) a9.1.toNat a9.2
  (⟨k, num a1.1, a2.1, a3.1, a4.1, a6.1, a7.1, a8.1, b.1, a9.1 % 2 == 1⟩, b.2)
/-- What record hands back. -/
def RecP (w0 w : World) (g : Nat) (R : Rec × (List UInt8 × Bool)) (e : Ending) (w' : World) : Prop :=
  ∃ v5 v6 v8, e = .returned (.agg #[.int .u8 R.1.k, .int .u64 R.1.tx, .int .u64 R.1.pv, .int .i64 R.1.pg, .int .i64 R.1.off, v5, v6, .int .u64 R.1.nx, v8, .bool R.1.op]) ∧ Own w' w.heap.size v5 R.1.bf ∧ Own w' w.heap.size v6 R.1.af ∧ OwnD w' w.heap.size v8 R.1.dl ∧ RdrAt w0 w' g R.2 ∧ w.grownBy w' (some g) ∧ ∀ b, v5.ownBlock = some b → v6.ownBlock ≠ some b
theorem Own.sameB {w w' : World} {B : Nat} {v : Value} {l : List UInt8} (h : Own w B v l) (hx : ∀ k, B ≤ k → k < w.heap.size → w'.heap[k]? = w.heap[k]?) : Own w' B v l := by
  refine ⟨h.1, ?_⟩
  rcases h.2 with hn | ⟨g, cap, cur, rfl, hb, hg, rest⟩
  · exact .inl hn
  · exact .inr ⟨g, cap, cur, rfl, hb, (hx g hb (Array.getElem?_eq_some_iff.1 hg).1).trans hg, rest⟩
theorem Own.atB {w : World} {B : Nat} {v : Value} {l : List UInt8} (h : Own w B v l) (k : Nat) (hk : v.ownBlock = some k) : B ≤ k ∧ k < w.heap.size := by
  rcases h.2 with ⟨rfl, _⟩ | ⟨g, cap, cur, rfl, hb, hg, _⟩
  · cases hk
  · injection hk with hk
    subst hk
    exact ⟨hb, (Array.getElem?_eq_some_iff.1 hg).1⟩
theorem Only2.to1 {g h : Nat} {w w' : World} (k : Only2 g h w w') (hh : w.heap.size ≤ h) : w.grownBy w' (some g) :=
  ⟨k.os, k.tape, k.output, k.size, fun b hb hne => k.block b hb (fun e => hne (by rw [e])) (by omega)⟩
theorem own_mono2 {w : World} {B B' : Nat} {v : Value} {l : List UInt8} (h : Own w B v l) (hB : B' ≤ B) : Own w B' v l := by
  refine ⟨h.1, ?_⟩
  rcases h.2 with hn | ⟨g, cap, cur, rfl, hb, rest⟩
  · exact .inl hn
  · exact .inr ⟨g, cap, cur, rfl, Nat.le_trans hB hb, rest⟩
theorem sets_only (g : Nat) : ∀ (l : List (Nat × Value)) (w : World), (l.foldl (fun w p => w.setCell ⟨g, p.1, none⟩ p.2) w).os = w.os ∧ (l.foldl (fun w p => w.setCell ⟨g, p.1, none⟩ p.2) w).tape = w.tape ∧ (l.foldl (fun w p => w.setCell ⟨g, p.1, none⟩ p.2) w).output = w.output ∧ (l.foldl (fun w p => w.setCell ⟨g, p.1, none⟩ p.2) w).heap.size = w.heap.size ∧ ∀ b, b ≠ g → (l.foldl (fun w p => w.setCell ⟨g, p.1, none⟩ p.2) w).heap[b]? = w.heap[b]?
  | [], w => ⟨rfl, rfl, rfl, rfl, fun _ _ => rfl⟩
  | p :: l, w => by
    obtain ⟨h1, h2, h3, h4, h5⟩ := sets_only g l (w.setCell ⟨g, p.1, none⟩ p.2)
    rw [List.foldl_cons]
    exact ⟨h1, h2, h3, h4.trans (by simp [World.setCell]), fun b hb => (h5 b hb).trans (Below.heap_setCell w ⟨g, p.1, none⟩ p.2 b hb)⟩
theorem ownD_mono {w : World} {B B' : Nat} {v : Value} {l : List (Int × Int)} (h : OwnD w B v l) (hB : B' ≤ B) : OwnD w B' v l := by
  refine ⟨h.1, ?_⟩
  rcases h.2 with hn | ⟨g, cap, cur, rfl, hb, rest⟩
  · exact .inl hn
  · exact .inr ⟨g, cap, cur, rfl, Nat.le_trans hB hb, rest⟩
end Go.Proofs.YthdahgekodcloaaDoor
