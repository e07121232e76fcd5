/-
  The walk of RecordKeeps.
-/
import Derived.RegionTactic
import Derived.Test.YthdahgekodcloaaDoorPkCardRcKeeps5

namespace Go.Proofs.YthdahgekodcloaaDoor
open Go.RowKit

set_option maxRecDepth 20000 in
set_option maxHeartbeats 3200000 in
theorem recordKeeps_no (k : Int) (tx pv pg off nx : Int) (A B D : Option Addr) (nb a na b' nd d : Nat) (op : Bool) (w : World) (bf af : List UInt8) (L : List (Int × Int)) (ht : Tab w) (hb0 : Rd w A bf) (ha0 : Rd w B af) (hr : RdD w D L) (hbn : bf.length = nb) (han : af.length = na) (hn : L.length = nd) (hnd : nd ≤ 140737488351232) (hna : na ≤ 140737488351232) (hnb : nb ≤ 140737488351232) (ho : -9223372036854775808 ≤ off) (ho2 : off < 9223372036854775808) (htx0 : 0 ≤ tx) (htx : tx < 18446744073709551616) (hpv0 : 0 ≤ pv) (hpv1 : pv < 18446744073709551616) (hnx0 : 0 ≤ nx) (hnx1 : nx < 18446744073709551616) (hdl : ∀ e ∈ L, 0 ≤ e.2 ∧ e.2 < 18446744073709551616) (hf : formN k pv pg off nx na nb nd L op = false) :
    Calls Tryd.prog 6 #[.agg #[.int .u8 k, .int .u64 tx, .int .u64 pv, .int .i64 pg, .int .i64 off, .slice A nb a, .slice B na b', .int .u64 nx, .slice D nd d, .bool op]] w (RetB w true) := by
  have KA := hide (fun (W : World) (hW : Ext w W) => awake_any W (ht.ext hW))
  have KF := hide (fun (W : World) (hW : Ext w W) => (show Calls Tryd.prog 10 #[.agg #[.int .u8 k, .int .u64 tx, .int .u64 pv, .int .i64 pg, .int .i64 off, .slice A nb a, .slice B na b', .int .u64 nx, .slice D nd d, .bool op]] W (RetB W false) from by have h := rform_any k tx pv pg off nx A B D nb a na b' nd d op W L (hr.ext hW) hn hnd hna hnb ho ho2; rw [hf] at h; exact h))
  clear ht hb0 ha0 hr hbn han hn hnd hna hnb ho ho2 htx0 htx hpv0 hpv1 hnx0 hnx1 hdl hf
  go_enter Tryd.func6, Tryd.ntmps6
  go_upto_region 1 with fail
  obtain ⟨W1, hX1, hR1, hg⟩ : ∃ W1, Ext w W1 ∧ Rw W1 w.heap.size 26 [.int .u8 k, .int .u64 tx, .int .u64 pv, .int .i64 pg, .int .i64 off, .slice A nb a, .slice B na b', .int .u64 nx, .slice D nd d, .bool op] ∧ w.alloc (.cells #[.int .u8 k, .int .u64 tx, .int .u64 pv, .int .i64 pg, .int .i64 off, .slice A nb a, .slice B na b', .int .u64 nx, .slice D nd d, .bool op] 26) = W1 := ⟨_, Ext.alloc _ _, Rw.new _ _ _, rfl⟩
  rw [hg]
  obtain ⟨hb, HHB⟩ : ∃ hb, Hid (w.heap.size = hb) := ⟨_, hide rfl⟩
  rw [HHB.out] at hR1 ⊢
  have X1 := hide hX1
  have R1 := hide hR1
  clear hg hX1 hR1
  go_upto_region 2 with (first
    | (go_at_call 8; (with_reducible refine (KA.out _ X1.out).mono ?_); rintro e w2 ⟨rfl, hx2⟩; have X2 := hide (X1.out.trans hx2); have R2 := hide (R1.out.ext hx2); have c0 := R2.out.cell (i := 0) rfl; have c1 := R2.out.cell (i := 1) rfl; have c2 := R2.out.cell (i := 2) rfl; have c3 := R2.out.cell (i := 3) rfl; have c4 := R2.out.cell (i := 4) rfl; have c5 := R2.out.cell (i := 5) rfl; have c6 := R2.out.cell (i := 6) rfl; have c7 := R2.out.cell (i := 7) rfl; have c8 := R2.out.cell (i := 8) rfl; have c9 := R2.out.cell (i := 9) rfl; clear hx2)
    | (go_at_call 10; (with_reducible refine (KF.out _ X2.out).mono ?_); rintro e w3 ⟨rfl, hx3⟩; have X3 := hide (X2.out.trans hx3); have R3 := hide (R2.out.ext hx3); clear hx3))
  clear c0 c1 c2 c3 c4 c5 c6 c7 c8 c9
  go_wp2_with (go_at_call 8; (with_reducible refine (KA.out _ X3.out).mono ?_); rintro e w4 ⟨rfl, hx4⟩; have X4 := hide (X3.out.trans hx4); clear hx4)
  go_ret
  exact ⟨rfl, X4.out⟩
theorem own_rd {w : World} {B n c : Nat} {A : Option Addr} {l : List UInt8} (h : Own w B (.slice A n c) l) : Rd w A l := by
  obtain ⟨A', c', hv, _, hr⟩ := h.bytes
  injection hv with h1
  subst h1
  exact hr
theorem ownD_rd {w : World} {B n c : Nat} {A : Option Addr} {l : List (Int × Int)} (h : OwnD w B (.slice A n c) l) : RdD w A l := by
  obtain ⟨A', c', hv, _, hr⟩ := h.slice
  injection hv with h1
  subst h1
  exact hr
theorem own_same {w w' : World} {B : Nat} {v : Value} {l : List UInt8} (h : Own w B v l) (hx : ∀ k, v.ownBlock = some k → w'.heap[k]? = w.heap[k]?) : Own w' B v l := by
  refine ⟨h.1, ?_⟩
  rcases h.2 with hn | ⟨g, cap, cur, rfl, hb, hg, rest⟩
  · exact .inl hn
  · exact .inr ⟨g, cap, cur, rfl, hb, (hx g rfl).trans hg, rest⟩
theorem grown_thn {w w1 w2 : World} {r : Option Nat} (h : w.grownBy w1 r) (hx : Ext w1 w2) : w.grownBy w2 r :=
  ⟨hx.os.trans h.os, hx.tape.trans h.tape, hx.output.trans h.output, Nat.le_trans h.size hx.size, fun k hk hne => (hx.block k (Nat.lt_of_lt_of_le hk h.size)).trans (h.block k hk hne)⟩
theorem grown_rw {w w' : World} {h : Nat} {t : TypeId} {vs : List Value} {r : Option Nat} (hg : w.grownBy w' r) (hr : Rw w h t vs) (hne : some h ≠ r) : Rw w' h t vs := (hg.block h hr.lt hne).trans hr
theorem own_rw_ne {w : World} {B h : Nat} {t : TypeId} {v : Value} {l : List UInt8} {vs : List Value} (hr : Rw w h t vs) (ht : t ≠ 5) (ho : Own w B v l) : some h ≠ v.ownBlock := own_apartR hr ht ho
set_option maxRecDepth 20000 in
set_option maxHeartbeats 6400000 in
theorem recordKeeps_yes (k : Int) (tx pv pg off nx : Int) (A B D : Option Addr) (nb a na b' nd d : Nat) (op : Bool) (w : World) (bf af : List UInt8) (L : List (Int × Int)) (ht : Tab w) (hb0 : Rd w A bf) (ha0 : Rd w B af) (hr : RdD w D L) (hbn : bf.length = nb) (han : af.length = na) (hn : L.length = nd) (hnd : nd ≤ 140737488351232) (hna : na ≤ 140737488351232) (hnb : nb ≤ 140737488351232) (ho : -9223372036854775808 ≤ off) (ho2 : off < 9223372036854775808) (htx0 : 0 ≤ tx) (htx : tx < 18446744073709551616) (hpv0 : 0 ≤ pv) (hpv1 : pv < 18446744073709551616) (hnx0 : 0 ≤ nx) (hnx1 : nx < 18446744073709551616) (hdl : ∀ e ∈ L, 0 ≤ e.2 ∧ e.2 < 18446744073709551616) (hf : formN k pv pg off nx na nb nd L op = true) :
    Calls Tryd.prog 6 #[.agg #[.int .u8 k, .int .u64 tx, .int .u64 pv, .int .i64 pg, .int .i64 off, .slice A nb a, .slice B na b', .int .u64 nx, .slice D nd d, .bool op]] w (RetB w true) := by
  obtain ⟨hs1, hs2, hs3⟩ := formN_small hf
  obtain ⟨FL, HFL⟩ : ∃ l, Hid (fullB k tx pv pg off nx bf af L op = l) := ⟨_, hide rfl⟩
  obtain ⟨NL, HNL⟩ : ∃ n, Hid (FL.length = n) := ⟨_, hide rfl⟩
  have hNL : 13 ≤ NL ∧ NL ≤ 2000 := by
    have h := fullB_length k tx pv pg off nx bf af L op
    rw [HFL.out, HNL.out, hbn, han, hn] at h
    refine ⟨by omega, ?_⟩
    rw [h]
    split <;> split <;> split <;> split <;> omega
  have KE := hide (fun (W : World) (hW : Ext w W) => (show Calls Tryd.prog 11 #[.agg #[.int .u8 k, .int .u64 tx, .int .u64 pv, .int .i64 pg, .int .i64 off, .slice A nb a, .slice B na b', .int .u64 nx, .slice D nd d, .bool op]] W (EncP W FL) from by rw [← HFL.out]; exact encode_yes k tx pv pg off nx A B D nb a na b' nd d op W bf af L (ht.ext hW) (hb0.ext hW) (ha0.ext hW) (hr.ext hW) hbn han hn hnd hna hnb ho ho2 htx0 htx hpv0 hpv1 hnx0 hnx1 hdl hf))
  have KD := hide (fun (W : World) (hW : Ext w W) (AP : Option Addr) (cp : Nat) (hR : Rd W AP FL) (hc : NL ≤ cp) => (show Calls Tryd.prog 12 #[.slice AP NL cp] W (DecYes W k tx pv pg off nx bf af L op) from decode_full k tx pv pg off nx bf af L op AP NL cp W (ht.ext hW) (by rw [HFL.out]; exact hR) (by rw [HFL.out]; exact HNL.out) hc (by omega) htx0 htx hpv0 hpv1 hnx0 hnx1 hdl (by rw [hbn, han, hn]; exact hf)))
  have KSM := hide (fun (W : World) (hW : Ext w W) (A5 A6 A8 : Option Addr) (c5 c6 c8 : Nat) (h5 : Rd W A5 bf) (h6 : Rd W A6 af) (h8 : RdD W A8 L) => (show Calls Tryd.prog 14 #[.agg #[.int .u8 k, .int .u64 tx, .int .u64 pv, .int .i64 pg, .int .i64 off, .slice A5 nb c5, .slice A6 na c6, .int .u64 nx, .slice A8 nd c8, .bool op], .agg #[.int .u8 k, .int .u64 tx, .int .u64 pv, .int .i64 pg, .int .i64 off, .slice A nb a, .slice B na b', .int .u64 nx, .slice D nd d, .bool op]] W (RetB W true) from same_yes k tx pv pg off nx A5 A6 A8 A B D nb na nd c5 c6 c8 a b' d op bf af L W h5 (hb0.ext hW) h6 (ha0.ext hW) h8 (hr.ext hW) hbn han hn (by omega)))
  have HB0 := hide hb0
  have HBN := hide hbn
  have HAN := hide han
  have HN := hide hn
  have KA := hide (fun (W : World) (hW : Ext w W) => awake_any W (ht.ext hW))
  have KF := hide (fun (W : World) (hW : Ext w W) => (show Calls Tryd.prog 10 #[.agg #[.int .u8 k, .int .u64 tx, .int .u64 pv, .int .i64 pg, .int .i64 off, .slice A nb a, .slice B na b', .int .u64 nx, .slice D nd d, .bool op]] W (RetB W true) from by have h := rform_any k tx pv pg off nx A B D nb a na b' nd d op W L (hr.ext hW) hn hnd hna hnb ho ho2; rw [hf] at h; exact h))
  clear ht hb0 ha0 hr hbn han hn hnd hna hnb ho ho2 htx0 htx hpv0 hpv1 hnx0 hnx1 hdl hf
  go_enter Tryd.func6, Tryd.ntmps6
  go_upto_region 1 with fail
  obtain ⟨W1, hX1, hR1, hg⟩ : ∃ W1, Ext w W1 ∧ Rw W1 w.heap.size 26 [.int .u8 k, .int .u64 tx, .int .u64 pv, .int .i64 pg, .int .i64 off, .slice A nb a, .slice B na b', .int .u64 nx, .slice D nd d, .bool op] ∧ w.alloc (.cells #[.int .u8 k, .int .u64 tx, .int .u64 pv, .int .i64 pg, .int .i64 off, .slice A nb a, .slice B na b', .int .u64 nx, .slice D nd d, .bool op] 26) = W1 := ⟨_, Ext.alloc _ _, Rw.new _ _ _, rfl⟩
  rw [hg]
  obtain ⟨hb, HHB⟩ : ∃ hb, Hid (w.heap.size = hb) := ⟨_, hide rfl⟩
  rw [HHB.out] at hR1 ⊢
  have X1 := hide hX1
  have R1 := hide hR1
  clear hg hX1 hR1
  go_upto_region 3 with (first
    | (go_at_call 8; (with_reducible refine (KA.out _ X1.out).mono ?_); rintro e w2 ⟨rfl, hx2⟩; have X2 := hide (X1.out.trans hx2); have R2 := hide (R1.out.ext hx2); have c0 := R2.out.cell (i := 0) rfl; have c1 := R2.out.cell (i := 1) rfl; have c2 := R2.out.cell (i := 2) rfl; have c3 := R2.out.cell (i := 3) rfl; have c4 := R2.out.cell (i := 4) rfl; have c5 := R2.out.cell (i := 5) rfl; have c6 := R2.out.cell (i := 6) rfl; have c7 := R2.out.cell (i := 7) rfl; have c8 := R2.out.cell (i := 8) rfl; have c9 := R2.out.cell (i := 9) rfl; clear hx2)
    | (go_at_call 10; (with_reducible refine (KF.out _ X2.out).mono ?_); rintro e w3 ⟨rfl, hx3⟩; have X3 := hide (X2.out.trans hx3); have R3 := hide (R2.out.ext hx3); clear hx3))
  clear c0 c1 c2 c3 c4 c5 c6 c7 c8 c9
  have c0 := R3.out.cell (i := 0) rfl
  have c1 := R3.out.cell (i := 1) rfl
  have c2 := R3.out.cell (i := 2) rfl
  have c3 := R3.out.cell (i := 3) rfl
  have c4 := R3.out.cell (i := 4) rfl
  have c5 := R3.out.cell (i := 5) rfl
  have c6 := R3.out.cell (i := 6) rfl
  have c7 := R3.out.cell (i := 7) rfl
  have c8 := R3.out.cell (i := 8) rfl
  have c9 := R3.out.cell (i := 9) rfl
  go_upto_region 4 with (go_at_call 11; (with_reducible refine (KE.out _ X3.out).mono ?_); rintro e w4 ⟨v4, rfl, ho4, hx4⟩; obtain ⟨AP, cp, hv4, hcp, hrp⟩ := ho4.bytes; rw [HNL.out] at hv4 hcp; subst hv4; have O4 := hide ho4; have RP := hide hrp; have HCP := hide hcp; have X4 := hide (X3.out.trans hx4); have R4 := hide (R3.out.ext hx4); clear hx4 ho4 hrp hcp)
  clear c0 c1 c2 c3 c4 c5 c6 c7 c8 c9
  obtain ⟨bp, hbp, hbp2⟩ : ∃ bp, AP = some ⟨bp, 0, none⟩ ∧ w3.heap.size ≤ bp ∧ bp < w4.heap.size := by
    rcases O4.out.2 with ⟨hv, h0⟩ | ⟨g, cap, cur, hv, hb, hg, _⟩
    · rw [HNL.out] at h0; omega
    · injection hv with hA; exact ⟨g, hA, hb, (Array.getElem?_eq_some_iff.1 hg).1⟩
  subst hbp
  have HBP := hide hbp2
  clear hbp2
  go_upto_region 5 with (go_at_call 12; (with_reducible refine (KD.out _ X4.out _ _ RP.out HCP.out).mono ?_); rintro e w5 ⟨hx5, A5, c5, A6, c6, A8, c8, rfl, h5, h6, h8, hdj⟩; rw [HBN.out] at h5 hdj; rw [HAN.out] at h6 hdj; rw [HN.out] at h8; have V5 := hide h5; have V6 := hide h6; have V8 := hide h8; have DJ := hide hdj; have X5 := hide (X4.out.trans hx5); have R5 := hide (R4.out.ext hx5); have O5 := hide (Own.sameB O4.out (fun b _ hb => hx5.block b hb)); have X45 : Hid (Ext w4 w5) := hide hx5; clear hx5 h5 h6 h8 hdj)
  rw [HBN.out, HAN.out, HN.out]
  obtain ⟨w6, hX6, hA6, hgg⟩ : ∃ W, Ext w5 W ∧ Rw W w5.heap.size 26 [.int .u8 k, .int .u64 tx, .int .u64 pv, .int .i64 pg, .int .i64 off, .slice A5 nb c5, .slice A6 na c6, .int .u64 nx, .slice A8 nd c8, .bool op] ∧ w5.alloc (.cells #[.int .u8 k, .int .u64 tx, .int .u64 pv, .int .i64 pg, .int .i64 off, .slice A5 nb c5, .slice A6 na c6, .int .u64 nx, .slice A8 nd c8, .bool op] 26) = W := ⟨_, Ext.alloc _ _, Rw.new _ _ _, rfl⟩
  rw [hgg]
  obtain ⟨ha, HHA⟩ : ∃ h, Hid (w5.heap.size = h) := ⟨_, hide rfl⟩
  rw [HHA.out] at hA6 ⊢
  have X6 := hide (X5.out.trans hX6)
  have R6 := hide (R5.out.ext hX6)
  have Q6 := hide hA6
  have HS5 : Hid (w.heap.size ≤ bp ∧ hb < bp ∧ bp < ha ∧ w4.heap.size ≤ ha ∧ bp < w4.heap.size) := hide (by
    have h1 := R3.out.lt; have h2 := HBP.out; have h3 := X3.out.size; have h4 := HHA.out; have h5 := V5.out
    have h6 : w4.heap.size ≤ w5.heap.size := X45.out.size
    omega)
  have P6 : Hid (AnyB w6 w3.heap.size (.slice (some ⟨bp, 0, none⟩) NL cp) NL) := hide (by have h := AnyB.of (Own.sameB O5.out (fun b _ hb => hX6.block b hb)); rwa [HNL.out] at h)
  have V5a := hide (Own.sameB V5.out (fun b _ hb => hX6.block b hb))
  have V6a := hide (Own.sameB V6.out (fun b _ hb => hX6.block b hb))
  have V8a := hide (V8.out.same (fun b hb => hX6.block b (V8.out.at b hb).2))
  clear hgg hX6 hA6 KA KF KE KD V5 V6 V8 O4 O5 R3 R4 R5 RP
  go_upto_region 6 with fail
  go_loopw [7] (fun iv wr => ∃ i : Nat, i ≤ NL ∧ iv = .int .i64 (i : Int) ∧ Hid (AnyB wr w3.heap.size (.slice (some ⟨bp, 0, none⟩) NL cp) NL) ∧ Hid (w6.grownBy wr (some bp))) (fun iv _ => NL - (intOf iv).toNat)
  case atStart => exact ⟨0, Nat.zero_le _, rfl, P6, hide (grown_of_ext (Ext.refl _) _)⟩
  case round =>
    obtain ⟨i, hi, rfl, HP, HG⟩ := hrel
    clear P6
    by_cases hlt : i < NL
    · obtain ⟨g, z, hA, -, hc, hf⟩ := HP.out.at hlt
      injection hA with hA
      injection hA with hA1
      subst hA1
      have hii : (i : Int) < (NL : Int) := by omega
      have hi0 : (0 : Int) ≤ (i : Int) := by omega
      have hib : (i : Int) ≤ 2000 := by omega
      go_wp2
      refine ⟨⟨i + 1, by omega, by go_num, hide (HP.out.set bp i _), hide (grown_set HG.out)⟩, by simp [intOf]; omega⟩
    · have hii : ¬ (i : Int) < (NL : Int) := by omega
      have R7 := hide (grown_rw HG.out R6.out (fun e => by injection e with e; have := HS5.out; omega))
      have Q7 := hide (grown_rw HG.out Q6.out (fun e => by injection e with e; have := HS5.out; omega))
      have X7 : Hid (Ext w _) := hide (X6.out.grown HG.out X6.out.size (fun b hb => by injection hb with hb; have := HS5.out; omega))
      have V5b := hide (Own.sameB V5a.out (fun b h1 h2 => HG.out.block b h2 (fun e => by injection e with e; have := HS5.out; omega)))
      have V6b := hide (Own.sameB V6a.out (fun b h1 h2 => HG.out.block b h2 (fun e => by injection e with e; have := HS5.out; omega)))
      have V8b := hide (V8a.out.same (fun b hb => HG.out.block b (V8a.out.at b hb).2 (fun e => by injection e with e; have := (V8a.out.at b hb).1; have := HS5.out; omega)))
      have KS2 := hide (KSM.out _ X7.out A5 A6 A8 c5 c6 c8 (own_rd V5b.out) (own_rd V6b.out) (ownD_rd V8b.out))
      have y0 := R7.out.cell (i := 0) rfl
      have z0 := Q7.out.cell (i := 0) rfl
      have y1 := R7.out.cell (i := 1) rfl
      have z1 := Q7.out.cell (i := 1) rfl
      have y2 := R7.out.cell (i := 2) rfl
      have z2 := Q7.out.cell (i := 2) rfl
      have y3 := R7.out.cell (i := 3) rfl
      have z3 := Q7.out.cell (i := 3) rfl
      have y4 := R7.out.cell (i := 4) rfl
      have z4 := Q7.out.cell (i := 4) rfl
      have y5 := R7.out.cell (i := 5) rfl
      have z5 := Q7.out.cell (i := 5) rfl
      have y6 := R7.out.cell (i := 6) rfl
      have z6 := Q7.out.cell (i := 6) rfl
      have y7 := R7.out.cell (i := 7) rfl
      have z7 := Q7.out.cell (i := 7) rfl
      have y8 := R7.out.cell (i := 8) rfl
      have z8 := Q7.out.cell (i := 8) rfl
      have y9 := R7.out.cell (i := 9) rfl
      have z9 := Q7.out.cell (i := 9) rfl
      clear HP HG hlt hi
      go_upto_region 11 with (go_at_call 14; (with_reducible refine KS2.out.mono ?_); rintro e w8 ⟨rfl, hx8⟩; have X8 := hide (X7.out.trans hx8); have R8 := hide (R7.out.ext hx8); have Q8 := hide (Q7.out.ext hx8); have V5c := hide (Own.sameB V5b.out (fun b _ h2 => hx8.block b h2)); have V6c := hide (Own.sameB V6b.out (fun b _ h2 => hx8.block b h2)); clear hx8)
      clear y0 z0 y1 z1 y2 z2 y3 z3 y4 z4 y5 z5 y6 z6 y7 z7 y8 z8 y9 z9
      clear KS2 KSM R6 R7 Q6 Q7 V5a V5b V6a V6b V8a V8b X7 X6
      have P8 : Hid (AnyB w8 w4.heap.size (.slice A6 na c6) na) := hide (by have h := AnyB.of V6c.out; rwa [HAN.out] at h)
      go_upto_region 12 with fail
      go_loopw [8] (fun iv wr => ∃ i : Nat, i ≤ na ∧ iv = .int .i64 (i : Int) ∧ Hid (AnyB wr w4.heap.size (.slice A6 na c6) na) ∧ Hid (w8.grownBy wr (Value.slice A6 na c6).ownBlock)) (fun iv _ => na - (intOf iv).toNat)
      case atStart => exact ⟨0, Nat.zero_le _, rfl, P8, hide (grown_of_ext (Ext.refl _) _)⟩
      case round =>
        obtain ⟨i, hi, rfl, HP, HG⟩ := hrel
        clear P8
        have Q9 := hide (grown_rw HG.out Q8.out (own_rw_ne Q8.out (by decide) V6c.out))
        have c6a := Q9.out.cell (i := 6) rfl
        by_cases hlt : i < na
        · obtain ⟨g, z, hA, -, hc, hf⟩ := HP.out.at hlt
          subst hA
          have hii : (i : Int) < (na : Int) := by omega
          have hi0 : (0 : Int) ≤ (i : Int) := by omega
          have hib : (i : Int) ≤ 512 := by omega
          go_upto_region 14 with fail
          go_region
          go_wp2
          refine ⟨⟨i + 1, by omega, by go_num, hide ((HP.out.set g i _).ext (Ext.drew _)), hide (grown_thn (grown_set HG.out) (Ext.drew _))⟩, by simp [intOf]; omega⟩
        · have hii : ¬ (i : Int) < (na : Int) := by omega
          have R9 := hide (grown_rw HG.out R8.out (own_rw_ne R8.out (by decide) V6c.out))
          have X9 : Hid (Ext w _) := hide (X8.out.grown HG.out X8.out.size (fun b hb => by have := (V6c.out.atB b hb).1; have := HS5.out; omega))
          have V5d := hide (own_rd (own_same V5c.out (fun b hb => HG.out.block b (V5c.out.atB b hb).2 (fun e => DJ.out b hb e.symm))))
          clear HP HG hlt hi
          go_upto_region 16 with fail
          clear c6a
          obtain ⟨wr9, hw9⟩ : ∃ W, W = wr := ⟨_, rfl⟩
          subst hw9
          go_loopw [9] (fun iv wr => ∃ i q : Nat, i ≤ nb ∧ iv = .int .i64 (i : Int) ∧ Hid (wr = wr9.drewN q)) (fun iv _ => nb - (intOf iv).toNat)
          case atStart => exact ⟨0, 0, Nat.zero_le _, rfl, hide rfl⟩
          case round =>
            obtain ⟨i, q, hi, rfl, HW⟩ := hrel
            have e1 := HW.out
            subst e1
            have c5a := Q9.out.cell (i := 5) rfl
            have c5b := R9.out.cell (i := 5) rfl
            by_cases hlt : i < nb
            · obtain ⟨x, hx⟩ : ∃ x, bf[i]? = some x := ⟨_, List.getElem?_eq_getElem (by rw [HBN.out]; exact hlt)⟩
              obtain ⟨b1, o1, x1, hE1, hx1, k1⟩ := V5d.out.at (k := i) (by rw [HBN.out]; exact hlt)
              obtain ⟨b2, o2, x2, hE2, hx2, k2⟩ := (HB0.out.ext X9.out).at (k := i) (by rw [HBN.out]; exact hlt)
              rw [hx1] at hx2
              injection hx2 with hx2
              subst hE1 hE2 hx2
              have hii : (i : Int) < (nb : Int) := by omega
              have hi0 : (0 : Int) ≤ (i : Int) := by omega
              have hib : (i : Int) ≤ 512 := by omega
              clear hx hx1
              go_wp2
              go_quiet (fail)
              go_wp2
              refine ⟨⟨i + 1, q + nq, by omega, by go_num, hide (by first | rfl | rw [World.drewN_drewN])⟩, by simp [intOf]; omega⟩
            · have hii : ¬ (i : Int) < (nb : Int) := by omega
              go_wp2
              go_ret
              exact ⟨rfl, X9.out.drewN q⟩
theorem recordKeeps_walk (k : Int) (tx pv pg off nx : Int) (A B D : Option Addr) (nb a na b' nd d : Nat) (op : Bool) (w : World) (bf af : List UInt8) (L : List (Int × Int)) (ht : Tab w) (hb0 : Rd w A bf) (ha0 : Rd w B af) (hr : RdD w D L) (hbn : bf.length = nb) (han : af.length = na) (hn : L.length = nd) (hnd : nd ≤ 140737488351232) (hna : na ≤ 140737488351232) (hnb : nb ≤ 140737488351232) (ho : -9223372036854775808 ≤ off) (ho2 : off < 9223372036854775808) (htx0 : 0 ≤ tx) (htx : tx < 18446744073709551616) (hpv0 : 0 ≤ pv) (hpv1 : pv < 18446744073709551616) (hnx0 : 0 ≤ nx) (hnx1 : nx < 18446744073709551616) (hdl : ∀ e ∈ L, 0 ≤ e.2 ∧ e.2 < 18446744073709551616) :
    Calls Tryd.prog 6 #[.agg #[.int .u8 k, .int .u64 tx, .int .u64 pv, .int .i64 pg, .int .i64 off, .slice A nb a, .slice B na b', .int .u64 nx, .slice D nd d, .bool op]] w (RetB w true) := by
  cases hf : formN k pv pg off nx na nb nd L op with
  | false => exact recordKeeps_no k tx pv pg off nx A B D nb a na b' nd d op w bf af L ht hb0 ha0 hr hbn han hn hnd hna hnb ho ho2 htx0 htx hpv0 hpv1 hnx0 hnx1 hdl hf
  | true => exact recordKeeps_yes k tx pv pg off nx A B D nb a na b' nd d op w bf af L ht hb0 ha0 hr hbn han hn hnd hna hnb ho ho2 htx0 htx hpv0 hpv1 hnx0 hnx1 hdl hf
end Go.Proofs.YthdahgekodcloaaDoor
