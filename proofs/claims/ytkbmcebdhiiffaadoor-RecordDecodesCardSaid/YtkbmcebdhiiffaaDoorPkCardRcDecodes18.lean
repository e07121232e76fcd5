/-
  Are two records alike: the document's Same, where they are.
  The walk of RecordEncodes.
  What the document's Decode tells of bytes whose sum is right.
-/
import Derived.RegionTactic
import Derived.Test.YtkbmcebdhiiffaaDoorPkCardRcDecodes5
import Derived.Test.YtkbmcebdhiiffaaDoorPkCardRcDecodes10
import Derived.Test.YtkbmcebdhiiffaaDoorPkCardRcDecodes11
import Derived.Test.YtkbmcebdhiiffaaDoorPkCardRcDecodes14
import Derived.Test.YtkbmcebdhiiffaaDoorPkCardRcDecodes15
import Derived.Test.YtkbmcebdhiiffaaDoorPkCardRcDecodes17
set_option linter.unusedVariables false
set_option linter.unusedSimpArgs false

namespace Go.Proofs.YtkbmcebdhiiffaaDoor
open Go.RowKit

set_option maxRecDepth 20000 in
set_option maxHeartbeats 1600000 in
theorem same_yes (k tx pv pg off nx : Int) (A1 B1 D1 A2 B2 D2 : Option Addr) (nb na nd a1 b1 d1 a2 b2 d2 : Nat) (op : Bool) (bf af : List UInt8) (L : List (Int × Int)) (w : World) (hb1 : Rd w A1 bf) (hb2 : Rd w A2 bf) (ha1 : Rd w B1 af) (ha2 : Rd w B2 af) (hd1 : RdD w D1 L) (hd2 : RdD w D2 L)
    (hbn : bf.length = nb) (han : af.length = na) (hn : L.length = nd) (hnd : nd ≤ 140737488351232) :
    Calls Tryd.prog 14 #[.agg #[.int .u8 k, .int .u64 tx, .int .u64 pv, .int .i64 pg, .int .i64 off, .slice A1 nb a1, .slice B1 na b1, .int .u64 nx, .slice D1 nd d1, .bool op], .agg #[.int .u8 k, .int .u64 tx, .int .u64 pv, .int .i64 pg, .int .i64 off, .slice A2 nb a2, .slice B2 na b2, .int .u64 nx, .slice D2 nd d2, .bool op]] w (RetB w true) := by
  have HB1 := hide hb1
  have HB2 := hide hb2
  have HA1 := hide ha1
  have HA2 := hide ha2
  have HD1 := hide hd1
  have HD2 := hide hd2
  have HBN := hide hbn
  have HAN := hide han
  have HN := hide hn
  have HND := hide hnd
  clear hb1 hb2 ha1 ha2 hd1 hd2 hbn han hn hnd
  go_enter Tryd.func14, Tryd.ntmps14
  go_upto_region 1 with fail
  obtain ⟨W1, hX1, hR1, hR2, hg⟩ : ∃ W1, Ext w W1 ∧ Rw W1 w.heap.size 26 [.int .u8 k, .int .u64 tx, .int .u64 pv, .int .i64 pg, .int .i64 off, .slice A1 nb a1, .slice B1 na b1, .int .u64 nx, .slice D1 nd d1, .bool op] ∧ Rw W1 (w.heap.size + 1) 26 [.int .u8 k, .int .u64 tx, .int .u64 pv, .int .i64 pg, .int .i64 off, .slice A2 nb a2, .slice B2 na b2, .int .u64 nx, .slice D2 nd d2, .bool op] ∧ (w.alloc (.cells #[.int .u8 k, .int .u64 tx, .int .u64 pv, .int .i64 pg, .int .i64 off, .slice A1 nb a1, .slice B1 na b1, .int .u64 nx, .slice D1 nd d1, .bool op] 26)).alloc (.cells #[.int .u8 k, .int .u64 tx, .int .u64 pv, .int .i64 pg, .int .i64 off, .slice A2 nb a2, .slice B2 na b2, .int .u64 nx, .slice D2 nd d2, .bool op] 26) = W1 := ⟨_, (Ext.alloc _ _).trans (Ext.alloc _ _), (Rw.new w 26 [.int .u8 k, .int .u64 tx, .int .u64 pv, .int .i64 pg, .int .i64 off, .slice A1 nb a1, .slice B1 na b1, .int .u64 nx, .slice D1 nd d1, .bool op]).ext (Ext.alloc _ _), (by have h := Rw.new (w.alloc (.cells #[.int .u8 k, .int .u64 tx, .int .u64 pv, .int .i64 pg, .int .i64 off, .slice A1 nb a1, .slice B1 na b1, .int .u64 nx, .slice D1 nd d1, .bool op] 26)) 26 [.int .u8 k, .int .u64 tx, .int .u64 pv, .int .i64 pg, .int .i64 off, .slice A2 nb a2, .slice B2 na b2, .int .u64 nx, .slice D2 nd d2, .bool op]; rwa [show (w.alloc (.cells #[.int .u8 k, .int .u64 tx, .int .u64 pv, .int .i64 pg, .int .i64 off, .slice A1 nb a1, .slice B1 na b1, .int .u64 nx, .slice D1 nd d1, .bool op] 26)).heap.size = w.heap.size + 1 by simp] at h), rfl⟩
  rw [hg]
  obtain ⟨h1, HH1⟩ : ∃ h, Hid (w.heap.size = h) := ⟨_, hide rfl⟩
  rw [HH1.out] at hR1 hR2 ⊢
  obtain ⟨h2, HH2⟩ : ∃ h, Hid (h1 + 1 = h) := ⟨_, hide rfl⟩
  rw [HH2.out] at hR2
  try rw [HH2.out]
  have X1 := hide hX1
  have c0 := hR1.cell (i := 0) rfl
  have e0 := hR2.cell (i := 0) rfl
  have c1 := hR1.cell (i := 1) rfl
  have e1 := hR2.cell (i := 1) rfl
  have c2 := hR1.cell (i := 2) rfl
  have e2 := hR2.cell (i := 2) rfl
  have c3 := hR1.cell (i := 3) rfl
  have e3 := hR2.cell (i := 3) rfl
  have c4 := hR1.cell (i := 4) rfl
  have e4 := hR2.cell (i := 4) rfl
  have c5 := hR1.cell (i := 5) rfl
  have e5 := hR2.cell (i := 5) rfl
  have c6 := hR1.cell (i := 6) rfl
  have e6 := hR2.cell (i := 6) rfl
  have c7 := hR1.cell (i := 7) rfl
  have e7 := hR2.cell (i := 7) rfl
  have c8 := hR1.cell (i := 8) rfl
  have e8 := hR2.cell (i := 8) rfl
  have c9 := hR1.cell (i := 9) rfl
  have e9 := hR2.cell (i := 9) rfl
  have cv1 := str_any (HB1.out.ext hX1) nb a1 HBN.out
  have cv2 := str_any (HB2.out.ext hX1) nb a2 HBN.out
  have cv3 := str_any (HA1.out.ext hX1) na b1 HAN.out
  have cv4 := str_any (HA2.out.ext hX1) na b2 HAN.out
  clear hg hX1 hR1 hR2
  go_upto_region 4 with fail
  clear cv1 cv2 cv3 cv4
  go_loopw [5] (fun iv wr => ∃ i q : Nat, i ≤ nd ∧ iv = .int .i64 (i : Int) ∧ Hid (wr = W1.drewN q)) (fun iv _ => nd - (intOf iv).toNat)
  case atStart => exact ⟨0, 0, Nat.zero_le _, rfl, hide rfl⟩
  case round =>
    obtain ⟨i, q, hi, rfl, HW⟩ := hrel
    by_cases hlt : i < nd
    · obtain ⟨⟨y, z⟩, he⟩ : ∃ e, L[i]? = some e := ⟨_, List.getElem?_eq_getElem (by rw [HN.out]; exact hlt)⟩
      obtain ⟨x1, o1, hE1, k1, k2⟩ := (HD1.out.ext X1.out).at he
      obtain ⟨x2, o2, hE2, k3, k4⟩ := (HD2.out.ext X1.out).at he
      subst hE1 hE2
      have hii : (i : Int) < (nd : Int) := by omega
      have hi0 : (0 : Int) ≤ (i : Int) := by omega
      have hib : (i : Int) ≤ 140737488351232 := by have := HND.out; omega
      have e1 := HW.out
      subst e1
      clear he
      go_wp2
      go_quiet (fail)
      go_wp2
      refine ⟨⟨i + 1, q + nq, by omega, by go_num, hide (by first | rfl | rw [World.drewN_drewN])⟩, by simp [intOf]; omega⟩
    · have hii : ¬ (i : Int) < (nd : Int) := by omega
      have e1 := HW.out
      subst e1
      go_wp2
      go_ret
      exact ⟨rfl, X1.out.drewN q⟩
end Go.Proofs.YtkbmcebdhiiffaaDoor
namespace Go.Proofs.YtkbmcebdhiiffaaDoor
open Go.RowKit

set_option maxRecDepth 20000 in
set_option maxHeartbeats 6400000 in
theorem recordEncodes_no (k : Int) (tx pv pg off nx : Int) (A B D : Option Addr) (nb a na b' nd d : Nat) (op : Bool) (w : World) (bf af : List UInt8) (L : List (Int × Int)) (ht : Tab w) (hb0 : Rd w A bf) (ha0 : Rd w B af) (hr : RdD w D L) (hbn : bf.length = nb) (han : af.length = na) (hn : L.length = nd) (hnd : nd ≤ 140737488351232) (hna : na ≤ 140737488351232) (hnb : nb ≤ 140737488351232) (ho : -9223372036854775808 ≤ off) (ho2 : off < 9223372036854775808) (htx0 : 0 ≤ tx) (htx : tx < 18446744073709551616) (hpv0 : 0 ≤ pv) (hpv1 : pv < 18446744073709551616) (hnx0 : 0 ≤ nx) (hnx1 : nx < 18446744073709551616) (hdl : ∀ e ∈ L, 0 ≤ e.2 ∧ e.2 < 18446744073709551616) (hf : formN k pv pg off nx na nb nd L op = false) :
    Calls Tryd.prog 3 #[.agg #[.int .u8 k, .int .u64 tx, .int .u64 pv, .int .i64 pg, .int .i64 off, .slice A nb a, .slice B na b', .int .u64 nx, .slice D nd d, .bool op]] w (RetB w true) := by
  have KA := hide (fun (W : World) (hW : Ext w W) => awake_any W (ht.ext hW))
  have KF := hide (fun (W : World) (hW : Ext w W) => (show Calls Tryd.prog 10 #[.agg #[.int .u8 k, .int .u64 tx, .int .u64 pv, .int .i64 pg, .int .i64 off, .slice A nb a, .slice B na b', .int .u64 nx, .slice D nd d, .bool op]] W (RetB W false) from by have h := rform_any k tx pv pg off nx A B D nb a na b' nd d op W L (hr.ext hW) hn hnd hna hnb ho ho2; rw [hf] at h; exact h))
  have KP := hide (fun (W : World) (hW : Ext w W) => (show Calls Tryd.prog 9 #[.agg #[.int .u8 k, .int .u64 tx, .int .u64 pv, .int .i64 pg, .int .i64 off, .slice A nb a, .slice B na b', .int .u64 nx, .slice D nd d, .bool op]] W (RetB W false) from by have h := form_any k tx pv pg off nx A B D nb a na b' nd d op W L (hr.ext hW) hn hnd hna hnb ho ho2; rw [hf] at h; exact h))
  have KE := hide (fun (W : World) (hW : Ext w W) => (show Calls Tryd.prog 11 #[.agg #[.int .u8 k, .int .u64 tx, .int .u64 pv, .int .i64 pg, .int .i64 off, .slice A nb a, .slice B na b', .int .u64 nx, .slice D nd d, .bool op]] W _ from encode_no k tx pv pg off nx A B D nb a na b' nd d op W L (hr.ext hW) hn hnd hna hnb ho ho2 hf))
  clear ht hb0 ha0 hr hbn han hn hnd hna hnb ho ho2 htx0 htx hpv0 hpv1 hnx0 hnx1 hdl hf
  go_enter Tryd.func3, Tryd.ntmps3
  go_upto_region 1 with fail
  obtain ⟨W1, hX1, hR1, hg⟩ : ∃ W1, Ext w W1 ∧ Rw W1 w.heap.size 26 [.int .u8 k, .int .u64 tx, .int .u64 pv, .int .i64 pg, .int .i64 off, .slice A nb a, .slice B na b', .int .u64 nx, .slice D nd d, .bool op] ∧ w.alloc (.cells #[.int .u8 k, .int .u64 tx, .int .u64 pv, .int .i64 pg, .int .i64 off, .slice A nb a, .slice B na b', .int .u64 nx, .slice D nd d, .bool op] 26) = W1 := ⟨_, Ext.alloc _ _, Rw.new _ _ _, rfl⟩
  rw [hg]
  obtain ⟨hb, HHB⟩ : ∃ hb, Hid (w.heap.size = hb) := ⟨_, hide rfl⟩
  rw [HHB.out] at hR1 ⊢
  have X1 := hide hX1
  have R1 := hide hR1
  clear hg hX1 hR1
  go_upto_region 1 with fail
  have X1d := hide (X1.out.trans (Ext.drew _))
  have R1d := hide (R1.out.ext (Ext.drew _))
  have d0 := R1d.out.cell (i := 0) rfl
  have d1 := R1d.out.cell (i := 1) rfl
  have d2 := R1d.out.cell (i := 2) rfl
  have d3 := R1d.out.cell (i := 3) rfl
  have d4 := R1d.out.cell (i := 4) rfl
  have d5 := R1d.out.cell (i := 5) rfl
  have d6 := R1d.out.cell (i := 6) rfl
  have d7 := R1d.out.cell (i := 7) rfl
  have d8 := R1d.out.cell (i := 8) rfl
  have d9 := R1d.out.cell (i := 9) rfl
  go_region_law (first
      | (go_simp; go_at_call 8; refine (KA.out _ X1d.out).mono ?_; rintro e w2 ⟨rfl, hx2⟩; have X2 : Ext w w2 := X1d.out.trans hx2; have R2 : Rw w2 hb 26 [.int .u8 k, .int .u64 tx, .int .u64 pv, .int .i64 pg, .int .i64 off, .slice A nb a, .slice B na b', .int .u64 nx, .slice D nd d, .bool op] := R1d.out.ext hx2; have e0 := R2.cell (i := 0) rfl; have e1 := R2.cell (i := 1) rfl; have e2 := R2.cell (i := 2) rfl; have e3 := R2.cell (i := 3) rfl; have e4 := R2.cell (i := 4) rfl; have e5 := R2.cell (i := 5) rfl; have e6 := R2.cell (i := 6) rfl; have e7 := R2.cell (i := 7) rfl; have e8 := R2.cell (i := 8) rfl; have e9 := R2.cell (i := 9) rfl)
      | (go_simp; go_at_call 9; refine (KP.out _ X2).mono ?_; rintro e w3 ⟨rfl, hx3⟩; have X3 : Ext w w3 := X2.trans hx3; have R3 : Rw w3 hb 26 [.int .u8 k, .int .u64 tx, .int .u64 pv, .int .i64 pg, .int .i64 off, .slice A nb a, .slice B na b', .int .u64 nx, .slice D nd d, .bool op] := R2.ext hx3; have f0 := R3.cell (i := 0) rfl; have f1 := R3.cell (i := 1) rfl; have f2 := R3.cell (i := 2) rfl; have f3 := R3.cell (i := 3) rfl; have f4 := R3.cell (i := 4) rfl; have f5 := R3.cell (i := 5) rfl; have f6 := R3.cell (i := 6) rfl; have f7 := R3.cell (i := 7) rfl; have f8 := R3.cell (i := 8) rfl; have f9 := R3.cell (i := 9) rfl)
      | (go_simp; go_at_call 10; refine (KF.out _ X3).mono ?_; rintro e w4 ⟨rfl, hx4⟩; have X4 : Ext w w4 := X3.trans hx4; have R4 : Rw w4 hb 26 [.int .u8 k, .int .u64 tx, .int .u64 pv, .int .i64 pg, .int .i64 off, .slice A nb a, .slice B na b', .int .u64 nx, .slice D nd d, .bool op] := R3.ext hx4))
  all_goals
    have X4h := hide X4
    have R4h := hide R4
    have c0 := R4h.out.cell (i := 0) rfl
    have c1 := R4h.out.cell (i := 1) rfl
    have c2 := R4h.out.cell (i := 2) rfl
    have c3 := R4h.out.cell (i := 3) rfl
    have c4 := R4h.out.cell (i := 4) rfl
    have c5 := R4h.out.cell (i := 5) rfl
    have c6 := R4h.out.cell (i := 6) rfl
    have c7 := R4h.out.cell (i := 7) rfl
    have c8 := R4h.out.cell (i := 8) rfl
    have c9 := R4h.out.cell (i := 9) rfl
    clear X2 R2 X3 R3 X4 R4 X1d R1d hx2 hx3 hx4 d0 d1 d2 d3 d4 d5 d6 d7 d8 d9 e0 e1 e2 e3 e4 e5 e6 e7 e8 e9 f0 f1 f2 f3 f4 f5 f6 f7 f8 f9
    go_wp2_with (first
      | (go_at_call 11; (with_reducible refine (KE.out _ X4h.out).mono ?_); rintro e w5 ⟨rfl, hx5⟩; have X5 := hide (X4h.out.trans hx5); have R5 := hide (R4h.out.ext hx5); have g0 := R5.out.cell (i := 0) rfl; have g1 := R5.out.cell (i := 1) rfl; have g2 := R5.out.cell (i := 2) rfl; have g3 := R5.out.cell (i := 3) rfl; have g4 := R5.out.cell (i := 4) rfl; have g5 := R5.out.cell (i := 5) rfl; have g6 := R5.out.cell (i := 6) rfl; have g7 := R5.out.cell (i := 7) rfl; have g8 := R5.out.cell (i := 8) rfl; have g9 := R5.out.cell (i := 9) rfl; clear hx5)
      | (go_at_call 10; (with_reducible refine (KF.out _ X5.out).mono ?_); rintro e w6 ⟨rfl, hx6⟩; have X6 := hide (X5.out.trans hx6); clear hx6))
    go_ret
    exact ⟨rfl, X6.out⟩

theorem own_rdE {w : World} {B n c : Nat} {A : Option Addr} {l : List UInt8} (h : Own w B (.slice A n c) l) : Rd w A l := by
  obtain ⟨A', c', hv, _, hr⟩ := h.bytes
  injection hv with h1
  subst h1
  exact hr
theorem ownD_rdE {w : World} {B n c : Nat} {A : Option Addr} {l : List (Int × Int)} (h : OwnD w B (.slice A n c) l) : RdD w A l := by
  obtain ⟨A', c', hv, _, hr⟩ := h.slice
  injection hv with h1
  subst h1
  exact hr
theorem step_givesW {P : Program} {ops : Array Oper} {o : Oper} {a : Act} {w w' : World} {x : Value} {K : Act → World → Prop} {Q : Exit → Act → World → Prop} {E : Prop} (hgd : Region.wanted o (yielded ops a.tmps) = true) (h : gives P o a w fun v w2 => v = x ∧ w2 = w') (hK : K (a.put o.dst x) w') :
    if Region.wanted o (yielded ops a.tmps) = true then o.wp P a w K Q else E := by
  rw [if_pos hgd]
  exact wp_of_gives h fun v w2 ⟨hv, hw⟩ => by subst hv hw; exact hK
theorem str_of {w : World} {A : Option Addr} {l : List UInt8} {n c : Nat} (h : Bytes l w (.slice A n c)) : (convert 23 9 (.slice A n c)).run Tryd.prog w = .ok (.string ⟨l.toArray⟩) w := by
  obtain ⟨A', c', hv, _, hr⟩ := h
  injection hv with h1 h2 h3
  subst h1 h2 h3
  exact Rd.str (P := Tryd.prog) (w := w) hr 23 9 5 c Tryd.underlying23 Tryd.underlying5 Tryd.underlying9
theorem bytes_of {w : World} {A : Option Addr} {l : List UInt8} {n c : Nat} (h : Rd w A l) (hn : l.length = n) (hc : n ≤ c) : Bytes l w (.slice A n c) := by
  subst hn
  exact ⟨A, c, rfl, hc, h⟩
set_option maxRecDepth 20000 in
set_option maxHeartbeats 6400000 in
theorem recordEncodes_yes (k : Int) (tx pv pg off nx : Int) (A B D : Option Addr) (nb a na b' nd d : Nat) (op : Bool) (w : World) (bf af : List UInt8) (L : List (Int × Int)) (ht : Tab w) (hb0 : Rd w A bf) (ha0 : Rd w B af) (hr : RdD w D L) (hbn : bf.length = nb) (han : af.length = na) (hn : L.length = nd) (hnd : nd ≤ 140737488351232) (hna : na ≤ 140737488351232) (hnb : nb ≤ 140737488351232) (ho : -9223372036854775808 ≤ off) (ho2 : off < 9223372036854775808) (htx0 : 0 ≤ tx) (htx : tx < 18446744073709551616) (hpv0 : 0 ≤ pv) (hpv1 : pv < 18446744073709551616) (hnx0 : 0 ≤ nx) (hnx1 : nx < 18446744073709551616) (hdl : ∀ e ∈ L, 0 ≤ e.2 ∧ e.2 < 18446744073709551616) (hf : formN k pv pg off nx na nb nd L op = true) :
    Calls Tryd.prog 3 #[.agg #[.int .u8 k, .int .u64 tx, .int .u64 pv, .int .i64 pg, .int .i64 off, .slice A nb a, .slice B na b', .int .u64 nx, .slice D nd d, .bool op]] w (RetB w true) := by
  obtain ⟨hs1, hs2, hs3⟩ := formN_small hf
  obtain ⟨FL, HFL⟩ : ∃ l, Hid (fullB k tx pv pg off nx bf af L op = l) := ⟨_, hide rfl⟩
  obtain ⟨NL, HNL⟩ : ∃ n, Hid (FL.length = n) := ⟨_, hide rfl⟩
  have hNL : 13 ≤ NL ∧ NL ≤ 2000 := by
    have h := fullB_length k tx pv pg off nx bf af L op
    rw [HFL.out, HNL.out, hbn, han, hn] at h
    refine ⟨by omega, ?_⟩
    rw [h]
    split <;> split <;> split <;> split <;> omega
  have KE := hide (fun (W : World) (hW : Ext w W) => (show Calls Tryd.prog 11 #[.agg #[.int .u8 k, .int .u64 tx, .int .u64 pv, .int .i64 pg, .int .i64 off, .slice A nb a, .slice B na b', .int .u64 nx, .slice D nd d, .bool op]] W (EncP W FL) from by rw [← HFL.out]; exact encode_yes k tx pv pg off nx A B D nb a na b' nd d op W bf af L (ht.ext hW) (hb0.ext hW) (ha0.ext hW) (hr.ext hW) hbn han hn hnd hna hnb ho ho2 htx0 htx hpv0 hpv1 hnx0 hnx1 hdl hf))
  have KRE := hide (fun (W : World) (hW : Ext w W) => (show Calls Tryd.prog 13 #[.agg #[.int .u8 k, .int .u64 tx, .int .u64 pv, .int .i64 pg, .int .i64 off, .slice A nb a, .slice B na b', .int .u64 nx, .slice D nd d, .bool op]] W (fun e w' => ∃ v', e = .returned v' ∧ Own w' W.heap.size v' FL ∧ Ext W w') from by rw [← HFL.out]; exact rencode_yes k tx pv pg off nx A B D nb a na b' nd d op W bf af L (ht.ext hW) (hb0.ext hW) (ha0.ext hW) (hr.ext hW) hbn han hn hnd hna hnb ho ho2 htx0 htx hpv0 hpv1 hnx0 hnx1 hdl hf))
  have KD := hide (fun (W : World) (hW : Ext w W) (AP : Option Addr) (cp : Nat) (hR : Rd W AP FL) (hc : NL ≤ cp) => (show Calls Tryd.prog 12 #[.slice AP NL cp] W (DecYes W k tx pv pg off nx bf af L op) from decode_full k tx pv pg off nx bf af L op AP NL cp W (ht.ext hW) (by rw [HFL.out]; exact hR) (by rw [HFL.out]; exact HNL.out) hc (by omega) htx0 htx hpv0 hpv1 hnx0 hnx1 hdl (by rw [hbn, han, hn]; exact hf)))
  have KSM := hide (fun (W : World) (hW : Ext w W) (A5 A6 A8 : Option Addr) (c5 c6 c8 : Nat) (h5 : Rd W A5 bf) (h6 : Rd W A6 af) (h8 : RdD W A8 L) => (show Calls Tryd.prog 14 #[.agg #[.int .u8 k, .int .u64 tx, .int .u64 pv, .int .i64 pg, .int .i64 off, .slice A5 nb c5, .slice A6 na c6, .int .u64 nx, .slice A8 nd c8, .bool op], .agg #[.int .u8 k, .int .u64 tx, .int .u64 pv, .int .i64 pg, .int .i64 off, .slice A nb a, .slice B na b', .int .u64 nx, .slice D nd d, .bool op]] W (RetB W true) from same_yes k tx pv pg off nx A5 A6 A8 A B D nb na nd c5 c6 c8 a b' d op bf af L W h5 (hb0.ext hW) h6 (ha0.ext hW) h8 (hr.ext hW) hbn han hn (by omega)))
  have HBN := hide hbn
  have HAN := hide han
  have HN := hide hn
  have KA := hide (fun (W : World) (hW : Ext w W) => awake_any W (ht.ext hW))
  have KF := hide (fun (W : World) (hW : Ext w W) => (show Calls Tryd.prog 10 #[.agg #[.int .u8 k, .int .u64 tx, .int .u64 pv, .int .i64 pg, .int .i64 off, .slice A nb a, .slice B na b', .int .u64 nx, .slice D nd d, .bool op]] W (RetB W true) from by have h := rform_any k tx pv pg off nx A B D nb a na b' nd d op W L (hr.ext hW) hn hnd hna hnb ho ho2; rw [hf] at h; exact h))
  have KP := hide (fun (W : World) (hW : Ext w W) => (show Calls Tryd.prog 9 #[.agg #[.int .u8 k, .int .u64 tx, .int .u64 pv, .int .i64 pg, .int .i64 off, .slice A nb a, .slice B na b', .int .u64 nx, .slice D nd d, .bool op]] W (RetB W true) from by have h := form_any k tx pv pg off nx A B D nb a na b' nd d op W L (hr.ext hW) hn hnd hna hnb ho ho2; rw [hf] at h; exact h))
  clear ht hb0 ha0 hr hbn han hn hnd hna hnb ho ho2 htx0 htx hpv0 hpv1 hnx0 hnx1 hdl hf
  go_enter Tryd.func3, Tryd.ntmps3
  go_upto_region 1 with fail
  obtain ⟨W1, hX1, hR1, hg⟩ : ∃ W1, Ext w W1 ∧ Rw W1 w.heap.size 26 [.int .u8 k, .int .u64 tx, .int .u64 pv, .int .i64 pg, .int .i64 off, .slice A nb a, .slice B na b', .int .u64 nx, .slice D nd d, .bool op] ∧ w.alloc (.cells #[.int .u8 k, .int .u64 tx, .int .u64 pv, .int .i64 pg, .int .i64 off, .slice A nb a, .slice B na b', .int .u64 nx, .slice D nd d, .bool op] 26) = W1 := ⟨_, Ext.alloc _ _, Rw.new _ _ _, rfl⟩
  rw [hg]
  obtain ⟨hb, HHB⟩ : ∃ hb, Hid (w.heap.size = hb) := ⟨_, hide rfl⟩
  rw [HHB.out] at hR1 ⊢
  have X1 := hide hX1
  have R1 := hide hR1
  clear hg hX1 hR1
  go_upto_region 1 with fail
  have X1d := hide (X1.out.trans (Ext.drew _))
  have R1d := hide (R1.out.ext (Ext.drew _))
  have d0 := R1d.out.cell (i := 0) rfl
  have d1 := R1d.out.cell (i := 1) rfl
  have d2 := R1d.out.cell (i := 2) rfl
  have d3 := R1d.out.cell (i := 3) rfl
  have d4 := R1d.out.cell (i := 4) rfl
  have d5 := R1d.out.cell (i := 5) rfl
  have d6 := R1d.out.cell (i := 6) rfl
  have d7 := R1d.out.cell (i := 7) rfl
  have d8 := R1d.out.cell (i := 8) rfl
  have d9 := R1d.out.cell (i := 9) rfl
  go_region_law (first
      | (go_simp; go_at_call 8; refine (KA.out _ X1d.out).mono ?_; rintro e w2 ⟨rfl, hx2⟩; have X2 : Ext w w2 := X1d.out.trans hx2; have R2 : Rw w2 hb 26 [.int .u8 k, .int .u64 tx, .int .u64 pv, .int .i64 pg, .int .i64 off, .slice A nb a, .slice B na b', .int .u64 nx, .slice D nd d, .bool op] := R1d.out.ext hx2; have e0 := R2.cell (i := 0) rfl; have e1 := R2.cell (i := 1) rfl; have e2 := R2.cell (i := 2) rfl; have e3 := R2.cell (i := 3) rfl; have e4 := R2.cell (i := 4) rfl; have e5 := R2.cell (i := 5) rfl; have e6 := R2.cell (i := 6) rfl; have e7 := R2.cell (i := 7) rfl; have e8 := R2.cell (i := 8) rfl; have e9 := R2.cell (i := 9) rfl)
      | (go_simp; go_at_call 9; refine (KP.out _ X2).mono ?_; rintro e w3 ⟨rfl, hx3⟩; have X3 : Ext w w3 := X2.trans hx3; have R3 : Rw w3 hb 26 [.int .u8 k, .int .u64 tx, .int .u64 pv, .int .i64 pg, .int .i64 off, .slice A nb a, .slice B na b', .int .u64 nx, .slice D nd d, .bool op] := R2.ext hx3; have f0 := R3.cell (i := 0) rfl; have f1 := R3.cell (i := 1) rfl; have f2 := R3.cell (i := 2) rfl; have f3 := R3.cell (i := 3) rfl; have f4 := R3.cell (i := 4) rfl; have f5 := R3.cell (i := 5) rfl; have f6 := R3.cell (i := 6) rfl; have f7 := R3.cell (i := 7) rfl; have f8 := R3.cell (i := 8) rfl; have f9 := R3.cell (i := 9) rfl)
      | (go_simp; go_at_call 10; refine (KF.out _ X3).mono ?_; rintro e w4 ⟨rfl, hx4⟩; have X4 : Ext w w4 := X3.trans hx4; have R4 : Rw w4 hb 26 [.int .u8 k, .int .u64 tx, .int .u64 pv, .int .i64 pg, .int .i64 off, .slice A nb a, .slice B na b', .int .u64 nx, .slice D nd d, .bool op] := R3.ext hx4))
  all_goals
    have X4h := hide X4
    have R4h := hide R4
    have c0 := R4h.out.cell (i := 0) rfl
    have c1 := R4h.out.cell (i := 1) rfl
    have c2 := R4h.out.cell (i := 2) rfl
    have c3 := R4h.out.cell (i := 3) rfl
    have c4 := R4h.out.cell (i := 4) rfl
    have c5 := R4h.out.cell (i := 5) rfl
    have c6 := R4h.out.cell (i := 6) rfl
    have c7 := R4h.out.cell (i := 7) rfl
    have c8 := R4h.out.cell (i := 8) rfl
    have c9 := R4h.out.cell (i := 9) rfl
    clear X2 R2 X3 R3 X4 R4 X1d R1d hx2 hx3 hx4 d0 d1 d2 d3 d4 d5 d6 d7 d8 d9 e0 e1 e2 e3 e4 e5 e6 e7 e8 e9 f0 f1 f2 f3 f4 f5 f6 f7 f8 f9
    go_upto_region 4 with (go_at_call 11; (with_reducible refine (KE.out _ X4h.out).mono ?_); rintro e w5 ⟨v5, rfl, ho5, hx5⟩; obtain ⟨AP, cp, hv5, hcp, hrp⟩ := ho5.bytes; rw [HNL.out] at hv5 hcp; subst hv5; have RP := hide hrp; have HCP := hide hcp; have X5 := hide (X4h.out.trans hx5); have R5 := hide (R4h.out.ext hx5); clear hx5 ho5 hrp hcp)
    clear c0 c1 c2 c3 c4 c5 c6 c7 c8 c9
    have g0 := R5.out.cell (i := 0) rfl
    have g1 := R5.out.cell (i := 1) rfl
    have g2 := R5.out.cell (i := 2) rfl
    have g3 := R5.out.cell (i := 3) rfl
    have g4 := R5.out.cell (i := 4) rfl
    have g5 := R5.out.cell (i := 5) rfl
    have g6 := R5.out.cell (i := 6) rfl
    have g7 := R5.out.cell (i := 7) rfl
    have g8 := R5.out.cell (i := 8) rfl
    have g9 := R5.out.cell (i := 9) rfl
    go_upto_region 6 with (go_at_call 10; (with_reducible refine (KF.out _ X5.out).mono ?_); rintro e w6 ⟨rfl, hx6⟩; have X6 := hide (X5.out.trans hx6); have R6 := hide (R5.out.ext hx6); have RP6 := hide (RP.out.ext hx6); clear hx6)
    clear g0 g1 g2 g3 g4 g5 g6 g7 g8 g9
    go_upto_region 7 with (go_at_call 12; (with_reducible refine (KD.out _ X6.out _ _ RP6.out HCP.out).mono ?_); rintro e w7 ⟨hx7, A5, c5, A6, c6, A8, c8, rfl, h5, h6, h8, -⟩; rw [HBN.out] at h5; rw [HAN.out] at h6; rw [HN.out] at h8; have V5 := hide (own_rdE h5); have V6 := hide (own_rdE h6); have V8 := hide (ownD_rdE h8); have X7 := hide (X6.out.trans hx7); have R7 := hide (R6.out.ext hx7); have RP7 := hide (RP6.out.ext hx7); clear hx7 h5 h6 h8)
    rw [HBN.out, HAN.out, HN.out]
    obtain ⟨w8, hX8, hA8, hgg⟩ : ∃ W, Ext w7 W ∧ Rw W w7.heap.size 26 [.int .u8 k, .int .u64 tx, .int .u64 pv, .int .i64 pg, .int .i64 off, .slice A5 nb c5, .slice A6 na c6, .int .u64 nx, .slice A8 nd c8, .bool op] ∧ w7.alloc (.cells #[.int .u8 k, .int .u64 tx, .int .u64 pv, .int .i64 pg, .int .i64 off, .slice A5 nb c5, .slice A6 na c6, .int .u64 nx, .slice A8 nd c8, .bool op] 26) = W := ⟨_, Ext.alloc _ _, Rw.new _ _ _, rfl⟩
    rw [hgg]
    obtain ⟨ha, HHA⟩ : ∃ h, Hid (w7.heap.size = h) := ⟨_, hide rfl⟩
    rw [HHA.out] at hA8 ⊢
    have hXd := hX8.trans (Ext.drew w8)
    have X8d := hide (X7.out.trans hXd)
    have R8d := hide (R7.out.ext hXd)
    have Q8d := hide (hA8.ext (Ext.drew _))
    have hcv1 := hide (bytes_of (RP7.out.ext hXd) HNL.out HCP.out)
    have V5d := hide (V5.out.ext hXd)
    have V6d := hide (V6.out.ext hXd)
    have V8d := hide (V8.out.ext hXd)
    clear hgg hX8 hA8 hXd KA KF KP KE KD V5 V6 V8 R5 R6 R7 RP RP6 RP7
    have d0 := R8d.out.cell (i := 0) rfl
    have d1 := R8d.out.cell (i := 1) rfl
    have d2 := R8d.out.cell (i := 2) rfl
    have d3 := R8d.out.cell (i := 3) rfl
    have d4 := R8d.out.cell (i := 4) rfl
    have d5 := R8d.out.cell (i := 5) rfl
    have d6 := R8d.out.cell (i := 6) rfl
    have d7 := R8d.out.cell (i := 7) rfl
    have d8 := R8d.out.cell (i := 8) rfl
    have d9 := R8d.out.cell (i := 9) rfl
    have hs1 := str_of hcv1.out
    go_region_law (first
      | (go_simp; go_at_call 13; refine (KRE.out _ X8d.out).mono ?_; rintro e w9 ⟨v9, rfl, ho9, hx9⟩; obtain ⟨AQ, cq, hv9, hcq, hrq⟩ := ho9.bytes; rw [HNL.out] at hv9 hcq; subst hv9; have X9 : Ext w w9 := X8d.out.trans hx9; have hcv2 := hide (bytes_of hrq HNL.out hcq); have hs2 := str_of hcv2.out; have hs1b := str_of (hcv1.out.ext hx9); have R9 : Rw w9 hb 26 [.int .u8 k, .int .u64 tx, .int .u64 pv, .int .i64 pg, .int .i64 off, .slice A nb a, .slice B na b', .int .u64 nx, .slice D nd d, .bool op] := R8d.out.ext hx9; have Q9 : Rw w9 ha 26 [.int .u8 k, .int .u64 tx, .int .u64 pv, .int .i64 pg, .int .i64 off, .slice A5 nb c5, .slice A6 na c6, .int .u64 nx, .slice A8 nd c8, .bool op] := Q8d.out.ext hx9; have e0 := R9.cell (i := 0) rfl; have e1 := R9.cell (i := 1) rfl; have e2 := R9.cell (i := 2) rfl; have e3 := R9.cell (i := 3) rfl; have e4 := R9.cell (i := 4) rfl; have e5 := R9.cell (i := 5) rfl; have e6 := R9.cell (i := 6) rfl; have e7 := R9.cell (i := 7) rfl; have e8 := R9.cell (i := 8) rfl; have e9 := R9.cell (i := 9) rfl; have q0 := Q9.cell (i := 0) rfl; have q1 := Q9.cell (i := 1) rfl; have q2 := Q9.cell (i := 2) rfl; have q3 := Q9.cell (i := 3) rfl; have q4 := Q9.cell (i := 4) rfl; have q5 := Q9.cell (i := 5) rfl; have q6 := Q9.cell (i := 6) rfl; have q7 := Q9.cell (i := 7) rfl; have q8 := Q9.cell (i := 8) rfl; have q9 := Q9.cell (i := 9) rfl; have KS9 := KSM.out _ X9 A5 A6 A8 c5 c6 c8 (V5d.out.ext hx9) (V6d.out.ext hx9) (V8d.out.ext hx9))
      | (go_simp; go_at_call 14; refine KS9.mono ?_; rintro e wz ⟨rfl, hxz⟩; have XZ : Ext w wz := X9.trans hxz))
    all_goals
      go_wp2
      go_ret
      exact ⟨rfl, XZ⟩
theorem recordEncodes_walk (k : Int) (tx pv pg off nx : Int) (A B D : Option Addr) (nb a na b' nd d : Nat) (op : Bool) (w : World) (bf af : List UInt8) (L : List (Int × Int)) (ht : Tab w) (hb0 : Rd w A bf) (ha0 : Rd w B af) (hr : RdD w D L) (hbn : bf.length = nb) (han : af.length = na) (hn : L.length = nd) (hnd : nd ≤ 140737488351232) (hna : na ≤ 140737488351232) (hnb : nb ≤ 140737488351232) (ho : -9223372036854775808 ≤ off) (ho2 : off < 9223372036854775808) (htx0 : 0 ≤ tx) (htx : tx < 18446744073709551616) (hpv0 : 0 ≤ pv) (hpv1 : pv < 18446744073709551616) (hnx0 : 0 ≤ nx) (hnx1 : nx < 18446744073709551616) (hdl : ∀ e ∈ L, 0 ≤ e.2 ∧ e.2 < 18446744073709551616) :
    Calls Tryd.prog 3 #[.agg #[.int .u8 k, .int .u64 tx, .int .u64 pv, .int .i64 pg, .int .i64 off, .slice A nb a, .slice B na b', .int .u64 nx, .slice D nd d, .bool op]] w (RetB w true) := by
  cases hf : formN k pv pg off nx na nb nd L op with
  | false => exact recordEncodes_no k tx pv pg off nx A B D nb a na b' nd d op w bf af L ht hb0 ha0 hr hbn han hn hnd hna hnb ho ho2 htx0 htx hpv0 hpv1 hnx0 hnx1 hdl hf
  | true => exact recordEncodes_yes k tx pv pg off nx A B D nb a na b' nd d op w bf af L ht hb0 ha0 hr hbn han hn hnd hna hnb ho ho2 htx0 htx hpv0 hpv1 hnx0 hnx1 hdl hf

end Go.Proofs.YtkbmcebdhiiffaaDoor
namespace Go.Proofs.YtkbmcebdhiiffaaDoor
open Go.RowKit

theorem ref_tell (l : List UInt8) (h5 : ¬ l.length < 5) (hs : atV l (l.length - 4) 4 = crc (l.take (l.length - 4))) : refV l = if formB (candV l) = true ∧ fullOf (candV l) = l then (0, some (candV l)) else (3, none) := by
  unfold refV
  rw [if_neg h5, if_neg (fun h => h hs)]
/-- What the document's Decode answers: the record reads as said. -/
def RefP (w : World) (x : Int × Option Rec) (e : Ending) (w' : World) : Prop := Ext w w' ∧ match x.2 with
  | none => e = .returned (.tuple #[.agg #[.int .u8 0, .int .u64 0, .int .u64 0, .int .i64 0, .int .i64 0, .slice none 0 0, .slice none 0 0, .int .u64 0, .slice none 0 0, .bool false], .int .i64 x.1])
  | some r => ∃ A5 A6 A8 c5 c6 c8, e = .returned (.tuple #[.agg #[.int .u8 r.k, .int .u64 r.tx, .int .u64 r.pv, .int .i64 r.pg, .int .i64 r.off, .slice A5 r.bf.length c5, .slice A6 r.af.length c6, .int .u64 r.nx, .slice A8 r.dl.length c8, .bool r.op], .int .i64 0]) ∧ Rd w' A5 r.bf ∧ Rd w' A6 r.af ∧ RdD w' A8 r.dl
theorem ext_set {w W : World} (hx : Ext w W) {h : Nat} (hh : w.heap.size ≤ h) (i : Nat) (v : Value) : Ext w (W.setCell ⟨h, i, none⟩ v) :=
  ⟨hx.os, hx.tape, hx.output, Nat.le_trans hx.size (by simp [World.setCell]), fun b hb => (Below.heap_setCell W ⟨h, i, none⟩ v b (fun e => by simp only at e; omega)).trans (hx.block b hb)⟩
theorem ext_grown {w W W' : World} {r : Option Nat} (hx : Ext w W) (hg : W.grownBy W' r) (hr : ∀ b, r = some b → w.heap.size ≤ b) : Ext w W' :=
  ⟨hg.os.trans hx.os, hg.tape.trans hx.tape, hg.output.trans hx.output, Nat.le_trans hx.size hg.size, fun b hb => (hg.block b (Nat.lt_of_lt_of_le hb hx.size) (fun e => by have := hr b e.symm; omega)).trans (hx.block b hb)⟩
theorem worldOf {w W : World} (_ : Hid (Ext w W)) : ∃ wr, wr = W := ⟨W, rfl⟩
theorem cand_k1 (l : List UInt8) (hk : byteV l 0 = 1) : candV l = ⟨1, atV l 1 8, 0, 0, 0, [], [], 0, [], false⟩ := by
  unfold candV; simp [hk, hch, hbf, hnx, hck]
theorem cand_k2 (l : List UInt8) (hk : byteV l 0 = 2) : candV l = ⟨2, atV l 1 8, atV l 9 8, atV l 17 2, atV l 19 2, (l.drop 23).take (atV l 21 2), (l.drop (23 + atV l 21 2)).take (atV l 21 2), 0, [], false⟩ := by
  unfold candV; simp [hk, hch, hbf, hnx, hck]
theorem cand_k3 (l : List UInt8) (hk : byteV l 0 = 3) : candV l = ⟨3, atV l 1 8, atV l 9 8, atV l 17 2, atV l 19 2, [], (l.drop 23).take (atV l 21 2), atV l (23 + atV l 21 2) 8, [], false⟩ := by
  unfold candV; simp [hk, hch, hbf, hnx, hck]
theorem cand_k6 (l : List UInt8) (hk : byteV l 0 = 6) : candV l = ⟨6, atV l 1 8, atV l 9 8, 0, 0, [], [], 0, (List.range (atV l 17 1 / 2)).map (fun i => ((atV l (18 + 10 * i) 2 : Int), (atV l (20 + 10 * i) 8 : Int))), decide (atV l 17 1 % 2 = 1)⟩ := by
  unfold candV; simp [hk, hch, hbf, hnx, hck]
end Go.Proofs.YtkbmcebdhiiffaaDoor
