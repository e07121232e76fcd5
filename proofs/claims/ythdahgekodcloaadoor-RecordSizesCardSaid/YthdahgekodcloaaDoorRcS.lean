/-
  The walk of RecordSizes.
-/
import Derived.Test.YthdahgekodcloaaDoorRcA
namespace Go.Proofs.YthdahgekodcloaaDoor
open Go.RowKit

set_option maxRecDepth 20000 in
set_option maxHeartbeats 3200000 in
theorem recordSizes_no (k : Int) (tx pv pg off nx : Int) (A B D : Option Addr) (nb a na b' nd d : Nat) (op : Bool) (w : World) (bf af : List UInt8) (L : List (Int × Int)) (ht : Tab w) (hb0 : Rd w A bf) (ha0 : Rd w B af) (hr : RdD w D L) (hbn : bf.length = nb) (han : af.length = na) (hn : L.length = nd) (hnd : nd ≤ 140737488351232) (hna : na ≤ 140737488351232) (hnb : nb ≤ 140737488351232) (ho : -9223372036854775808 ≤ off) (ho2 : off < 9223372036854775808) (htx0 : 0 ≤ tx) (htx : tx < 18446744073709551616) (hpv0 : 0 ≤ pv) (hpv1 : pv < 18446744073709551616) (hnx0 : 0 ≤ nx) (hnx1 : nx < 18446744073709551616) (hdl : ∀ e ∈ L, 0 ≤ e.2 ∧ e.2 < 18446744073709551616) (hf : formN k pv pg off nx na nb nd L op = false) :
    Calls Tryd.prog 7 #[.agg #[.int .u8 k, .int .u64 tx, .int .u64 pv, .int .i64 pg, .int .i64 off, .slice A nb a, .slice B na b', .int .u64 nx, .slice D nd d, .bool op]] w (RetB w true) := by
  have KA := hide (fun (W : World) (hW : Ext w W) => awake_any W (ht.ext hW))
  have KF := hide (fun (W : World) (hW : Ext w W) => (show Calls Tryd.prog 10 #[.agg #[.int .u8 k, .int .u64 tx, .int .u64 pv, .int .i64 pg, .int .i64 off, .slice A nb a, .slice B na b', .int .u64 nx, .slice D nd d, .bool op]] W (RetB W false) from by have h := rform_any k tx pv pg off nx A B D nb a na b' nd d op W L (hr.ext hW) hn hnd hna hnb ho ho2; rw [hf] at h; exact h))
  clear ht hb0 ha0 hr hbn han hn hnd hna hnb ho ho2 htx0 htx hpv0 hpv1 hnx0 hnx1 hdl hf
  go_enter Tryd.func7, Tryd.ntmps7
  go_upto_region 1 with fail
  obtain ⟨W1, hX1, hR1, hg⟩ : ∃ W1, Ext w W1 ∧ Rw W1 w.heap.size 26 [.int .u8 k, .int .u64 tx, .int .u64 pv, .int .i64 pg, .int .i64 off, .slice A nb a, .slice B na b', .int .u64 nx, .slice D nd d, .bool op] ∧ w.alloc (.cells #[.int .u8 k, .int .u64 tx, .int .u64 pv, .int .i64 pg, .int .i64 off, .slice A nb a, .slice B na b', .int .u64 nx, .slice D nd d, .bool op] 26) = W1 := ⟨_, Ext.alloc _ _, Rw.new _ _ _, rfl⟩
  rw [hg]
  obtain ⟨hb, HHB⟩ : ∃ hb, Hid (w.heap.size = hb) := ⟨_, hide rfl⟩
  rw [HHB.out] at hR1 ⊢
  have X1 := hide hX1
  have R1 := hide hR1
  clear hg hX1 hR1
  go_upto_region 2 with (first
    | (go_at_call 8; (with_reducible refine (KA.out _ X1.out).mono ?_); rintro e w2 ⟨rfl, hx2⟩; have X2 := hide (X1.out.trans hx2); have R2 := hide (R1.out.ext hx2); have c0 := R2.out.cell (i := 0) rfl; have c1 := R2.out.cell (i := 1) rfl; have c2 := R2.out.cell (i := 2) rfl; have c3 := R2.out.cell (i := 3) rfl; have c4 := R2.out.cell (i := 4) rfl; have c5 := R2.out.cell (i := 5) rfl; have c6 := R2.out.cell (i := 6) rfl; have c7 := R2.out.cell (i := 7) rfl; have c8 := R2.out.cell (i := 8) rfl; have c9 := R2.out.cell (i := 9) rfl; clear hx2)
    | (go_at_call 10; (with_reducible refine (KF.out _ X2.out).mono ?_); rintro e w3 ⟨rfl, hx3⟩; have X3 := hide (X2.out.trans hx3); have R3 := hide (R2.out.ext hx3); clear hx3))
  clear c0 c1 c2 c3 c4 c5 c6 c7 c8 c9
  go_wp2_with (go_at_call 8; (with_reducible refine (KA.out _ X3.out).mono ?_); rintro e w4 ⟨rfl, hx4⟩; have X4 := hide (X3.out.trans hx4); clear hx4)
  go_ret
  exact ⟨rfl, X4.out⟩
set_option maxRecDepth 20000 in
set_option maxHeartbeats 3200000 in
theorem recordSizes_1 (tx pv pg off nx : Int) (A B D : Option Addr) (nb a na b' nd d : Nat) (op : Bool) (w : World) (bf af : List UInt8) (L : List (Int × Int)) (ht : Tab w) (hb0 : Rd w A bf) (ha0 : Rd w B af) (hr : RdD w D L) (hbn : bf.length = nb) (han : af.length = na) (hn : L.length = nd) (hnd : nd ≤ 140737488351232) (hna : na ≤ 140737488351232) (hnb : nb ≤ 140737488351232) (ho : -9223372036854775808 ≤ off) (ho2 : off < 9223372036854775808) (htx0 : 0 ≤ tx) (htx : tx < 18446744073709551616) (hpv0 : 0 ≤ pv) (hpv1 : pv < 18446744073709551616) (hnx0 : 0 ≤ nx) (hnx1 : nx < 18446744073709551616) (hdl : ∀ e ∈ L, 0 ≤ e.2 ∧ e.2 < 18446744073709551616) (hf : formN 1 pv pg off nx na nb nd L op = true) :
    Calls Tryd.prog 7 #[.agg #[.int .u8 1, .int .u64 tx, .int .u64 pv, .int .i64 pg, .int .i64 off, .slice A nb a, .slice B na b', .int .u64 nx, .slice D nd d, .bool op]] w (RetB w true) := by
  have HLEN : Hid ((fullB 1 tx pv pg off nx bf af L op).length = 13) := hide (by rw [fullB_length, hbn, han, hn]; simp only [hpv, hch, hnx, hck]; simp)
  have KE := hide (fun (W : World) (hW : Ext w W) => (show Calls Tryd.prog 11 #[.agg #[.int .u8 1, .int .u64 tx, .int .u64 pv, .int .i64 pg, .int .i64 off, .slice A nb a, .slice B na b', .int .u64 nx, .slice D nd d, .bool op]] W (fun e w' => ∃ A' c', e = .returned (.tuple #[.slice A' (13) c', .int .i64 0]) ∧ Ext W w') from
    (encode_yes 1 tx pv pg off nx A B D nb a na b' nd d op W bf af L (ht.ext hW) (hb0.ext hW) (ha0.ext hW) (hr.ext hW) hbn han hn hnd hna hnb ho ho2 htx0 htx hpv0 hpv1 hnx0 hnx1 hdl hf).mono fun e w' ⟨v, he, hv, hx⟩ => by
      obtain ⟨A', c', rfl, _, _⟩ := hv.bytes
      exact ⟨A', c', by rw [he, HLEN.out], hx⟩))
  have KA := hide (fun (W : World) (hW : Ext w W) => awake_any W (ht.ext hW))
  have KF := hide (fun (W : World) (hW : Ext w W) => (show Calls Tryd.prog 10 #[.agg #[.int .u8 1, .int .u64 tx, .int .u64 pv, .int .i64 pg, .int .i64 off, .slice A nb a, .slice B na b', .int .u64 nx, .slice D nd d, .bool op]] W (RetB W true) from by have h := rform_any 1 tx pv pg off nx A B D nb a na b' nd d op W L (hr.ext hW) hn hnd hna hnb ho ho2; rw [hf] at h; exact h))
  clear ht hb0 ha0 hr hbn han hn hnd hna hnb ho ho2 htx0 htx hpv0 hpv1 hnx0 hnx1 hdl hf
  go_enter Tryd.func7, Tryd.ntmps7
  go_upto_region 1 with fail
  obtain ⟨W1, hX1, hR1, hg⟩ : ∃ W1, Ext w W1 ∧ Rw W1 w.heap.size 26 [.int .u8 1, .int .u64 tx, .int .u64 pv, .int .i64 pg, .int .i64 off, .slice A nb a, .slice B na b', .int .u64 nx, .slice D nd d, .bool op] ∧ w.alloc (.cells #[.int .u8 1, .int .u64 tx, .int .u64 pv, .int .i64 pg, .int .i64 off, .slice A nb a, .slice B na b', .int .u64 nx, .slice D nd d, .bool op] 26) = W1 := ⟨_, Ext.alloc _ _, Rw.new _ _ _, rfl⟩
  rw [hg]
  obtain ⟨hb, HHB⟩ : ∃ hb, Hid (w.heap.size = hb) := ⟨_, hide rfl⟩
  rw [HHB.out] at hR1 ⊢
  have X1 := hide hX1
  have R1 := hide hR1
  clear hg hX1 hR1
  go_upto_region 3 with (first
    | (go_at_call 8; (with_reducible refine (KA.out _ X1.out).mono ?_); rintro e w2 ⟨rfl, hx2⟩; have X2 := hide (X1.out.trans hx2); have R2 := hide (R1.out.ext hx2); have c0 := R2.out.cell (i := 0) rfl; have c1 := R2.out.cell (i := 1) rfl; have c2 := R2.out.cell (i := 2) rfl; have c3 := R2.out.cell (i := 3) rfl; have c4 := R2.out.cell (i := 4) rfl; have c5 := R2.out.cell (i := 5) rfl; have c6 := R2.out.cell (i := 6) rfl; have c7 := R2.out.cell (i := 7) rfl; have c8 := R2.out.cell (i := 8) rfl; have c9 := R2.out.cell (i := 9) rfl; clear hx2)
    | (go_at_call 10; (with_reducible refine (KF.out _ X2.out).mono ?_); rintro e w3 ⟨rfl, hx3⟩; have X3 := hide (X2.out.trans hx3); have R3 := hide (R2.out.ext hx3); clear hx3))
  clear c0 c1 c2 c3 c4 c5 c6 c7 c8 c9
  have c0 := R3.out.cell (i := 0) rfl
  have c1 := R3.out.cell (i := 1) rfl
  have c2 := R3.out.cell (i := 2) rfl
  have c3 := R3.out.cell (i := 3) rfl
  have c4 := R3.out.cell (i := 4) rfl
  have c5 := R3.out.cell (i := 5) rfl
  have c6 := R3.out.cell (i := 6) rfl
  have c7 := R3.out.cell (i := 7) rfl
  have c8 := R3.out.cell (i := 8) rfl
  have c9 := R3.out.cell (i := 9) rfl
  go_upto_region 4 with (go_at_call 11; (with_reducible refine (KE.out _ X3.out).mono ?_); rintro e w4 ⟨A4, cq, rfl, hx4⟩; have X4 := hide (X3.out.trans hx4); have R4 := hide (R3.out.ext hx4); clear hx4)
  clear c0 c1 c2 c3 c4 c5 c6 c7 c8 c9
  have c0 := R4.out.cell (i := 0) rfl
  have c6 := R4.out.cell (i := 6) rfl
  have c8 := R4.out.cell (i := 8) rfl
  go_wp2
  go_ret
  exact ⟨by simp, X4.out⟩
set_option maxRecDepth 20000 in
set_option maxHeartbeats 3200000 in
theorem recordSizes_2 (tx pv pg off nx : Int) (A B D : Option Addr) (nb a na b' nd d : Nat) (op : Bool) (w : World) (bf af : List UInt8) (L : List (Int × Int)) (ht : Tab w) (hb0 : Rd w A bf) (ha0 : Rd w B af) (hr : RdD w D L) (hbn : bf.length = nb) (han : af.length = na) (hn : L.length = nd) (hnd : nd ≤ 140737488351232) (hna : na ≤ 140737488351232) (hnb : nb ≤ 140737488351232) (ho : -9223372036854775808 ≤ off) (ho2 : off < 9223372036854775808) (htx0 : 0 ≤ tx) (htx : tx < 18446744073709551616) (hpv0 : 0 ≤ pv) (hpv1 : pv < 18446744073709551616) (hnx0 : 0 ≤ nx) (hnx1 : nx < 18446744073709551616) (hdl : ∀ e ∈ L, 0 ≤ e.2 ∧ e.2 < 18446744073709551616) (hf : formN 2 pv pg off nx na nb nd L op = true) :
    Calls Tryd.prog 7 #[.agg #[.int .u8 2, .int .u64 tx, .int .u64 pv, .int .i64 pg, .int .i64 off, .slice A nb a, .slice B na b', .int .u64 nx, .slice D nd d, .bool op]] w (RetB w true) := by
  obtain ⟨hn5, hnbE⟩ : na ≤ 512 ∧ nb = na := by
    simp [formN, hok, hpv, hch, hbf, hnx, hck, chgN, chkN, isPg] at hf
    omega
  have HLEN : Hid ((fullB 2 tx pv pg off nx bf af L op).length = 27 + 2 * na) := hide (by rw [fullB_length, hbn, han, hn]; simp only [hpv, hch, hnx, hck]; simp <;> omega)
  have KE := hide (fun (W : World) (hW : Ext w W) => (show Calls Tryd.prog 11 #[.agg #[.int .u8 2, .int .u64 tx, .int .u64 pv, .int .i64 pg, .int .i64 off, .slice A nb a, .slice B na b', .int .u64 nx, .slice D nd d, .bool op]] W (fun e w' => ∃ A' c', e = .returned (.tuple #[.slice A' (27 + 2 * na) c', .int .i64 0]) ∧ Ext W w') from
    (encode_yes 2 tx pv pg off nx A B D nb a na b' nd d op W bf af L (ht.ext hW) (hb0.ext hW) (ha0.ext hW) (hr.ext hW) hbn han hn hnd hna hnb ho ho2 htx0 htx hpv0 hpv1 hnx0 hnx1 hdl hf).mono fun e w' ⟨v, he, hv, hx⟩ => by
      obtain ⟨A', c', rfl, _, _⟩ := hv.bytes
      exact ⟨A', c', by rw [he, HLEN.out], hx⟩))
  clear hnbE
  have hna5 : (na : Int) ≤ 512 := by omega
  have KA := hide (fun (W : World) (hW : Ext w W) => awake_any W (ht.ext hW))
  have KF := hide (fun (W : World) (hW : Ext w W) => (show Calls Tryd.prog 10 #[.agg #[.int .u8 2, .int .u64 tx, .int .u64 pv, .int .i64 pg, .int .i64 off, .slice A nb a, .slice B na b', .int .u64 nx, .slice D nd d, .bool op]] W (RetB W true) from by have h := rform_any 2 tx pv pg off nx A B D nb a na b' nd d op W L (hr.ext hW) hn hnd hna hnb ho ho2; rw [hf] at h; exact h))
  clear ht hb0 ha0 hr hbn han hn hnd hna hnb ho ho2 htx0 htx hpv0 hpv1 hnx0 hnx1 hdl hf
  go_enter Tryd.func7, Tryd.ntmps7
  go_upto_region 1 with fail
  obtain ⟨W1, hX1, hR1, hg⟩ : ∃ W1, Ext w W1 ∧ Rw W1 w.heap.size 26 [.int .u8 2, .int .u64 tx, .int .u64 pv, .int .i64 pg, .int .i64 off, .slice A nb a, .slice B na b', .int .u64 nx, .slice D nd d, .bool op] ∧ w.alloc (.cells #[.int .u8 2, .int .u64 tx, .int .u64 pv, .int .i64 pg, .int .i64 off, .slice A nb a, .slice B na b', .int .u64 nx, .slice D nd d, .bool op] 26) = W1 := ⟨_, Ext.alloc _ _, Rw.new _ _ _, rfl⟩
  rw [hg]
  obtain ⟨hb, HHB⟩ : ∃ hb, Hid (w.heap.size = hb) := ⟨_, hide rfl⟩
  rw [HHB.out] at hR1 ⊢
  have X1 := hide hX1
  have R1 := hide hR1
  clear hg hX1 hR1
  go_upto_region 3 with (first
    | (go_at_call 8; (with_reducible refine (KA.out _ X1.out).mono ?_); rintro e w2 ⟨rfl, hx2⟩; have X2 := hide (X1.out.trans hx2); have R2 := hide (R1.out.ext hx2); have c0 := R2.out.cell (i := 0) rfl; have c1 := R2.out.cell (i := 1) rfl; have c2 := R2.out.cell (i := 2) rfl; have c3 := R2.out.cell (i := 3) rfl; have c4 := R2.out.cell (i := 4) rfl; have c5 := R2.out.cell (i := 5) rfl; have c6 := R2.out.cell (i := 6) rfl; have c7 := R2.out.cell (i := 7) rfl; have c8 := R2.out.cell (i := 8) rfl; have c9 := R2.out.cell (i := 9) rfl; clear hx2)
    | (go_at_call 10; (with_reducible refine (KF.out _ X2.out).mono ?_); rintro e w3 ⟨rfl, hx3⟩; have X3 := hide (X2.out.trans hx3); have R3 := hide (R2.out.ext hx3); clear hx3))
  clear c0 c1 c2 c3 c4 c5 c6 c7 c8 c9
  have c0 := R3.out.cell (i := 0) rfl
  have c1 := R3.out.cell (i := 1) rfl
  have c2 := R3.out.cell (i := 2) rfl
  have c3 := R3.out.cell (i := 3) rfl
  have c4 := R3.out.cell (i := 4) rfl
  have c5 := R3.out.cell (i := 5) rfl
  have c6 := R3.out.cell (i := 6) rfl
  have c7 := R3.out.cell (i := 7) rfl
  have c8 := R3.out.cell (i := 8) rfl
  have c9 := R3.out.cell (i := 9) rfl
  go_upto_region 4 with (go_at_call 11; (with_reducible refine (KE.out _ X3.out).mono ?_); rintro e w4 ⟨A4, cq, rfl, hx4⟩; have X4 := hide (X3.out.trans hx4); have R4 := hide (R3.out.ext hx4); clear hx4)
  clear c0 c1 c2 c3 c4 c5 c6 c7 c8 c9
  have c0 := R4.out.cell (i := 0) rfl
  have c6 := R4.out.cell (i := 6) rfl
  have c8 := R4.out.cell (i := 8) rfl
  go_wp2
  go_ret
  exact ⟨by simp <;> omega, X4.out⟩
set_option maxRecDepth 20000 in
set_option maxHeartbeats 3200000 in
theorem recordSizes_3 (tx pv pg off nx : Int) (A B D : Option Addr) (nb a na b' nd d : Nat) (op : Bool) (w : World) (bf af : List UInt8) (L : List (Int × Int)) (ht : Tab w) (hb0 : Rd w A bf) (ha0 : Rd w B af) (hr : RdD w D L) (hbn : bf.length = nb) (han : af.length = na) (hn : L.length = nd) (hnd : nd ≤ 140737488351232) (hna : na ≤ 140737488351232) (hnb : nb ≤ 140737488351232) (ho : -9223372036854775808 ≤ off) (ho2 : off < 9223372036854775808) (htx0 : 0 ≤ tx) (htx : tx < 18446744073709551616) (hpv0 : 0 ≤ pv) (hpv1 : pv < 18446744073709551616) (hnx0 : 0 ≤ nx) (hnx1 : nx < 18446744073709551616) (hdl : ∀ e ∈ L, 0 ≤ e.2 ∧ e.2 < 18446744073709551616) (hf : formN 3 pv pg off nx na nb nd L op = true) :
    Calls Tryd.prog 7 #[.agg #[.int .u8 3, .int .u64 tx, .int .u64 pv, .int .i64 pg, .int .i64 off, .slice A nb a, .slice B na b', .int .u64 nx, .slice D nd d, .bool op]] w (RetB w true) := by
  obtain ⟨hn5, hnbE⟩ : na ≤ 512 ∧ nb = 0 := by
    simp [formN, hok, hpv, hch, hbf, hnx, hck, chgN, chkN, isPg] at hf
    omega
  have HLEN : Hid ((fullB 3 tx pv pg off nx bf af L op).length = 35 + na) := hide (by rw [fullB_length, hbn, han, hn]; simp only [hpv, hch, hnx, hck]; simp <;> omega)
  have KE := hide (fun (W : World) (hW : Ext w W) => (show Calls Tryd.prog 11 #[.agg #[.int .u8 3, .int .u64 tx, .int .u64 pv, .int .i64 pg, .int .i64 off, .slice A nb a, .slice B na b', .int .u64 nx, .slice D nd d, .bool op]] W (fun e w' => ∃ A' c', e = .returned (.tuple #[.slice A' (35 + na) c', .int .i64 0]) ∧ Ext W w') from
    (encode_yes 3 tx pv pg off nx A B D nb a na b' nd d op W bf af L (ht.ext hW) (hb0.ext hW) (ha0.ext hW) (hr.ext hW) hbn han hn hnd hna hnb ho ho2 htx0 htx hpv0 hpv1 hnx0 hnx1 hdl hf).mono fun e w' ⟨v, he, hv, hx⟩ => by
      obtain ⟨A', c', rfl, _, _⟩ := hv.bytes
      exact ⟨A', c', by rw [he, HLEN.out], hx⟩))
  clear hnbE
  have hna5 : (na : Int) ≤ 512 := by omega
  have KA := hide (fun (W : World) (hW : Ext w W) => awake_any W (ht.ext hW))
  have KF := hide (fun (W : World) (hW : Ext w W) => (show Calls Tryd.prog 10 #[.agg #[.int .u8 3, .int .u64 tx, .int .u64 pv, .int .i64 pg, .int .i64 off, .slice A nb a, .slice B na b', .int .u64 nx, .slice D nd d, .bool op]] W (RetB W true) from by have h := rform_any 3 tx pv pg off nx A B D nb a na b' nd d op W L (hr.ext hW) hn hnd hna hnb ho ho2; rw [hf] at h; exact h))
  clear ht hb0 ha0 hr hbn han hn hnd hna hnb ho ho2 htx0 htx hpv0 hpv1 hnx0 hnx1 hdl hf
  go_enter Tryd.func7, Tryd.ntmps7
  go_upto_region 1 with fail
  obtain ⟨W1, hX1, hR1, hg⟩ : ∃ W1, Ext w W1 ∧ Rw W1 w.heap.size 26 [.int .u8 3, .int .u64 tx, .int .u64 pv, .int .i64 pg, .int .i64 off, .slice A nb a, .slice B na b', .int .u64 nx, .slice D nd d, .bool op] ∧ w.alloc (.cells #[.int .u8 3, .int .u64 tx, .int .u64 pv, .int .i64 pg, .int .i64 off, .slice A nb a, .slice B na b', .int .u64 nx, .slice D nd d, .bool op] 26) = W1 := ⟨_, Ext.alloc _ _, Rw.new _ _ _, rfl⟩
  rw [hg]
  obtain ⟨hb, HHB⟩ : ∃ hb, Hid (w.heap.size = hb) := ⟨_, hide rfl⟩
  rw [HHB.out] at hR1 ⊢
  have X1 := hide hX1
  have R1 := hide hR1
  clear hg hX1 hR1
  go_upto_region 3 with (first
    | (go_at_call 8; (with_reducible refine (KA.out _ X1.out).mono ?_); rintro e w2 ⟨rfl, hx2⟩; have X2 := hide (X1.out.trans hx2); have R2 := hide (R1.out.ext hx2); have c0 := R2.out.cell (i := 0) rfl; have c1 := R2.out.cell (i := 1) rfl; have c2 := R2.out.cell (i := 2) rfl; have c3 := R2.out.cell (i := 3) rfl; have c4 := R2.out.cell (i := 4) rfl; have c5 := R2.out.cell (i := 5) rfl; have c6 := R2.out.cell (i := 6) rfl; have c7 := R2.out.cell (i := 7) rfl; have c8 := R2.out.cell (i := 8) rfl; have c9 := R2.out.cell (i := 9) rfl; clear hx2)
    | (go_at_call 10; (with_reducible refine (KF.out _ X2.out).mono ?_); rintro e w3 ⟨rfl, hx3⟩; have X3 := hide (X2.out.trans hx3); have R3 := hide (R2.out.ext hx3); clear hx3))
  clear c0 c1 c2 c3 c4 c5 c6 c7 c8 c9
  have c0 := R3.out.cell (i := 0) rfl
  have c1 := R3.out.cell (i := 1) rfl
  have c2 := R3.out.cell (i := 2) rfl
  have c3 := R3.out.cell (i := 3) rfl
  have c4 := R3.out.cell (i := 4) rfl
  have c5 := R3.out.cell (i := 5) rfl
  have c6 := R3.out.cell (i := 6) rfl
  have c7 := R3.out.cell (i := 7) rfl
  have c8 := R3.out.cell (i := 8) rfl
  have c9 := R3.out.cell (i := 9) rfl
  go_upto_region 4 with (go_at_call 11; (with_reducible refine (KE.out _ X3.out).mono ?_); rintro e w4 ⟨A4, cq, rfl, hx4⟩; have X4 := hide (X3.out.trans hx4); have R4 := hide (R3.out.ext hx4); clear hx4)
  clear c0 c1 c2 c3 c4 c5 c6 c7 c8 c9
  have c0 := R4.out.cell (i := 0) rfl
  have c6 := R4.out.cell (i := 6) rfl
  have c8 := R4.out.cell (i := 8) rfl
  go_wp2
  go_ret
  exact ⟨by simp <;> omega, X4.out⟩
set_option maxRecDepth 20000 in
set_option maxHeartbeats 3200000 in
theorem recordSizes_4 (tx pv pg off nx : Int) (A B D : Option Addr) (nb a na b' nd d : Nat) (op : Bool) (w : World) (bf af : List UInt8) (L : List (Int × Int)) (ht : Tab w) (hb0 : Rd w A bf) (ha0 : Rd w B af) (hr : RdD w D L) (hbn : bf.length = nb) (han : af.length = na) (hn : L.length = nd) (hnd : nd ≤ 140737488351232) (hna : na ≤ 140737488351232) (hnb : nb ≤ 140737488351232) (ho : -9223372036854775808 ≤ off) (ho2 : off < 9223372036854775808) (htx0 : 0 ≤ tx) (htx : tx < 18446744073709551616) (hpv0 : 0 ≤ pv) (hpv1 : pv < 18446744073709551616) (hnx0 : 0 ≤ nx) (hnx1 : nx < 18446744073709551616) (hdl : ∀ e ∈ L, 0 ≤ e.2 ∧ e.2 < 18446744073709551616) (hf : formN 4 pv pg off nx na nb nd L op = true) :
    Calls Tryd.prog 7 #[.agg #[.int .u8 4, .int .u64 tx, .int .u64 pv, .int .i64 pg, .int .i64 off, .slice A nb a, .slice B na b', .int .u64 nx, .slice D nd d, .bool op]] w (RetB w true) := by
  have HLEN : Hid ((fullB 4 tx pv pg off nx bf af L op).length = 21) := hide (by rw [fullB_length, hbn, han, hn]; simp only [hpv, hch, hnx, hck]; simp)
  have KE := hide (fun (W : World) (hW : Ext w W) => (show Calls Tryd.prog 11 #[.agg #[.int .u8 4, .int .u64 tx, .int .u64 pv, .int .i64 pg, .int .i64 off, .slice A nb a, .slice B na b', .int .u64 nx, .slice D nd d, .bool op]] W (fun e w' => ∃ A' c', e = .returned (.tuple #[.slice A' (21) c', .int .i64 0]) ∧ Ext W w') from
    (encode_yes 4 tx pv pg off nx A B D nb a na b' nd d op W bf af L (ht.ext hW) (hb0.ext hW) (ha0.ext hW) (hr.ext hW) hbn han hn hnd hna hnb ho ho2 htx0 htx hpv0 hpv1 hnx0 hnx1 hdl hf).mono fun e w' ⟨v, he, hv, hx⟩ => by
      obtain ⟨A', c', rfl, _, _⟩ := hv.bytes
      exact ⟨A', c', by rw [he, HLEN.out], hx⟩))
  have KA := hide (fun (W : World) (hW : Ext w W) => awake_any W (ht.ext hW))
  have KF := hide (fun (W : World) (hW : Ext w W) => (show Calls Tryd.prog 10 #[.agg #[.int .u8 4, .int .u64 tx, .int .u64 pv, .int .i64 pg, .int .i64 off, .slice A nb a, .slice B na b', .int .u64 nx, .slice D nd d, .bool op]] W (RetB W true) from by have h := rform_any 4 tx pv pg off nx A B D nb a na b' nd d op W L (hr.ext hW) hn hnd hna hnb ho ho2; rw [hf] at h; exact h))
  clear ht hb0 ha0 hr hbn han hn hnd hna hnb ho ho2 htx0 htx hpv0 hpv1 hnx0 hnx1 hdl hf
  go_enter Tryd.func7, Tryd.ntmps7
  go_upto_region 1 with fail
  obtain ⟨W1, hX1, hR1, hg⟩ : ∃ W1, Ext w W1 ∧ Rw W1 w.heap.size 26 [.int .u8 4, .int .u64 tx, .int .u64 pv, .int .i64 pg, .int .i64 off, .slice A nb a, .slice B na b', .int .u64 nx, .slice D nd d, .bool op] ∧ w.alloc (.cells #[.int .u8 4, .int .u64 tx, .int .u64 pv, .int .i64 pg, .int .i64 off, .slice A nb a, .slice B na b', .int .u64 nx, .slice D nd d, .bool op] 26) = W1 := ⟨_, Ext.alloc _ _, Rw.new _ _ _, rfl⟩
  rw [hg]
  obtain ⟨hb, HHB⟩ : ∃ hb, Hid (w.heap.size = hb) := ⟨_, hide rfl⟩
  rw [HHB.out] at hR1 ⊢
  have X1 := hide hX1
  have R1 := hide hR1
  clear hg hX1 hR1
  go_upto_region 3 with (first
    | (go_at_call 8; (with_reducible refine (KA.out _ X1.out).mono ?_); rintro e w2 ⟨rfl, hx2⟩; have X2 := hide (X1.out.trans hx2); have R2 := hide (R1.out.ext hx2); have c0 := R2.out.cell (i := 0) rfl; have c1 := R2.out.cell (i := 1) rfl; have c2 := R2.out.cell (i := 2) rfl; have c3 := R2.out.cell (i := 3) rfl; have c4 := R2.out.cell (i := 4) rfl; have c5 := R2.out.cell (i := 5) rfl; have c6 := R2.out.cell (i := 6) rfl; have c7 := R2.out.cell (i := 7) rfl; have c8 := R2.out.cell (i := 8) rfl; have c9 := R2.out.cell (i := 9) rfl; clear hx2)
    | (go_at_call 10; (with_reducible refine (KF.out _ X2.out).mono ?_); rintro e w3 ⟨rfl, hx3⟩; have X3 := hide (X2.out.trans hx3); have R3 := hide (R2.out.ext hx3); clear hx3))
  clear c0 c1 c2 c3 c4 c5 c6 c7 c8 c9
  have c0 := R3.out.cell (i := 0) rfl
  have c1 := R3.out.cell (i := 1) rfl
  have c2 := R3.out.cell (i := 2) rfl
  have c3 := R3.out.cell (i := 3) rfl
  have c4 := R3.out.cell (i := 4) rfl
  have c5 := R3.out.cell (i := 5) rfl
  have c6 := R3.out.cell (i := 6) rfl
  have c7 := R3.out.cell (i := 7) rfl
  have c8 := R3.out.cell (i := 8) rfl
  have c9 := R3.out.cell (i := 9) rfl
  go_upto_region 4 with (go_at_call 11; (with_reducible refine (KE.out _ X3.out).mono ?_); rintro e w4 ⟨A4, cq, rfl, hx4⟩; have X4 := hide (X3.out.trans hx4); have R4 := hide (R3.out.ext hx4); clear hx4)
  clear c0 c1 c2 c3 c4 c5 c6 c7 c8 c9
  have c0 := R4.out.cell (i := 0) rfl
  have c6 := R4.out.cell (i := 6) rfl
  have c8 := R4.out.cell (i := 8) rfl
  go_wp2
  go_ret
  exact ⟨by simp, X4.out⟩
set_option maxRecDepth 20000 in
set_option maxHeartbeats 3200000 in
theorem recordSizes_5 (tx pv pg off nx : Int) (A B D : Option Addr) (nb a na b' nd d : Nat) (op : Bool) (w : World) (bf af : List UInt8) (L : List (Int × Int)) (ht : Tab w) (hb0 : Rd w A bf) (ha0 : Rd w B af) (hr : RdD w D L) (hbn : bf.length = nb) (han : af.length = na) (hn : L.length = nd) (hnd : nd ≤ 140737488351232) (hna : na ≤ 140737488351232) (hnb : nb ≤ 140737488351232) (ho : -9223372036854775808 ≤ off) (ho2 : off < 9223372036854775808) (htx0 : 0 ≤ tx) (htx : tx < 18446744073709551616) (hpv0 : 0 ≤ pv) (hpv1 : pv < 18446744073709551616) (hnx0 : 0 ≤ nx) (hnx1 : nx < 18446744073709551616) (hdl : ∀ e ∈ L, 0 ≤ e.2 ∧ e.2 < 18446744073709551616) (hf : formN 5 pv pg off nx na nb nd L op = true) :
    Calls Tryd.prog 7 #[.agg #[.int .u8 5, .int .u64 tx, .int .u64 pv, .int .i64 pg, .int .i64 off, .slice A nb a, .slice B na b', .int .u64 nx, .slice D nd d, .bool op]] w (RetB w true) := by
  have HLEN : Hid ((fullB 5 tx pv pg off nx bf af L op).length = 21) := hide (by rw [fullB_length, hbn, han, hn]; simp only [hpv, hch, hnx, hck]; simp)
  have KE := hide (fun (W : World) (hW : Ext w W) => (show Calls Tryd.prog 11 #[.agg #[.int .u8 5, .int .u64 tx, .int .u64 pv, .int .i64 pg, .int .i64 off, .slice A nb a, .slice B na b', .int .u64 nx, .slice D nd d, .bool op]] W (fun e w' => ∃ A' c', e = .returned (.tuple #[.slice A' (21) c', .int .i64 0]) ∧ Ext W w') from
    (encode_yes 5 tx pv pg off nx A B D nb a na b' nd d op W bf af L (ht.ext hW) (hb0.ext hW) (ha0.ext hW) (hr.ext hW) hbn han hn hnd hna hnb ho ho2 htx0 htx hpv0 hpv1 hnx0 hnx1 hdl hf).mono fun e w' ⟨v, he, hv, hx⟩ => by
      obtain ⟨A', c', rfl, _, _⟩ := hv.bytes
      exact ⟨A', c', by rw [he, HLEN.out], hx⟩))
  have KA := hide (fun (W : World) (hW : Ext w W) => awake_any W (ht.ext hW))
  have KF := hide (fun (W : World) (hW : Ext w W) => (show Calls Tryd.prog 10 #[.agg #[.int .u8 5, .int .u64 tx, .int .u64 pv, .int .i64 pg, .int .i64 off, .slice A nb a, .slice B na b', .int .u64 nx, .slice D nd d, .bool op]] W (RetB W true) from by have h := rform_any 5 tx pv pg off nx A B D nb a na b' nd d op W L (hr.ext hW) hn hnd hna hnb ho ho2; rw [hf] at h; exact h))
  clear ht hb0 ha0 hr hbn han hn hnd hna hnb ho ho2 htx0 htx hpv0 hpv1 hnx0 hnx1 hdl hf
  go_enter Tryd.func7, Tryd.ntmps7
  go_upto_region 1 with fail
  obtain ⟨W1, hX1, hR1, hg⟩ : ∃ W1, Ext w W1 ∧ Rw W1 w.heap.size 26 [.int .u8 5, .int .u64 tx, .int .u64 pv, .int .i64 pg, .int .i64 off, .slice A nb a, .slice B na b', .int .u64 nx, .slice D nd d, .bool op] ∧ w.alloc (.cells #[.int .u8 5, .int .u64 tx, .int .u64 pv, .int .i64 pg, .int .i64 off, .slice A nb a, .slice B na b', .int .u64 nx, .slice D nd d, .bool op] 26) = W1 := ⟨_, Ext.alloc _ _, Rw.new _ _ _, rfl⟩
  rw [hg]
  obtain ⟨hb, HHB⟩ : ∃ hb, Hid (w.heap.size = hb) := ⟨_, hide rfl⟩
  rw [HHB.out] at hR1 ⊢
  have X1 := hide hX1
  have R1 := hide hR1
  clear hg hX1 hR1
  go_upto_region 3 with (first
    | (go_at_call 8; (with_reducible refine (KA.out _ X1.out).mono ?_); rintro e w2 ⟨rfl, hx2⟩; have X2 := hide (X1.out.trans hx2); have R2 := hide (R1.out.ext hx2); have c0 := R2.out.cell (i := 0) rfl; have c1 := R2.out.cell (i := 1) rfl; have c2 := R2.out.cell (i := 2) rfl; have c3 := R2.out.cell (i := 3) rfl; have c4 := R2.out.cell (i := 4) rfl; have c5 := R2.out.cell (i := 5) rfl; have c6 := R2.out.cell (i := 6) rfl; have c7 := R2.out.cell (i := 7) rfl; have c8 := R2.out.cell (i := 8) rfl; have c9 := R2.out.cell (i := 9) rfl; clear hx2)
    | (go_at_call 10; (with_reducible refine (KF.out _ X2.out).mono ?_); rintro e w3 ⟨rfl, hx3⟩; have X3 := hide (X2.out.trans hx3); have R3 := hide (R2.out.ext hx3); clear hx3))
  clear c0 c1 c2 c3 c4 c5 c6 c7 c8 c9
  have c0 := R3.out.cell (i := 0) rfl
  have c1 := R3.out.cell (i := 1) rfl
  have c2 := R3.out.cell (i := 2) rfl
  have c3 := R3.out.cell (i := 3) rfl
  have c4 := R3.out.cell (i := 4) rfl
  have c5 := R3.out.cell (i := 5) rfl
  have c6 := R3.out.cell (i := 6) rfl
  have c7 := R3.out.cell (i := 7) rfl
  have c8 := R3.out.cell (i := 8) rfl
  have c9 := R3.out.cell (i := 9) rfl
  go_upto_region 4 with (go_at_call 11; (with_reducible refine (KE.out _ X3.out).mono ?_); rintro e w4 ⟨A4, cq, rfl, hx4⟩; have X4 := hide (X3.out.trans hx4); have R4 := hide (R3.out.ext hx4); clear hx4)
  clear c0 c1 c2 c3 c4 c5 c6 c7 c8 c9
  have c0 := R4.out.cell (i := 0) rfl
  have c6 := R4.out.cell (i := 6) rfl
  have c8 := R4.out.cell (i := 8) rfl
  go_wp2
  go_ret
  exact ⟨by simp, X4.out⟩
set_option maxRecDepth 20000 in
set_option maxHeartbeats 3200000 in
theorem recordSizes_6 (tx pv pg off nx : Int) (A B D : Option Addr) (nb a na b' nd d : Nat) (op : Bool) (w : World) (bf af : List UInt8) (L : List (Int × Int)) (ht : Tab w) (hb0 : Rd w A bf) (ha0 : Rd w B af) (hr : RdD w D L) (hbn : bf.length = nb) (han : af.length = na) (hn : L.length = nd) (hnd : nd ≤ 140737488351232) (hna : na ≤ 140737488351232) (hnb : nb ≤ 140737488351232) (ho : -9223372036854775808 ≤ off) (ho2 : off < 9223372036854775808) (htx0 : 0 ≤ tx) (htx : tx < 18446744073709551616) (hpv0 : 0 ≤ pv) (hpv1 : pv < 18446744073709551616) (hnx0 : 0 ≤ nx) (hnx1 : nx < 18446744073709551616) (hdl : ∀ e ∈ L, 0 ≤ e.2 ∧ e.2 < 18446744073709551616) (hf : formN 6 pv pg off nx na nb nd L op = true) :
    Calls Tryd.prog 7 #[.agg #[.int .u8 6, .int .u64 tx, .int .u64 pv, .int .i64 pg, .int .i64 off, .slice A nb a, .slice B na b', .int .u64 nx, .slice D nd d, .bool op]] w (RetB w true) := by
  have hnd64 : nd ≤ 64 := by
    simp [formN, hok, hpv, hch, hbf, hnx, hck, chgN, chkN] at hf
    exact hf.2.2.1
  have HLEN : Hid ((fullB 6 tx pv pg off nx bf af L op).length = 22 + 10 * nd) := hide (by rw [fullB_length, hbn, han, hn]; simp only [hpv, hch, hnx, hck]; simp <;> omega)
  have KE := hide (fun (W : World) (hW : Ext w W) => (show Calls Tryd.prog 11 #[.agg #[.int .u8 6, .int .u64 tx, .int .u64 pv, .int .i64 pg, .int .i64 off, .slice A nb a, .slice B na b', .int .u64 nx, .slice D nd d, .bool op]] W (fun e w' => ∃ A' c', e = .returned (.tuple #[.slice A' (22 + 10 * nd) c', .int .i64 0]) ∧ Ext W w') from
    (encode_yes 6 tx pv pg off nx A B D nb a na b' nd d op W bf af L (ht.ext hW) (hb0.ext hW) (ha0.ext hW) (hr.ext hW) hbn han hn hnd hna hnb ho ho2 htx0 htx hpv0 hpv1 hnx0 hnx1 hdl hf).mono fun e w' ⟨v, he, hv, hx⟩ => by
      obtain ⟨A', c', rfl, _, _⟩ := hv.bytes
      exact ⟨A', c', by rw [he, HLEN.out], hx⟩))
  have KA := hide (fun (W : World) (hW : Ext w W) => awake_any W (ht.ext hW))
  have KF := hide (fun (W : World) (hW : Ext w W) => (show Calls Tryd.prog 10 #[.agg #[.int .u8 6, .int .u64 tx, .int .u64 pv, .int .i64 pg, .int .i64 off, .slice A nb a, .slice B na b', .int .u64 nx, .slice D nd d, .bool op]] W (RetB W true) from by have h := rform_any 6 tx pv pg off nx A B D nb a na b' nd d op W L (hr.ext hW) hn hnd hna hnb ho ho2; rw [hf] at h; exact h))
  clear ht hb0 ha0 hr hbn han hn hnd hna hnb ho ho2 htx0 htx hpv0 hpv1 hnx0 hnx1 hdl hf
  go_enter Tryd.func7, Tryd.ntmps7
  go_upto_region 1 with fail
  obtain ⟨W1, hX1, hR1, hg⟩ : ∃ W1, Ext w W1 ∧ Rw W1 w.heap.size 26 [.int .u8 6, .int .u64 tx, .int .u64 pv, .int .i64 pg, .int .i64 off, .slice A nb a, .slice B na b', .int .u64 nx, .slice D nd d, .bool op] ∧ w.alloc (.cells #[.int .u8 6, .int .u64 tx, .int .u64 pv, .int .i64 pg, .int .i64 off, .slice A nb a, .slice B na b', .int .u64 nx, .slice D nd d, .bool op] 26) = W1 := ⟨_, Ext.alloc _ _, Rw.new _ _ _, rfl⟩
  rw [hg]
  obtain ⟨hb, HHB⟩ : ∃ hb, Hid (w.heap.size = hb) := ⟨_, hide rfl⟩
  rw [HHB.out] at hR1 ⊢
  have X1 := hide hX1
  have R1 := hide hR1
  clear hg hX1 hR1
  go_upto_region 3 with (first
    | (go_at_call 8; (with_reducible refine (KA.out _ X1.out).mono ?_); rintro e w2 ⟨rfl, hx2⟩; have X2 := hide (X1.out.trans hx2); have R2 := hide (R1.out.ext hx2); have c0 := R2.out.cell (i := 0) rfl; have c1 := R2.out.cell (i := 1) rfl; have c2 := R2.out.cell (i := 2) rfl; have c3 := R2.out.cell (i := 3) rfl; have c4 := R2.out.cell (i := 4) rfl; have c5 := R2.out.cell (i := 5) rfl; have c6 := R2.out.cell (i := 6) rfl; have c7 := R2.out.cell (i := 7) rfl; have c8 := R2.out.cell (i := 8) rfl; have c9 := R2.out.cell (i := 9) rfl; clear hx2)
    | (go_at_call 10; (with_reducible refine (KF.out _ X2.out).mono ?_); rintro e w3 ⟨rfl, hx3⟩; have X3 := hide (X2.out.trans hx3); have R3 := hide (R2.out.ext hx3); clear hx3))
  clear c0 c1 c2 c3 c4 c5 c6 c7 c8 c9
  have c0 := R3.out.cell (i := 0) rfl
  have c1 := R3.out.cell (i := 1) rfl
  have c2 := R3.out.cell (i := 2) rfl
  have c3 := R3.out.cell (i := 3) rfl
  have c4 := R3.out.cell (i := 4) rfl
  have c5 := R3.out.cell (i := 5) rfl
  have c6 := R3.out.cell (i := 6) rfl
  have c7 := R3.out.cell (i := 7) rfl
  have c8 := R3.out.cell (i := 8) rfl
  have c9 := R3.out.cell (i := 9) rfl
  go_upto_region 4 with (go_at_call 11; (with_reducible refine (KE.out _ X3.out).mono ?_); rintro e w4 ⟨A4, cq, rfl, hx4⟩; have X4 := hide (X3.out.trans hx4); have R4 := hide (R3.out.ext hx4); clear hx4)
  clear c0 c1 c2 c3 c4 c5 c6 c7 c8 c9
  have c0 := R4.out.cell (i := 0) rfl
  have c6 := R4.out.cell (i := 6) rfl
  have c8 := R4.out.cell (i := 8) rfl
  go_wp2
  go_ret
  exact ⟨by simp <;> omega, X4.out⟩
theorem recordSizes_walk (k : Int) (tx pv pg off nx : Int) (A B D : Option Addr) (nb a na b' nd d : Nat) (op : Bool) (w : World) (bf af : List UInt8) (L : List (Int × Int)) (ht : Tab w) (hb0 : Rd w A bf) (ha0 : Rd w B af) (hr : RdD w D L) (hbn : bf.length = nb) (han : af.length = na) (hn : L.length = nd) (hnd : nd ≤ 140737488351232) (hna : na ≤ 140737488351232) (hnb : nb ≤ 140737488351232) (ho : -9223372036854775808 ≤ off) (ho2 : off < 9223372036854775808) (htx0 : 0 ≤ tx) (htx : tx < 18446744073709551616) (hpv0 : 0 ≤ pv) (hpv1 : pv < 18446744073709551616) (hnx0 : 0 ≤ nx) (hnx1 : nx < 18446744073709551616) (hdl : ∀ e ∈ L, 0 ≤ e.2 ∧ e.2 < 18446744073709551616) :
    Calls Tryd.prog 7 #[.agg #[.int .u8 k, .int .u64 tx, .int .u64 pv, .int .i64 pg, .int .i64 off, .slice A nb a, .slice B na b', .int .u64 nx, .slice D nd d, .bool op]] w (RetB w true) := by
  cases hf : formN k pv pg off nx na nb nd L op with
  | false => exact recordSizes_no k tx pv pg off nx A B D nb a na b' nd d op w bf af L ht hb0 ha0 hr hbn han hn hnd hna hnb ho ho2 htx0 htx hpv0 hpv1 hnx0 hnx1 hdl hf
  | true =>
    have hk : 1 ≤ k ∧ k ≤ 6 := by
      have h := hf
      simp only [formN, Bool.and_eq_true] at h
      have h := h.1
      simpa [hok] using h
    rcases (by omega : k = 1 ∨ k = 2 ∨ k = 3 ∨ k = 4 ∨ k = 5 ∨ k = 6) with rfl | rfl | rfl | rfl | rfl | rfl
    · exact recordSizes_1 tx pv pg off nx A B D nb a na b' nd d op w bf af L ht hb0 ha0 hr hbn han hn hnd hna hnb ho ho2 htx0 htx hpv0 hpv1 hnx0 hnx1 hdl hf
    · exact recordSizes_2 tx pv pg off nx A B D nb a na b' nd d op w bf af L ht hb0 ha0 hr hbn han hn hnd hna hnb ho ho2 htx0 htx hpv0 hpv1 hnx0 hnx1 hdl hf
    · exact recordSizes_3 tx pv pg off nx A B D nb a na b' nd d op w bf af L ht hb0 ha0 hr hbn han hn hnd hna hnb ho ho2 htx0 htx hpv0 hpv1 hnx0 hnx1 hdl hf
    · exact recordSizes_4 tx pv pg off nx A B D nb a na b' nd d op w bf af L ht hb0 ha0 hr hbn han hn hnd hna hnb ho ho2 htx0 htx hpv0 hpv1 hnx0 hnx1 hdl hf
    · exact recordSizes_5 tx pv pg off nx A B D nb a na b' nd d op w bf af L ht hb0 ha0 hr hbn han hn hnd hna hnb ho ho2 htx0 htx hpv0 hpv1 hnx0 hnx1 hdl hf
    · exact recordSizes_6 tx pv pg off nx A B D nb a na b' nd d op w bf af L ht hb0 ha0 hr hbn han hn hnd hna hnb ho ho2 htx0 htx hpv0 hpv1 hnx0 hnx1 hdl hf
end Go.Proofs.YthdahgekodcloaaDoor
