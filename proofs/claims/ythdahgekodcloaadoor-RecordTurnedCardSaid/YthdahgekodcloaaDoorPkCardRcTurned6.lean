/-
  Bytes of the call's own that are written over.
  The walk of RecordTurned.
-/
import Derived.RegionTactic
import Derived.Test.YthdahgekodcloaaDoorPkCardRcTurned0
import Derived.Test.YthdahgekodcloaaDoorPkCardRcTurned5

namespace Go.Proofs.YthdahgekodcloaaDoor
open Go.RowKit

theorem own_set {w : World} {B e size n : Nat} {v : Value} {vs : List Value} (h : w.ownsRow B e size v n vs) {g : Nat} (hg : v.ownBlock = some g) (k : Nat) (u : Value) : (w.setCell ⟨g, k, none⟩ u).ownsRow B e size v n (vs.set k u) := by
  refine ⟨by rw [List.length_set]; exact h.1, ?_⟩
  rcases h.2 with ⟨rfl, _⟩ | ⟨g', cap, cur, rfl, hb, hg', hnc, hcm, hcs, ht⟩
  · cases hg
  · obtain rfl : g' = g := by
      have : (Value.slice (some ⟨g', 0, none⟩) n cap).ownBlock = some g' := rfl
      rw [this] at hg
      exact Option.some.inj hg
    refine .inr ⟨g', cap, cur.setIfInBounds k u, rfl, hb, ?_, hnc, hcm, by simpa using hcs, ?_⟩
    · simp [World.setCell, Array.getElem?_modify, hg']
    · rw [← ht, Array.toList_setIfInBounds, List.take_set]
theorem own_cell {w : World} {B e size n c : Nat} {g : Nat} {vs : List Value} (h : w.ownsRow B e size (.slice (some ⟨g, 0, none⟩) n c) n vs) {k : Nat} {u : Value} (hk : vs[k]? = some u) : w.cell? ⟨g, k, none⟩ = some u ∧ w.frozen? ⟨g, k, none⟩ = false := by
  rcases h.2 with ⟨hv, _⟩ | ⟨g', cap, cur, hv, hb, hg', rest⟩
  · cases hv
  · injection hv with hA
    injection hA with hA
    injection hA with hA
    subst hA
    have := h.cells (g := g) rfl k u hk
    rw [add_flat, Nat.zero_add] at this
    exact ⟨this, by simp [World.frozen?, hg']⟩
/-- Where it lies. -/
theorem own_block {w : World} {B e size n : Nat} {v : Value} {vs : List Value} (h : w.ownsRow B e size v n vs) : ∀ k, v.ownBlock = some k → B ≤ k ∧ k < w.heap.size ∧ ∃ cs fr, w.heap[k]? = some (.cells cs e fr) := fun k hk => by
  rcases h.2 with ⟨rfl, _⟩ | ⟨g, cap, cur, rfl, hb, hg, _⟩
  · cases hk
  · obtain rfl : g = k := by
      have : (Value.slice (some ⟨g, 0, none⟩) n cap).ownBlock = some g := rfl
      rw [this] at hk
      exact Option.some.inj hk
    exact ⟨hb, (Array.getElem?_eq_some_iff.1 hg).1, _, _, hg⟩
theorem own_apart {w : World} {B B' e e' size size' n n' : Nat} {v v' : Value} {vs vs' : List Value} (h : w.ownsRow B e size v n vs) (h' : w.ownsRow B' e' size' v' n' vs') (ht : e ≠ e') : ∀ k, v.ownBlock = some k → v'.ownBlock ≠ some k := fun k hk hk' => by
  obtain ⟨_, _, cs, fr, h1⟩ := own_block h k hk
  obtain ⟨_, _, cs', fr', h2⟩ := own_block h' k hk'
  rw [h1] at h2
  injection h2 with h2
  injection h2 with _ h3 _
  exact ht h3
/-- It stays, if another block is written. -/
theorem own_other {w : World} {B e size n : Nat} {v : Value} {vs : List Value} (h : w.ownsRow B e size v n vs) {g : Nat} (hg : v.ownBlock ≠ some g) (k : Nat) (u : Value) : (w.setCell ⟨g, k, none⟩ u).ownsRow B e size v n vs := by
  refine ⟨h.1, ?_⟩
  rcases h.2 with hn | ⟨g', cap, cur, rfl, hb, hg', rest⟩
  · exact .inl hn
  · exact .inr ⟨g', cap, cur, rfl, hb, (Below.heap_setCell w ⟨g, k, none⟩ u g' (fun e => hg (by rw [show (Value.slice (some ⟨g', 0, none⟩) n cap).ownBlock = some g' from rfl]; exact congrArg some e))).trans hg', rest⟩
theorem own_ext {w w' : World} {B e size n : Nat} {v : Value} {vs : List Value} (h : w.ownsRow B e size v n vs) (hx : Ext w w') : w'.ownsRow B e size v n vs := by
  refine ⟨h.1, ?_⟩
  rcases h.2 with hn | ⟨g, cap, cur, rfl, hb, hg, rest⟩
  · exact .inl hn
  · exact .inr ⟨g, cap, cur, rfl, hb, (Below.block hx g (Array.getElem?_eq_some_iff.1 hg).1).trans hg, rest⟩
/-- A slice of the call's own of so many bytes, whatever they are. -/
def AnyB (w : World) (B : Nat) (v : Value) (n : Nat) : Prop := ∃ us : List Value, (∀ j, j < n → ∃ z : Int, us[j]? = some (.int .u8 z)) ∧ w.ownsRow B 5 1 v n us
theorem AnyB.of {w : World} {B : Nat} {v : Value} {l : List UInt8} (h : Own w B v l) : AnyB w B v l.length := by
  refine ⟨bs l, fun j hj => ?_, h⟩
  rw [bs_get, List.getElem?_eq_getElem hj]
  exact ⟨_, rfl⟩
theorem AnyB.ext {w w' : World} {B n : Nat} {v : Value} (h : AnyB w B v n) (hx : Ext w w') : AnyB w' B v n := by
  obtain ⟨us, h1, h2⟩ := h
  exact ⟨us, h1, own_ext h2 hx⟩
theorem AnyB.set {w : World} {B n : Nat} {v : Value} (h : AnyB w B v n) (g k : Nat) (z : Int) : AnyB (w.setCell ⟨g, k, none⟩ (.int .u8 z)) B v n := by
  obtain ⟨us, h1, h2⟩ := h
  by_cases hg : v.ownBlock = some g
  · refine ⟨us.set k (.int .u8 z), fun j hj => ?_, own_set h2 hg k _⟩
    rw [List.getElem?_set]
    obtain ⟨y, hy⟩ := h1 j hj
    split
    · rename_i e
      subst e
      obtain ⟨hl, -⟩ := List.getElem?_eq_some_iff.1 hy
      rw [if_pos hl]
      exact ⟨_, rfl⟩
    · exact ⟨y, hy⟩
  · exact ⟨us, h1, own_other h2 hg k _⟩
theorem AnyB.slice {w : World} {B n : Nat} {v : Value} (h : AnyB w B v n) : ∃ A c, v = .slice A n c := by
  obtain ⟨us, h1, h2⟩ := h
  rcases h2.2 with ⟨rfl, h0⟩ | ⟨g, cap, cur, rfl, _⟩
  · exact ⟨none, 0, by rw [h0]⟩
  · exact ⟨_, _, rfl⟩
theorem AnyB.at {w : World} {B n c : Nat} {A : Option Addr} (h : AnyB w B (.slice A n c) n) {k : Nat} (hk : k < n) : ∃ g z, A = some ⟨g, 0, none⟩ ∧ B ≤ g ∧ w.cell? ⟨g, k, none⟩ = some (.int .u8 z) ∧ w.frozen? ⟨g, k, none⟩ = false := by
  obtain ⟨us, h1, h2⟩ := h
  obtain ⟨z, hz⟩ := h1 k hk
  rcases h2.2 with ⟨hv, h0⟩ | ⟨g, cap, cur, hv, hb, _⟩
  · omega
  · injection hv with hA
    subst hA
    exact ⟨g, z, rfl, hb, (own_cell h2 hz).1, (own_cell h2 hz).2⟩
end Go.Proofs.YthdahgekodcloaaDoor
namespace Go.Proofs.YthdahgekodcloaaDoor
open Go.RowKit

def DecNo (w : World) (n : Int) (e : Ending) (w' : World) : Prop := Ext w w' ∧ e = .returned (.tuple #[.agg #[.int .u8 0, .int .u64 0, .int .u64 0, .int .i64 0, .int .i64 0, .slice none 0 0, .slice none 0 0, .int .u64 0, .slice none 0 0, .bool false], .int .i64 n])
theorem byte_xorR (x : UInt8) (p : Nat) (hp : p < 256) : b8 ((x.toNat ^^^ p : Nat) : Int) = x ^^^ UInt8.ofNat p := by
  apply UInt8.toNat_inj.1
  rw [UInt8.toNat_xor, UInt8.toNat_ofNat', Nat.mod_eq_of_lt (show p < 2 ^ 8 from hp)]
  have h : x.toNat ^^^ p < 256 := Nat.xor_lt_two_pow (n := 8) x.toNat_lt hp
  have h2 := b8_toNat (n := ((x.toNat ^^^ p : Nat) : Int)) (by omega) (by omega)
  omega
theorem byte_turn (x : UInt8) (t : Nat) (ht : t < 256) (h0 : t ≠ 0) : b8 ((x.toNat ^^^ t : Nat) : Int) ≠ x := by
  intro h
  rw [byte_xorR x t ht] at h
  have h1 := congrArg UInt8.toNat h
  rw [UInt8.toNat_xor, UInt8.toNat_ofNat', Nat.mod_eq_of_lt (show t < 2 ^ 8 from ht)] at h1
  have h2 : t ^^^ x.toNat = 0 ^^^ x.toNat := by rw [Nat.xor_comm, h1, Nat.zero_xor]
  exact h0 (xor_cancel h2)
set_option maxRecDepth 20000 in
set_option maxHeartbeats 3200000 in
theorem recordTurned_no (m tn : Nat) (hm : m < 65536) (htn : tn < 256) (k : Int) (tx pv pg off nx : Int) (A B D : Option Addr) (nb a na b' nd d : Nat) (op : Bool) (w : World) (bf af : List UInt8) (L : List (Int × Int)) (ht : Tab w) (hb0 : Rd w A bf) (ha0 : Rd w B af) (hr : RdD w D L) (hbn : bf.length = nb) (han : af.length = na) (hn : L.length = nd) (hnd : nd ≤ 140737488351232) (hna : na ≤ 140737488351232) (hnb : nb ≤ 140737488351232) (ho : -9223372036854775808 ≤ off) (ho2 : off < 9223372036854775808) (htx0 : 0 ≤ tx) (htx : tx < 18446744073709551616) (hpv0 : 0 ≤ pv) (hpv1 : pv < 18446744073709551616) (hnx0 : 0 ≤ nx) (hnx1 : nx < 18446744073709551616) (hdl : ∀ e ∈ L, 0 ≤ e.2 ∧ e.2 < 18446744073709551616) (hf : formN k pv pg off nx na nb nd L op = false) :
    Calls Tryd.prog 5 #[.agg #[.int .u8 k, .int .u64 tx, .int .u64 pv, .int .i64 pg, .int .i64 off, .slice A nb a, .slice B na b', .int .u64 nx, .slice D nd d, .bool op], .int .u16 (m : Int), .int .u8 (tn : Int)] w (RetB w true) := by
  have KA := hide (fun (W : World) (hW : Ext w W) => awake_any W (ht.ext hW))
  have KF := hide (fun (W : World) (hW : Ext w W) => (show Calls Tryd.prog 10 #[.agg #[.int .u8 k, .int .u64 tx, .int .u64 pv, .int .i64 pg, .int .i64 off, .slice A nb a, .slice B na b', .int .u64 nx, .slice D nd d, .bool op]] W (RetB W false) from by have h := rform_any k tx pv pg off nx A B D nb a na b' nd d op W L (hr.ext hW) hn hnd hna hnb ho ho2; rw [hf] at h; exact h))
  clear ht hb0 ha0 hr hbn han hn hnd hna hnb ho ho2 htx0 htx hpv0 hpv1 hnx0 hnx1 hdl hf
  go_enter Tryd.func5, Tryd.ntmps5
  go_upto_region 1 with fail
  obtain ⟨W1, hX1, hR1, hg⟩ : ∃ W1, Ext w W1 ∧ Rw W1 w.heap.size 26 [.int .u8 k, .int .u64 tx, .int .u64 pv, .int .i64 pg, .int .i64 off, .slice A nb a, .slice B na b', .int .u64 nx, .slice D nd d, .bool op] ∧ w.alloc (.cells #[.int .u8 k, .int .u64 tx, .int .u64 pv, .int .i64 pg, .int .i64 off, .slice A nb a, .slice B na b', .int .u64 nx, .slice D nd d, .bool op] 26) = W1 := ⟨_, Ext.alloc _ _, Rw.new _ _ _, rfl⟩
  rw [hg]
  obtain ⟨hb, HHB⟩ : ∃ hb, Hid (w.heap.size = hb) := ⟨_, hide rfl⟩
  rw [HHB.out] at hR1 ⊢
  have X1 := hide hX1
  have R1 := hide hR1
  clear hg hX1 hR1
  go_upto_region 2 with (first
    | (go_at_call 8; (with_reducible refine (KA.out _ X1.out).mono ?_); rintro e w2 ⟨rfl, hx2⟩; have X2 := hide (X1.out.trans hx2); have R2 := hide (R1.out.ext hx2); have c0 := R2.out.cell (i := 0) rfl; have c1 := R2.out.cell (i := 1) rfl; have c2 := R2.out.cell (i := 2) rfl; have c3 := R2.out.cell (i := 3) rfl; have c4 := R2.out.cell (i := 4) rfl; have c5 := R2.out.cell (i := 5) rfl; have c6 := R2.out.cell (i := 6) rfl; have c7 := R2.out.cell (i := 7) rfl; have c8 := R2.out.cell (i := 8) rfl; have c9 := R2.out.cell (i := 9) rfl; clear hx2)
    | (go_at_call 10; (with_reducible refine (KF.out _ X2.out).mono ?_); rintro e w3 ⟨rfl, hx3⟩; have X3 := hide (X2.out.trans hx3); have R3 := hide (R2.out.ext hx3); clear hx3))
  clear c0 c1 c2 c3 c4 c5 c6 c7 c8 c9
  go_wp2_with (go_at_call 8; (with_reducible refine (KA.out _ X3.out).mono ?_); rintro e w4 ⟨rfl, hx4⟩; have X4 := hide (X3.out.trans hx4); clear hx4)
  go_ret
  exact ⟨rfl, X4.out⟩
set_option maxRecDepth 20000 in
set_option maxHeartbeats 3200000 in
theorem recordTurned_zero (m : Nat) (hm : m < 65536) (k : Int) (tx pv pg off nx : Int) (A B D : Option Addr) (nb a na b' nd d : Nat) (op : Bool) (w : World) (bf af : List UInt8) (L : List (Int × Int)) (ht : Tab w) (hb0 : Rd w A bf) (ha0 : Rd w B af) (hr : RdD w D L) (hbn : bf.length = nb) (han : af.length = na) (hn : L.length = nd) (hnd : nd ≤ 140737488351232) (hna : na ≤ 140737488351232) (hnb : nb ≤ 140737488351232) (ho : -9223372036854775808 ≤ off) (ho2 : off < 9223372036854775808) (htx0 : 0 ≤ tx) (htx : tx < 18446744073709551616) (hpv0 : 0 ≤ pv) (hpv1 : pv < 18446744073709551616) (hnx0 : 0 ≤ nx) (hnx1 : nx < 18446744073709551616) (hdl : ∀ e ∈ L, 0 ≤ e.2 ∧ e.2 < 18446744073709551616) (hf : formN k pv pg off nx na nb nd L op = true) :
    Calls Tryd.prog 5 #[.agg #[.int .u8 k, .int .u64 tx, .int .u64 pv, .int .i64 pg, .int .i64 off, .slice A nb a, .slice B na b', .int .u64 nx, .slice D nd d, .bool op], .int .u16 (m : Int), .int .u8 0] w (RetB w true) := by
  have KA := hide (fun (W : World) (hW : Ext w W) => awake_any W (ht.ext hW))
  have KF := hide (fun (W : World) (hW : Ext w W) => (show Calls Tryd.prog 10 #[.agg #[.int .u8 k, .int .u64 tx, .int .u64 pv, .int .i64 pg, .int .i64 off, .slice A nb a, .slice B na b', .int .u64 nx, .slice D nd d, .bool op]] W (RetB W true) from by have h := rform_any k tx pv pg off nx A B D nb a na b' nd d op W L (hr.ext hW) hn hnd hna hnb ho ho2; rw [hf] at h; exact h))
  clear ht hb0 ha0 hr hbn han hn hnd hna hnb ho ho2 htx0 htx hpv0 hpv1 hnx0 hnx1 hdl hf
  go_enter Tryd.func5, Tryd.ntmps5
  go_upto_region 1 with fail
  obtain ⟨W1, hX1, hR1, hg⟩ : ∃ W1, Ext w W1 ∧ Rw W1 w.heap.size 26 [.int .u8 k, .int .u64 tx, .int .u64 pv, .int .i64 pg, .int .i64 off, .slice A nb a, .slice B na b', .int .u64 nx, .slice D nd d, .bool op] ∧ w.alloc (.cells #[.int .u8 k, .int .u64 tx, .int .u64 pv, .int .i64 pg, .int .i64 off, .slice A nb a, .slice B na b', .int .u64 nx, .slice D nd d, .bool op] 26) = W1 := ⟨_, Ext.alloc _ _, Rw.new _ _ _, rfl⟩
  rw [hg]
  obtain ⟨hb, HHB⟩ : ∃ hb, Hid (w.heap.size = hb) := ⟨_, hide rfl⟩
  rw [HHB.out] at hR1 ⊢
  have X1 := hide hX1
  have R1 := hide hR1
  clear hg hX1 hR1
  go_upto_region 2 with (first
    | (go_at_call 8; (with_reducible refine (KA.out _ X1.out).mono ?_); rintro e w2 ⟨rfl, hx2⟩; have X2 := hide (X1.out.trans hx2); have R2 := hide (R1.out.ext hx2); have c0 := R2.out.cell (i := 0) rfl; have c1 := R2.out.cell (i := 1) rfl; have c2 := R2.out.cell (i := 2) rfl; have c3 := R2.out.cell (i := 3) rfl; have c4 := R2.out.cell (i := 4) rfl; have c5 := R2.out.cell (i := 5) rfl; have c6 := R2.out.cell (i := 6) rfl; have c7 := R2.out.cell (i := 7) rfl; have c8 := R2.out.cell (i := 8) rfl; have c9 := R2.out.cell (i := 9) rfl; clear hx2)
    | (go_at_call 10; (with_reducible refine (KF.out _ X2.out).mono ?_); rintro e w3 ⟨rfl, hx3⟩; have X3 := hide (X2.out.trans hx3); have R3 := hide (R2.out.ext hx3); clear hx3))
  clear c0 c1 c2 c3 c4 c5 c6 c7 c8 c9
  go_wp2_with (go_at_call 8; (with_reducible refine (KA.out _ X3.out).mono ?_); rintro e w4 ⟨rfl, hx4⟩; have X4 := hide (X3.out.trans hx4); clear hx4)
  go_ret
  exact ⟨rfl, X4.out⟩
set_option maxRecDepth 20000 in
set_option maxHeartbeats 6400000 in
theorem recordTurned_yes (m tn : Nat) (hm : m < 65536) (htn : tn < 256) (h0 : tn ≠ 0) (k : Int) (tx pv pg off nx : Int) (A B D : Option Addr) (nb a na b' nd d : Nat) (op : Bool) (w : World) (bf af : List UInt8) (L : List (Int × Int)) (ht : Tab w) (hb0 : Rd w A bf) (ha0 : Rd w B af) (hr : RdD w D L) (hbn : bf.length = nb) (han : af.length = na) (hn : L.length = nd) (hnd : nd ≤ 140737488351232) (hna : na ≤ 140737488351232) (hnb : nb ≤ 140737488351232) (ho : -9223372036854775808 ≤ off) (ho2 : off < 9223372036854775808) (htx0 : 0 ≤ tx) (htx : tx < 18446744073709551616) (hpv0 : 0 ≤ pv) (hpv1 : pv < 18446744073709551616) (hnx0 : 0 ≤ nx) (hnx1 : nx < 18446744073709551616) (hdl : ∀ e ∈ L, 0 ≤ e.2 ∧ e.2 < 18446744073709551616) (hf : formN k pv pg off nx na nb nd L op = true) :
    Calls Tryd.prog 5 #[.agg #[.int .u8 k, .int .u64 tx, .int .u64 pv, .int .i64 pg, .int .i64 off, .slice A nb a, .slice B na b', .int .u64 nx, .slice D nd d, .bool op], .int .u16 (m : Int), .int .u8 (tn : Int)] w (RetB w true) := by
  have hsm : na ≤ 512 ∧ nb ≤ 512 ∧ nd ≤ 64 := formN_small hf
  obtain ⟨hs1, hs2, hs3⟩ := hsm
  obtain ⟨FL, HFL⟩ : ∃ l, Hid (fullB k tx pv pg off nx bf af L op = l) := ⟨_, hide rfl⟩
  obtain ⟨NL, HNL⟩ : ∃ n, Hid (FL.length = n) := ⟨_, hide rfl⟩
  have hNL : 13 ≤ NL ∧ NL ≤ 2000 := by
    have h := fullB_length k tx pv pg off nx bf af L op
    rw [HFL.out, HNL.out, hbn, han, hn] at h
    refine ⟨by omega, ?_⟩
    rw [h]
    split <;> split <;> split <;> split <;> omega
  obtain ⟨J, HJ⟩ : ∃ j, Hid (m % NL = j) := ⟨_, hide rfl⟩
  have hJ : J < NL := by have := HJ.out; have := Nat.mod_lt m (show 0 < NL by omega); omega
  have hJI : (m : Int) % (NL : Int) = (J : Int) := by rw [← Int.natCast_emod, HJ.out]
  obtain ⟨x, HX⟩ : ∃ x, Hid (FL[J]? = some x) := ⟨_, hide (List.getElem?_eq_getElem (by rw [HNL.out]; exact hJ))⟩
  obtain ⟨FY, HFY⟩ : ∃ l, Hid (FL.set J (b8 ((x.toNat ^^^ tn : Nat) : Int)) = l) := ⟨_, hide rfl⟩
  have HYL : Hid (FY.length = NL) := hide (by rw [← HFY.out, List.length_set, HNL.out])
  have HTT : Hid (decV FY = (15, none)) := hide (by
    rw [← HFY.out, ← HFL.out]
    exact decV_turned _ J x _ (show (fullB k tx pv pg off nx bf af L op)[J]? = some x from by rw [HFL.out]; exact HX.out) (byte_turn x tn htn h0) (by
      have h := HNL.out
      rw [← HFL.out] at h
      unfold fullB at h
      rw [List.length_append, show (sumB (recB k tx pv pg off nx bf af L op)).length = 4 from numN_length 4 _ (by decide)] at h
      omega))
  have HTC : Hid (∃ n, (n = 3 ∨ n = 15) ∧ decV (FL.take J) = (n, none)) := hide (by
    rw [← HFL.out]
    exact decV_cut k tx pv pg off nx bf af L op htx0 htx hpv0 hpv1 hnx0 hnx1 hdl (by rw [hbn, han, hn]; exact hf) J (by rw [HFL.out, HNL.out]; exact hJ))
  have KE := hide (fun (W : World) (hW : Ext w W) => (show Calls Tryd.prog 11 #[.agg #[.int .u8 k, .int .u64 tx, .int .u64 pv, .int .i64 pg, .int .i64 off, .slice A nb a, .slice B na b', .int .u64 nx, .slice D nd d, .bool op]] W (EncP W FL) from by rw [← HFL.out]; exact encode_yes k tx pv pg off nx A B D nb a na b' nd d op W bf af L (ht.ext hW) (hb0.ext hW) (ha0.ext hW) (hr.ext hW) hbn han hn hnd hna hnb ho ho2 htx0 htx hpv0 hpv1 hnx0 hnx1 hdl hf))
  have KD1 := hide (fun (W : World) (hW : Ext w W) (AP : Option Addr) (cp : Nat) (hR : Rd W AP FY) (hc : NL ≤ cp) => (show Calls Tryd.prog 12 #[.slice AP NL cp] W (DecNo W 15) from (decode_any AP FY NL cp W hR HYL.out hc (by omega) (ht.ext hW)).mono (fun e w' h => by rw [HTT.out] at h; exact h)))
  have KD2 := hide (fun (W : World) (hW : Ext w W) (AP : Option Addr) (cp : Nat) (hR : Rd W AP FL) (hc : NL ≤ cp) => (show Calls Tryd.prog 12 #[.slice AP J cp] W (fun e w' => ∃ n, Hid ((n != (0 : Int)) = true) ∧ DecNo W n e w') from (decode_any AP (FL.take J) J cp W (hR.take _) (by rw [List.length_take, HNL.out]; omega) (by omega) (by omega) (ht.ext hW)).mono (fun e w' h => by
    obtain ⟨n, hn, e1⟩ := HTC.out
    rw [e1] at h
    exact ⟨n, hide (by rcases hn with rfl | rfl <;> rfl), h⟩)))
  have hxt := x.toNat_lt
  have e1 : bits .xor .u8 (x.toNat : Int) (tn : Int) = ((x.toNat ^^^ tn : Nat) : Int) := u8_xor_nat x.toNat tn (by omega) (by omega)
  have hxn : x.toNat ^^^ tn < 256 := Nat.xor_lt_two_pow (n := 8) hxt htn
  have htz : ((tn : Int) == 0) = false := by simp; exact h0
  have KA := hide (fun (W : World) (hW : Ext w W) => awake_any W (ht.ext hW))
  have KF := hide (fun (W : World) (hW : Ext w W) => (show Calls Tryd.prog 10 #[.agg #[.int .u8 k, .int .u64 tx, .int .u64 pv, .int .i64 pg, .int .i64 off, .slice A nb a, .slice B na b', .int .u64 nx, .slice D nd d, .bool op]] W (RetB W true) from by have h := rform_any k tx pv pg off nx A B D nb a na b' nd d op W L (hr.ext hW) hn hnd hna hnb ho ho2; rw [hf] at h; exact h))
  clear HTT HTC
  clear ht hb0 ha0 hr hbn han hn hnd hna hnb ho ho2 htx0 htx hpv0 hpv1 hnx0 hnx1 hdl hf
  go_enter Tryd.func5, Tryd.ntmps5
  go_upto_region 1 with fail
  obtain ⟨W1, hX1, hR1, hg⟩ : ∃ W1, Ext w W1 ∧ Rw W1 w.heap.size 26 [.int .u8 k, .int .u64 tx, .int .u64 pv, .int .i64 pg, .int .i64 off, .slice A nb a, .slice B na b', .int .u64 nx, .slice D nd d, .bool op] ∧ w.alloc (.cells #[.int .u8 k, .int .u64 tx, .int .u64 pv, .int .i64 pg, .int .i64 off, .slice A nb a, .slice B na b', .int .u64 nx, .slice D nd d, .bool op] 26) = W1 := ⟨_, Ext.alloc _ _, Rw.new _ _ _, rfl⟩
  rw [hg]
  obtain ⟨hb, HHB⟩ : ∃ hb, Hid (w.heap.size = hb) := ⟨_, hide rfl⟩
  rw [HHB.out] at hR1 ⊢
  have X1 := hide hX1
  have R1 := hide hR1
  clear hg hX1 hR1
  go_upto_region 3 with (first
    | (go_at_call 8; (with_reducible refine (KA.out _ X1.out).mono ?_); rintro e w2 ⟨rfl, hx2⟩; have X2 := hide (X1.out.trans hx2); have R2 := hide (R1.out.ext hx2); have c0 := R2.out.cell (i := 0) rfl; have c1 := R2.out.cell (i := 1) rfl; have c2 := R2.out.cell (i := 2) rfl; have c3 := R2.out.cell (i := 3) rfl; have c4 := R2.out.cell (i := 4) rfl; have c5 := R2.out.cell (i := 5) rfl; have c6 := R2.out.cell (i := 6) rfl; have c7 := R2.out.cell (i := 7) rfl; have c8 := R2.out.cell (i := 8) rfl; have c9 := R2.out.cell (i := 9) rfl; clear hx2)
    | (go_at_call 10; (with_reducible refine (KF.out _ X2.out).mono ?_); rintro e w3 ⟨rfl, hx3⟩; have X3 := hide (X2.out.trans hx3); have R3 := hide (R2.out.ext hx3); clear hx3))
  clear c0 c1 c2 c3 c4 c5 c6 c7 c8 c9
  have c0 := R3.out.cell (i := 0) rfl
  have c1 := R3.out.cell (i := 1) rfl
  have c2 := R3.out.cell (i := 2) rfl
  have c3 := R3.out.cell (i := 3) rfl
  have c4 := R3.out.cell (i := 4) rfl
  have c5 := R3.out.cell (i := 5) rfl
  have c6 := R3.out.cell (i := 6) rfl
  have c7 := R3.out.cell (i := 7) rfl
  have c8 := R3.out.cell (i := 8) rfl
  have c9 := R3.out.cell (i := 9) rfl
  go_upto_region 6 with (go_at_call 11; (with_reducible refine (KE.out _ X3.out).mono ?_); rintro e w4 ⟨v4, rfl, ho4, hx4⟩; obtain ⟨AP, cp, hv4, hcp, hrp⟩ := ho4.bytes; rw [HNL.out] at hv4 hcp; subst hv4; have RP := hide hrp; have HCP := hide hcp; have X4 := hide (X3.out.trans hx4); clear hx4 ho4 hrp hcp)
  clear c0 c1 c2 c3 c4 c5 c6 c7 c8 c9
  clear R1 X1 X2 R2 R3
  have hNz : ((NL : Int) == 0) = false := by simp; omega
  have hJ0 : (0 : Int) ≤ (J : Int) := by omega
  have hJl : (J : Int) < (NL : Int) := by omega
  go_upto_region 7 with fail
  rw [hJI]
  go_upto_region 9 with
    (at_builtin; go_loud (refine wpList_catG rfl (.tmp 44) (.tmp 45) rfl w4.heap.size (.slice none 0 0) [] FL AP NL cp rfl rfl HNL.out.symm (Own.nil _ _) RP.out (Nat.le_refl _) (by rw [HNL.out]; simp; omega) ?_; intro vq wq hoq hxq hgq))
  rw [List.nil_append] at hoq
  obtain ⟨g, cap, hvq, hbg, hcx, hfx, hset⟩ := Own.at hoq (i := J) (x := x) HX.out
  rw [HNL.out] at hvq
  subst hvq
  have hown2 := hset.out (((x.toNat ^^^ tn : Nat)) : Int) (by omega) (by omega)
  rw [HFY.out] at hown2
  obtain ⟨A2, c2, e2, hc2, hr2⟩ := hown2.bytes
  rw [HYL.out] at e2 hc2
  injection e2 with e3 e5 e4
  clear e5
  subst e3 e4
  have X9 : Hid (Ext w4 (wq.setCell ⟨g, J, none⟩ (.int .u8 ((x.toNat ^^^ tn : Nat) : Int)))) := hide (Below.setCell hxq hbg (.int .u8 ((x.toNat ^^^ tn : Nat) : Int)))
  have RQ := hide hr2
  have HC2 := hide hc2
  clear hgq hset hown2 hr2 hoq hc2 hxq hbg
  go_upto_region 10 with fail
  have X10 := hide (X4.out.trans X9.out)
  have RP2 := hide (RP.out.ext X9.out)
  clear X9
  go_upto_region 11 with (go_at_call 12; (with_reducible refine (KD1.out _ X10.out _ _ RQ.out HC2.out).mono ?_); rintro e w5 ⟨hx5, rfl⟩; have X5 := hide (X10.out.trans hx5); have RP3 := hide (RP2.out.ext hx5); clear hx5)
  obtain ⟨w6, hX6, hgg⟩ : ∃ W, Ext w5 W ∧ w5.alloc (.cells #[.int .u8 0, .int .u64 0, .int .u64 0, .int .i64 0, .int .i64 0, .slice none 0 0, .slice none 0 0, .int .u64 0, .slice none 0 0, .bool false] 26) = W := ⟨_, Ext.alloc _ _, rfl⟩
  rw [hgg]
  have X6 := hide (X5.out.trans hX6)
  have RP4 := hide (RP3.out.ext hX6)
  clear hgg hX6 KD1 X5 RP3 RP2 RQ
  have hJc : J ≤ cp := by have := HCP.out; omega
  have hJcI : (J : Int) ≤ (cp : Int) := by omega
  have hnJ : ¬ cp < J := by omega
  go_upto_region 12 with (go_at_call 12; (with_reducible refine (KD2.out _ X6.out _ _ RP4.out HCP.out).mono ?_); rintro e w7 ⟨n7, HN7, hx7, rfl⟩; have X7 := hide (X6.out.trans hx7); clear hx7)
  obtain ⟨w8, hX8, hgg⟩ : ∃ W, Ext w7 W ∧ w7.alloc (.cells #[.int .u8 0, .int .u64 0, .int .u64 0, .int .i64 0, .int .i64 0, .slice none 0 0, .slice none 0 0, .int .u64 0, .slice none 0 0, .bool false] 26) = W := ⟨_, Ext.alloc _ _, rfl⟩
  rw [hgg]
  have X8 := hide (X7.out.trans hX8)
  clear hgg hX8
  go_wp2
  go_ret
  exact ⟨congrArg (fun b => Ending.returned (.bool b)) HN7.out, X8.out⟩
theorem recordTurned_walk (m tn : Nat) (hm : m < 65536) (htn : tn < 256) (k : Int) (tx pv pg off nx : Int) (A B D : Option Addr) (nb a na b' nd d : Nat) (op : Bool) (w : World) (bf af : List UInt8) (L : List (Int × Int)) (ht : Tab w) (hb0 : Rd w A bf) (ha0 : Rd w B af) (hr : RdD w D L) (hbn : bf.length = nb) (han : af.length = na) (hn : L.length = nd) (hnd : nd ≤ 140737488351232) (hna : na ≤ 140737488351232) (hnb : nb ≤ 140737488351232) (ho : -9223372036854775808 ≤ off) (ho2 : off < 9223372036854775808) (htx0 : 0 ≤ tx) (htx : tx < 18446744073709551616) (hpv0 : 0 ≤ pv) (hpv1 : pv < 18446744073709551616) (hnx0 : 0 ≤ nx) (hnx1 : nx < 18446744073709551616) (hdl : ∀ e ∈ L, 0 ≤ e.2 ∧ e.2 < 18446744073709551616) :
    Calls Tryd.prog 5 #[.agg #[.int .u8 k, .int .u64 tx, .int .u64 pv, .int .i64 pg, .int .i64 off, .slice A nb a, .slice B na b', .int .u64 nx, .slice D nd d, .bool op], .int .u16 (m : Int), .int .u8 (tn : Int)] w (RetB w true) := by
  cases hf : formN k pv pg off nx na nb nd L op with
  | false => exact recordTurned_no m tn hm htn k tx pv pg off nx A B D nb a na b' nd d op w bf af L ht hb0 ha0 hr hbn han hn hnd hna hnb ho ho2 htx0 htx hpv0 hpv1 hnx0 hnx1 hdl hf
  | true =>
    by_cases h0 : tn = 0
    · subst h0
      exact recordTurned_zero m hm k tx pv pg off nx A B D nb a na b' nd d op w bf af L ht hb0 ha0 hr hbn han hn hnd hna hnb ho ho2 htx0 htx hpv0 hpv1 hnx0 hnx1 hdl hf
    · exact recordTurned_yes m tn hm htn h0 k tx pv pg off nx A B D nb a na b' nd d op w bf af L ht hb0 ha0 hr hbn han hn hnd hna hnb ho ho2 htx0 htx hpv0 hpv1 hnx0 hnx1 hdl hf
end Go.Proofs.YthdahgekodcloaaDoor
