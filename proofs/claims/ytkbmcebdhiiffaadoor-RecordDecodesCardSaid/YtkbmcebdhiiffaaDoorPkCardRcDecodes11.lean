/-
  The document's Decode of records: bytes that are none.
  What Encode writes, Decode reads (plain).
  What is read of a record is what is written of it (plain).
  A record as bytes: the program's Encode, kind 1.
-/
import Derived.RegionTactic
import Derived.Test.YtkbmcebdhiiffaaDoorPkCardRcDecodes1
import Derived.Test.YtkbmcebdhiiffaaDoorPkCardRcDecodes4
import Derived.Test.YtkbmcebdhiiffaaDoorPkCardRcDecodes10
set_option linter.unusedVariables false
set_option linter.unusedSimpArgs false

namespace Go.Proofs.YtkbmcebdhiiffaaDoor
open Go.RowKit

def RefNo (w : World) (n : Int) (e : Ending) (w' : World) : Prop := Ext w w' ∧ e = .returned (.tuple #[.agg #[.int .u8 0, .int .u64 0, .int .u64 0, .int .i64 0, .int .i64 0, .slice none 0 0, .slice none 0 0, .int .u64 0, .slice none 0 0, .bool false], .int .i64 n])
set_option maxRecDepth 20000 in
set_option maxHeartbeats 3200000 in
theorem rdecode_short (A : Option Addr) (n c : Nat) (w : World) (h5 : n < 5) :
    Calls Tryd.prog 15 #[.slice A n c] w (RefNo w 3) := by
  have h5i : (n : Int) < 5 := by omega
  go_enter Tryd.func15, Tryd.ntmps15
  go_upto_region 1 with fail
  obtain ⟨W1, hX1, hZ1, hgg⟩ : ∃ W1, Ext w W1 ∧ Rw W1 w.heap.size 26 [.int .u8 0, .int .u64 0, .int .u64 0, .int .i64 0, .int .i64 0, .slice none 0 0, .slice none 0 0, .int .u64 0, .slice none 0 0, .bool false] ∧ w.alloc (.cells #[.int .u8 0, .int .u64 0, .int .u64 0, .int .i64 0, .int .i64 0, .slice none 0 0, .slice none 0 0, .int .u64 0, .slice none 0 0, .bool false] 26) = W1 := ⟨_, Ext.alloc _ _, Rw.new _ _ _, rfl⟩
  rw [hgg]
  obtain ⟨hz, HHZ⟩ : ∃ hz, Hid (w.heap.size = hz) := ⟨_, hide rfl⟩
  rw [HHZ.out] at hZ1 ⊢
  have HZW : Hid (w.heap.size ≤ hz) := hide (by rw [HHZ.out]; exact Nat.le_refl _)
  have X1 := hide hX1
  have ZX1 := hide hZ1
  clear hgg hX1 hZ1
  have z0 := ZX1.out.cell (i := 0) rfl
  have z1 := ZX1.out.cell (i := 1) rfl
  have z2 := ZX1.out.cell (i := 2) rfl
  have z3 := ZX1.out.cell (i := 3) rfl
  have z4 := ZX1.out.cell (i := 4) rfl
  have z5 := ZX1.out.cell (i := 5) rfl
  have z6 := ZX1.out.cell (i := 6) rfl
  have z7 := ZX1.out.cell (i := 7) rfl
  have z8 := ZX1.out.cell (i := 8) rfl
  have z9 := ZX1.out.cell (i := 9) rfl
  have f0 := ZX1.out.frozen 0
  have f1 := ZX1.out.frozen 1
  have f2 := ZX1.out.frozen 2
  have f3 := ZX1.out.frozen 3
  have f4 := ZX1.out.frozen 4
  have f5 := ZX1.out.frozen 5
  have f6 := ZX1.out.frozen 6
  have f7 := ZX1.out.frozen 7
  have f8 := ZX1.out.frozen 8
  have f9 := ZX1.out.frozen 9
  go_wp2
  have ZZ := ((((((((((ZX1.out.set 0 (.int .u8 0)).set 1 (.int .u64 0)).set 2 (.int .u64 0)).set 3 (.int .i64 0)).set 4 (.int .i64 0)).set 5 (.slice none 0 0)).set 6 (.slice none 0 0)).set 7 (.int .u64 0)).set 8 (.slice none 0 0)).set 9 (.bool false))
  have HS10 := sets_only hz [(0, .int .u8 0), (1, .int .u64 0), (2, .int .u64 0), (3, .int .i64 0), (4, .int .i64 0), (5, .slice none 0 0), (6, .slice none 0 0), (7, .int .u64 0), (8, .slice none 0 0), (9, .bool false)] W1
  simp only [List.foldl_cons, List.foldl_nil] at HS10
  obtain ⟨wz, hwz⟩ : ∃ wz, ((((((((((W1).setCell ⟨hz, 0, none⟩ (.int .u8 0)).setCell ⟨hz, 1, none⟩ (.int .u64 0)).setCell ⟨hz, 2, none⟩ (.int .u64 0)).setCell ⟨hz, 3, none⟩ (.int .i64 0)).setCell ⟨hz, 4, none⟩ (.int .i64 0)).setCell ⟨hz, 5, none⟩ (.slice none 0 0)).setCell ⟨hz, 6, none⟩ (.slice none 0 0)).setCell ⟨hz, 7, none⟩ (.int .u64 0)).setCell ⟨hz, 8, none⟩ (.slice none 0 0)).setCell ⟨hz, 9, none⟩ (.bool false) = wz := ⟨_, rfl⟩
  rw [hwz] at HS10 ZZ ⊢
  obtain ⟨q1, q2, q3, q4, hsame⟩ := HS10
  clear hwz
  have e0 := ZZ.cell (i := 0) rfl
  have e1 := ZZ.cell (i := 1) rfl
  have e2 := ZZ.cell (i := 2) rfl
  have e3 := ZZ.cell (i := 3) rfl
  have e4 := ZZ.cell (i := 4) rfl
  have e5 := ZZ.cell (i := 5) rfl
  have e6 := ZZ.cell (i := 6) rfl
  have e7 := ZZ.cell (i := 7) rfl
  have e8 := ZZ.cell (i := 8) rfl
  have e9 := ZZ.cell (i := 9) rfl
  have XZ : Ext w wz := ⟨q1.trans X1.out.os, q2.trans X1.out.tape, q3.trans X1.out.output, Nat.le_trans X1.out.size (Nat.le_of_eq q4.symm), fun b hb => (hsame b (by have := HZW.out; omega)).trans (X1.out.block b hb)⟩
  refine bodyPost_ret (v := .tuple #[.agg #[.int .u8 0, .int .u64 0, .int .u64 0, .int .i64 0, .int .i64 0, .slice none 0 0, .slice none 0 0, .int .u64 0, .slice none 0 0, .bool false], .int .i64 3]) (by simp [results, Tryd.results15, go_sem, e0, e1, e2, e3, e4, e5, e6, e7, e8, e9]; try rfl) rfl ?_
  exact ⟨XZ, rfl⟩
set_option maxRecDepth 20000 in
set_option maxHeartbeats 3200000 in
theorem rdecode_sum (A : Option Addr) (l : List UInt8) (n c m : Nat) (w : World) (hr : Rd w A l) (hn : l.length = n) (hnc : n ≤ c) (hl : n ≤ 140737488351232) (hm : n = m + 4) (hm1 : 1 ≤ m) (hs : atV l m 4 ≠ crc (l.take m)) :
    Calls Tryd.prog 15 #[.slice A n c] w (RefNo w 15) := by
  have h5i : ¬ (n : Int) < 5 := by omega
  have hnI : (n : Int) ≤ 140737488351232 := by omega
  have hnm : (n : Int) - 4 = (m : Int) := by omega
  have hm0 : (0 : Int) ≤ (m : Int) := by omega
  have hmc : (m : Int) ≤ (c : Int) := by omega
  have hmcn : m ≤ c := by omega
  have hmn : (m : Int) ≤ (n : Int) := by omega
  obtain ⟨u, HU⟩ : ∃ u, Hid (atV l m 4 = u) := ⟨_, hide rfl⟩
  obtain ⟨s, HSU⟩ : ∃ s, Hid (crc (l.take m) = s) := ⟨_, hide rfl⟩
  have hne : ((u : Int) == (s : Int)) = false := by
    rw [← HU.out, ← HSU.out]
    simp
    omega
  have hs32 : (s : Int) < 4294967296 := by rw [← HSU.out]; unfold crc; omega
  have hs0 : (0 : Int) ≤ (s : Int) := by omega
  have hws : IntKind.u64.wrap (s : Int) = (s : Int) := by rw [IntKind.wrap_u64]; omega
  have hus : ¬ (u = s) := by intro h; rw [h] at hne; simp at hne
  have husI : ¬ ((u : Int) = (s : Int)) := by omega
  have KAT := hide (fun (W : World) (hW : Ext w W) => (show Calls Tryd.prog 27 #[.slice A n c, .int .i64 (m : Int), .int .i64 4] W (fun e w' => e = .returned (.int .u64 (u : Int)) ∧ w' = W) from by rw [← HU.out]; exact at_any A l n c m 4 _ _ W (hr.ext hW) hn rfl rfl (by omega) (by decide)))
  have KSU := hide (fun (W : World) (hW : Ext w W) => (show Calls Tryd.prog 26 #[.slice A m c] W (Ret W (Is (.int .u32 (s : Int)))) from by
    have h := rsum_any A c (l.take m) W ((hr.take m).ext hW) (by rw [List.length_take]; omega)
    rw [HSU.out, show (l.take m).length = m from by rw [List.length_take]; omega] at h
    exact h))
  clear hr hn hnc hl hm hs
  go_enter Tryd.func15, Tryd.ntmps15
  go_upto_region 1 with fail
  obtain ⟨W1, hX1, hZ1, hgg⟩ : ∃ W1, Ext w W1 ∧ Rw W1 w.heap.size 26 [.int .u8 0, .int .u64 0, .int .u64 0, .int .i64 0, .int .i64 0, .slice none 0 0, .slice none 0 0, .int .u64 0, .slice none 0 0, .bool false] ∧ w.alloc (.cells #[.int .u8 0, .int .u64 0, .int .u64 0, .int .i64 0, .int .i64 0, .slice none 0 0, .slice none 0 0, .int .u64 0, .slice none 0 0, .bool false] 26) = W1 := ⟨_, Ext.alloc _ _, Rw.new _ _ _, rfl⟩
  rw [hgg]
  obtain ⟨hz, HHZ⟩ : ∃ hz, Hid (w.heap.size = hz) := ⟨_, hide rfl⟩
  rw [HHZ.out] at hZ1 ⊢
  have HZW : Hid (w.heap.size ≤ hz) := hide (by rw [HHZ.out]; exact Nat.le_refl _)
  have X1 := hide hX1
  have ZX1 := hide hZ1
  clear hgg hX1 hZ1
  have z0 := ZX1.out.cell (i := 0) rfl
  have z1 := ZX1.out.cell (i := 1) rfl
  have z2 := ZX1.out.cell (i := 2) rfl
  have z3 := ZX1.out.cell (i := 3) rfl
  have z4 := ZX1.out.cell (i := 4) rfl
  have z5 := ZX1.out.cell (i := 5) rfl
  have z6 := ZX1.out.cell (i := 6) rfl
  have z7 := ZX1.out.cell (i := 7) rfl
  have z8 := ZX1.out.cell (i := 8) rfl
  have z9 := ZX1.out.cell (i := 9) rfl
  have f0 := ZX1.out.frozen 0
  have f1 := ZX1.out.frozen 1
  have f2 := ZX1.out.frozen 2
  have f3 := ZX1.out.frozen 3
  have f4 := ZX1.out.frozen 4
  have f5 := ZX1.out.frozen 5
  have f6 := ZX1.out.frozen 6
  have f7 := ZX1.out.frozen 7
  have f8 := ZX1.out.frozen 8
  have f9 := ZX1.out.frozen 9
  go_upto_region 4 with fail
  have XD := hide (X1.out.trans (Ext.drew _))
  go_region_law (first
    | (go_simp; go_at_call 27; refine (KAT.out _ XD.out).mono ?_; rintro e wa ⟨rfl, rfl⟩)
    | (go_simp; go_at_call 27; refine (KAT.out _ XS).mono ?_; rintro e wa ⟨rfl, rfl⟩)
    | (go_simp; go_at_call 26; refine (KSU.out _ XD.out).mono ?_; rintro e ws ⟨vs, rfl, hxs, rfl⟩; have XS : Ext w ws := XD.out.trans hxs; have X1s : Ext W1 ws := (Ext.drew W1).trans hxs))
  all_goals
    have XSh := hide XS
    have ZXs := hide (ZX1.out.ext X1s)
    clear XS X1s hxs XD X1 ZX1 KAT KSU z0 f0 z1 f1 z2 f2 z3 f3 z4 f4 z5 f5 z6 f6 z7 f7 z8 f8 z9 f9
    have z0 := ZXs.out.cell (i := 0) rfl
    have f0 := ZXs.out.frozen 0
    have z1 := ZXs.out.cell (i := 1) rfl
    have f1 := ZXs.out.frozen 1
    have z2 := ZXs.out.cell (i := 2) rfl
    have f2 := ZXs.out.frozen 2
    have z3 := ZXs.out.cell (i := 3) rfl
    have f3 := ZXs.out.frozen 3
    have z4 := ZXs.out.cell (i := 4) rfl
    have f4 := ZXs.out.frozen 4
    have z5 := ZXs.out.cell (i := 5) rfl
    have f5 := ZXs.out.frozen 5
    have z6 := ZXs.out.cell (i := 6) rfl
    have f6 := ZXs.out.frozen 6
    have z7 := ZXs.out.cell (i := 7) rfl
    have f7 := ZXs.out.frozen 7
    have z8 := ZXs.out.cell (i := 8) rfl
    have f8 := ZXs.out.frozen 8
    have z9 := ZXs.out.cell (i := 9) rfl
    have f9 := ZXs.out.frozen 9
    clear hne hnm hs32 hs0 hws
    have hne2 : ((u : Int) != (s : Int)) = true := by simp; omega
    go_upto_region 5 with fail
    go_wp2
    have ZZ := ((((((((((ZXs.out.set 0 (.int .u8 0)).set 1 (.int .u64 0)).set 2 (.int .u64 0)).set 3 (.int .i64 0)).set 4 (.int .i64 0)).set 5 (.slice none 0 0)).set 6 (.slice none 0 0)).set 7 (.int .u64 0)).set 8 (.slice none 0 0)).set 9 (.bool false))
    have HS10 := sets_only hz [(0, .int .u8 0), (1, .int .u64 0), (2, .int .u64 0), (3, .int .i64 0), (4, .int .i64 0), (5, .slice none 0 0), (6, .slice none 0 0), (7, .int .u64 0), (8, .slice none 0 0), (9, .bool false)] ws
    simp only [List.foldl_cons, List.foldl_nil] at HS10
    obtain ⟨wz, hwz⟩ : ∃ wz, ((((((((((ws).setCell ⟨hz, 0, none⟩ (.int .u8 0)).setCell ⟨hz, 1, none⟩ (.int .u64 0)).setCell ⟨hz, 2, none⟩ (.int .u64 0)).setCell ⟨hz, 3, none⟩ (.int .i64 0)).setCell ⟨hz, 4, none⟩ (.int .i64 0)).setCell ⟨hz, 5, none⟩ (.slice none 0 0)).setCell ⟨hz, 6, none⟩ (.slice none 0 0)).setCell ⟨hz, 7, none⟩ (.int .u64 0)).setCell ⟨hz, 8, none⟩ (.slice none 0 0)).setCell ⟨hz, 9, none⟩ (.bool false) = wz := ⟨_, rfl⟩
    rw [hwz] at HS10 ZZ ⊢
    obtain ⟨q1, q2, q3, q4, hsame⟩ := HS10
    clear hwz
    have e0 := ZZ.cell (i := 0) rfl
    have e1 := ZZ.cell (i := 1) rfl
    have e2 := ZZ.cell (i := 2) rfl
    have e3 := ZZ.cell (i := 3) rfl
    have e4 := ZZ.cell (i := 4) rfl
    have e5 := ZZ.cell (i := 5) rfl
    have e6 := ZZ.cell (i := 6) rfl
    have e7 := ZZ.cell (i := 7) rfl
    have e8 := ZZ.cell (i := 8) rfl
    have e9 := ZZ.cell (i := 9) rfl
    have XZ : Ext w wz := ⟨q1.trans XSh.out.os, q2.trans XSh.out.tape, q3.trans XSh.out.output, Nat.le_trans XSh.out.size (Nat.le_of_eq q4.symm), fun b hb => (hsame b (by have := HZW.out; omega)).trans (XSh.out.block b hb)⟩
    refine bodyPost_ret (v := .tuple #[.agg #[.int .u8 0, .int .u64 0, .int .u64 0, .int .i64 0, .int .i64 0, .slice none 0 0, .slice none 0 0, .int .u64 0, .slice none 0 0, .bool false], .int .i64 15]) (by simp [results, Tryd.results15, go_sem, e0, e1, e2, e3, e4, e5, e6, e7, e8, e9]; try rfl) rfl ?_
    exact ⟨XZ, rfl⟩
end Go.Proofs.YtkbmcebdhiiffaaDoor
namespace Go.Proofs.YtkbmcebdhiiffaaDoor
open Go.RowKit

theorem tk_app (n : Nat) (l rest : List UInt8) (s : Bool) (h : l.length = n) : tk n (l ++ rest, s) = (l, (rest, s)) := by
  unfold tk
  rw [if_neg (by show ¬ (l ++ rest).length < n; rw [List.length_append]; omega)]
  show ((l ++ rest).take n, ((l ++ rest).drop n, s)) = _
  rw [← h, List.take_left, List.drop_left]
theorem tk_all (n : Nat) (l : List UInt8) (s : Bool) (h : l.length = n) : tk n (l, s) = (l, ([], s)) := by
  have := tk_app n l [] s h
  rwa [List.append_nil] at this
theorem num_1 (u : Int) (h0 : 0 ≤ u) (h1 : u < 256) : num (numN 1 u) = u := by
  have e : numN 1 u = [b8 (u % 256)] := rfl
  rw [e]
  unfold num
  simp only [List.foldl_cons, List.foldl_nil]
  rw [b8_toNat (by omega) (by omega)]
  omega
theorem num_2 (u : Int) (h0 : 0 ≤ u) (h1 : u < 65536) : num (numN 2 u) = u := by
  have e : numN 2 u = [b8 (u / 256 % 256), b8 (u % 256)] := rfl
  rw [e]
  unfold num
  simp only [List.foldl_cons, List.foldl_nil]
  rw [b8_toNat (by omega) (by omega), b8_toNat (by omega) (by omega)]
  omega
theorem num_8 (u : Int) (h0 : 0 ≤ u) (h1 : u < 18446744073709551616) : num (numN 8 u) = u := num_be64 u h0 h1
theorem dirR_enc : ∀ (L : List (Int × Int)) (s : Bool), (∀ e ∈ L, (0 ≤ e.1 ∧ e.1 < 4096) ∧ 0 ≤ e.2 ∧ e.2 < 18446744073709551616) → dirR L.length (dirB L, s) = (L, ([], s))
  | [], s, _ => rfl
  | d :: L, s, h => by
    obtain ⟨⟨h1, h2⟩, h3, h4⟩ := h d (by simp)
    have e : dirB (d :: L) = numN 2 d.1 ++ (numN 8 d.2 ++ dirB L) := by simp [dirB]
    have ih := dirR_enc L s (fun x hx => h x (by simp [hx]))
    rw [e, List.length_cons]
    simp only [dirR, tk_app 2 _ _ _ (numN_length 2 d.1 (by decide)), tk_app 8 _ _ _ (numN_length 8 d.2 (by decide)), ih, num_2 _ h1 (show d.1 < 65536 by omega), num_8 _ h3 h4]
theorem numN_1 (u : Int) : (numN 1 u).length = 1 := numN_length 1 u (by decide)
theorem numN_2 (u : Int) : (numN 2 u).length = 2 := numN_length 2 u (by decide)
theorem numN_8 (u : Int) : (numN 8 u).length = 8 := numN_length 8 u (by decide)
set_option maxHeartbeats 1600000 in
theorem back_1 (tx pv pg off nx : Int) (bf af : List UInt8) (L : List (Int × Int)) (op : Bool) (htx0 : 0 ≤ tx) (htx : tx < 18446744073709551616) (hpv0 : 0 ≤ pv) (hpv1 : pv < 18446744073709551616) (hnx0 : 0 ≤ nx) (hnx1 : nx < 18446744073709551616) (hdl : ∀ e ∈ L, 0 ≤ e.2 ∧ e.2 < 18446744073709551616) (hf : formN 1 pv pg off nx af.length bf.length L.length L op = true) : rdRec (recB 1 tx pv pg off nx bf af L op, false) = (⟨1, tx, pv, pg, off, bf, af, nx, L, op⟩, ([], false)) := by
  obtain ⟨hpe, hoe, hae, hbe, hnxe, hLe, hop, hpve⟩ : pg = 0 ∧ off = 0 ∧ af = [] ∧ bf = [] ∧ nx = 0 ∧ L = [] ∧ op = false ∧ pv = 0 := by
    simp [formN, hok, hpv, hch, hbf, hnx, hck, chgN, chkN, isPg] at hf
    exact ⟨hf.2.2.1.1, hf.2.2.1.2.1, hf.2.2.1.2.2.1, hf.2.2.1.2.2.2, hf.2.1, hf.2.2.2.1, hf.2.2.2.2, hf.1⟩
  subst hpe hoe hae hbe hnxe hLe hop hpve
  unfold rdRec recB
  simp only [show hpv 1 = false from rfl, show hch 1 = false from rfl, show hbf 1 = false from rfl, show hnx 1 = false from rfl, show hck 1 = false from rfl, rdN, rdB, rdD, if_true, if_false, Bool.false_eq_true, List.append_nil, List.nil_append, List.append_assoc, List.length_nil, Int.toNat_natCast, tk_app 1 _ _ _ (numN_1 _), tk_app 8 _ _ _ (numN_8 _), tk_all 8 _ _ (numN_8 _), num_8 tx htx0 htx, num_1 1 (by decide) (by decide)]
  rfl
set_option maxHeartbeats 1600000 in
theorem back_2 (tx pv pg off nx : Int) (bf af : List UInt8) (L : List (Int × Int)) (op : Bool) (htx0 : 0 ≤ tx) (htx : tx < 18446744073709551616) (hpv0 : 0 ≤ pv) (hpv1 : pv < 18446744073709551616) (hnx0 : 0 ≤ nx) (hnx1 : nx < 18446744073709551616) (hdl : ∀ e ∈ L, 0 ≤ e.2 ∧ e.2 < 18446744073709551616) (hf : formN 2 pv pg off nx af.length bf.length L.length L op = true) : rdRec (recB 2 tx pv pg off nx bf af L op, false) = (⟨2, tx, pv, pg, off, bf, af, nx, L, op⟩, ([], false)) := by
  obtain ⟨hpg0, hpg1, hn1, hno, hoff0, hoff1, hbe, hLe, hop, hnxe⟩ : 0 ≤ pg ∧ pg < 4096 ∧ 1 ≤ af.length ∧ af.length ≤ 512 ∧ 0 ≤ off ∧ off < 65536 ∧ bf.length = af.length ∧ L = [] ∧ op = false ∧ nx = 0 := by
    simp [formN, hok, hpv, hch, hbf, hnx, hck, chgN, chkN, isPg] at hf
    refine ⟨by omega, by omega, by omega, by omega, by omega, by omega, by omega, hf.2.2.1, hf.2.2.2, by omega⟩
  subst hLe hop hnxe
  unfold rdRec recB
  simp only [show hpv 2 = true from rfl, show hch 2 = true from rfl, show hbf 2 = true from rfl, show hnx 2 = false from rfl, show hck 2 = false from rfl, rdN, rdB, rdD, if_true, if_false, Bool.false_eq_true, List.append_nil, List.nil_append, List.append_assoc, List.length_nil, Int.toNat_natCast, tk_app 1 _ _ _ (numN_1 _), tk_app 8 _ _ _ (numN_8 _), tk_all 8 _ _ (numN_8 _), tk_app 2 _ _ _ (numN_2 _), tk_app _ _ _ _ hbe, tk_all _ _ _ (rfl : af.length = af.length), num_8 tx htx0 htx, num_1 2 (by decide) (by decide), num_8 pv hpv0 hpv1, num_2 pg hpg0 (by omega), num_2 off hoff0 hoff1, num_2 (af.length : Int) (by omega) (by omega)]
  rfl
set_option maxHeartbeats 1600000 in
theorem back_3 (tx pv pg off nx : Int) (bf af : List UInt8) (L : List (Int × Int)) (op : Bool) (htx0 : 0 ≤ tx) (htx : tx < 18446744073709551616) (hpv0 : 0 ≤ pv) (hpv1 : pv < 18446744073709551616) (hnx0 : 0 ≤ nx) (hnx1 : nx < 18446744073709551616) (hdl : ∀ e ∈ L, 0 ≤ e.2 ∧ e.2 < 18446744073709551616) (hf : formN 3 pv pg off nx af.length bf.length L.length L op = true) : rdRec (recB 3 tx pv pg off nx bf af L op, false) = (⟨3, tx, pv, pg, off, bf, af, nx, L, op⟩, ([], false)) := by
  obtain ⟨hpg0, hpg1, hn1, hno, hoff0, hoff1, hbe, hLe, hop⟩ : 0 ≤ pg ∧ pg < 4096 ∧ 1 ≤ af.length ∧ af.length ≤ 512 ∧ 0 ≤ off ∧ off < 65536 ∧ bf = [] ∧ L = [] ∧ op = false := by
    simp [formN, hok, hpv, hch, hbf, hnx, hck, chgN, chkN, isPg] at hf
    refine ⟨by omega, by omega, by omega, by omega, by omega, by omega, hf.1.2.2.1, hf.2.1, hf.2.2⟩
  subst hLe hop hbe
  unfold rdRec recB
  simp only [show hpv 3 = true from rfl, show hch 3 = true from rfl, show hbf 3 = false from rfl, show hnx 3 = true from rfl, show hck 3 = false from rfl, rdN, rdB, rdD, if_true, if_false, Bool.false_eq_true, List.append_nil, List.nil_append, List.append_assoc, List.length_nil, Int.toNat_natCast, tk_app 1 _ _ _ (numN_1 _), tk_app 8 _ _ _ (numN_8 _), tk_all 8 _ _ (numN_8 _), tk_app 2 _ _ _ (numN_2 _), tk_app _ _ _ _ (rfl : af.length = af.length), num_8 tx htx0 htx, num_1 3 (by decide) (by decide), num_8 pv hpv0 hpv1, num_2 pg hpg0 (by omega), num_2 off hoff0 hoff1, num_2 (af.length : Int) (by omega) (by omega), num_8 nx hnx0 hnx1]
  rfl
set_option maxHeartbeats 1600000 in
theorem back_4 (tx pv pg off nx : Int) (bf af : List UInt8) (L : List (Int × Int)) (op : Bool) (htx0 : 0 ≤ tx) (htx : tx < 18446744073709551616) (hpv0 : 0 ≤ pv) (hpv1 : pv < 18446744073709551616) (hnx0 : 0 ≤ nx) (hnx1 : nx < 18446744073709551616) (hdl : ∀ e ∈ L, 0 ≤ e.2 ∧ e.2 < 18446744073709551616) (hf : formN 4 pv pg off nx af.length bf.length L.length L op = true) : rdRec (recB 4 tx pv pg off nx bf af L op, false) = (⟨4, tx, pv, pg, off, bf, af, nx, L, op⟩, ([], false)) := by
  obtain ⟨hpe, hoe, hae, hbe, hnxe, hLe, hop⟩ : pg = 0 ∧ off = 0 ∧ af = [] ∧ bf = [] ∧ nx = 0 ∧ L = [] ∧ op = false := by
    simp [formN, hok, hpv, hch, hbf, hnx, hck, chgN, chkN, isPg] at hf
    exact ⟨hf.2.1.1, hf.2.1.2.1, hf.2.1.2.2.1, hf.2.1.2.2.2, hf.1, hf.2.2.1, hf.2.2.2⟩
  subst hpe hoe hae hbe hnxe hLe hop
  unfold rdRec recB
  simp only [show hpv 4 = true from rfl, show hch 4 = false from rfl, show hbf 4 = false from rfl, show hnx 4 = false from rfl, show hck 4 = false from rfl, rdN, rdB, rdD, if_true, if_false, Bool.false_eq_true, List.append_nil, List.nil_append, List.append_assoc, List.length_nil, Int.toNat_natCast, tk_app 1 _ _ _ (numN_1 _), tk_app 8 _ _ _ (numN_8 _), tk_all 8 _ _ (numN_8 _), num_8 tx htx0 htx, num_1 4 (by decide) (by decide), num_8 pv hpv0 hpv1]
  rfl
set_option maxHeartbeats 1600000 in
theorem back_5 (tx pv pg off nx : Int) (bf af : List UInt8) (L : List (Int × Int)) (op : Bool) (htx0 : 0 ≤ tx) (htx : tx < 18446744073709551616) (hpv0 : 0 ≤ pv) (hpv1 : pv < 18446744073709551616) (hnx0 : 0 ≤ nx) (hnx1 : nx < 18446744073709551616) (hdl : ∀ e ∈ L, 0 ≤ e.2 ∧ e.2 < 18446744073709551616) (hf : formN 5 pv pg off nx af.length bf.length L.length L op = true) : rdRec (recB 5 tx pv pg off nx bf af L op, false) = (⟨5, tx, pv, pg, off, bf, af, nx, L, op⟩, ([], false)) := by
  obtain ⟨hpe, hoe, hae, hbe, hnxe, hLe, hop⟩ : pg = 0 ∧ off = 0 ∧ af = [] ∧ bf = [] ∧ nx = 0 ∧ L = [] ∧ op = false := by
    simp [formN, hok, hpv, hch, hbf, hnx, hck, chgN, chkN, isPg] at hf
    exact ⟨hf.2.1.1, hf.2.1.2.1, hf.2.1.2.2.1, hf.2.1.2.2.2, hf.1, hf.2.2.1, hf.2.2.2⟩
  subst hpe hoe hae hbe hnxe hLe hop
  unfold rdRec recB
  simp only [show hpv 5 = true from rfl, show hch 5 = false from rfl, show hbf 5 = false from rfl, show hnx 5 = false from rfl, show hck 5 = false from rfl, rdN, rdB, rdD, if_true, if_false, Bool.false_eq_true, List.append_nil, List.nil_append, List.append_assoc, List.length_nil, Int.toNat_natCast, tk_app 1 _ _ _ (numN_1 _), tk_app 8 _ _ _ (numN_8 _), tk_all 8 _ _ (numN_8 _), num_8 tx htx0 htx, num_1 5 (by decide) (by decide), num_8 pv hpv0 hpv1]
  rfl
set_option maxHeartbeats 1600000 in
theorem back_6 (tx pv pg off nx : Int) (bf af : List UInt8) (L : List (Int × Int)) (op : Bool) (htx0 : 0 ≤ tx) (htx : tx < 18446744073709551616) (hpv0 : 0 ≤ pv) (hpv1 : pv < 18446744073709551616) (hnx0 : 0 ≤ nx) (hnx1 : nx < 18446744073709551616) (hdl : ∀ e ∈ L, 0 ≤ e.2 ∧ e.2 < 18446744073709551616) (hf : formN 6 pv pg off nx af.length bf.length L.length L op = true) : rdRec (recB 6 tx pv pg off nx bf af L op, false) = (⟨6, tx, pv, pg, off, bf, af, nx, L, op⟩, ([], false)) := by
  obtain ⟨hpe, hoe, hae, hbe, hnxe, hnd, hris⟩ : pg = 0 ∧ off = 0 ∧ af = [] ∧ bf = [] ∧ nx = 0 ∧ L.length ≤ 64 ∧ risB (-1) L = true := by
    simp [formN, hok, hpv, hch, hbf, hnx, hck, chgN, chkN, isPg] at hf
    exact ⟨hf.2.1.1, hf.2.1.2.1, hf.2.1.2.2.1, hf.2.1.2.2.2, hf.1, hf.2.2.1, hf.2.2.2⟩
  subst hpe hoe hae hbe hnxe
  have hcn : 0 ≤ cntN L.length op ∧ cntN L.length op < 256 := by unfold cntN; split <;> omega
  have hc1 : (cntN L.length op).toNat / 2 = L.length := by unfold cntN; split <;> omega
  have hc2 : (cntN L.length op % 2 == 1) = op := by unfold cntN; cases op <;> simp <;> omega
  have hde := dirR_enc L false (fun e he => ⟨risB_mem L (-1) (Int.le_refl _) hris e he, hdl e he⟩)
  unfold rdRec recB
  simp only [show hpv 6 = true from rfl, show hch 6 = false from rfl, show hbf 6 = false from rfl, show hnx 6 = false from rfl, show hck 6 = true from rfl, rdN, rdB, rdD, if_true, if_false, Bool.false_eq_true, List.append_nil, List.nil_append, List.append_assoc, List.length_nil, Int.toNat_natCast, tk_app 1 _ _ _ (numN_1 _), tk_app 8 _ _ _ (numN_8 _), tk_all 8 _ _ (numN_8 _), num_8 tx htx0 htx, num_1 6 (by decide) (by decide), num_8 pv hpv0 hpv1, num_1 _ hcn.1 hcn.2, hc1, hc2, hde]
end Go.Proofs.YtkbmcebdhiiffaaDoor
namespace Go.Proofs.YtkbmcebdhiiffaaDoor
open Go.RowKit

theorem byte_eq (x : UInt8) (u : Int) (h : u = (x.toNat : Int)) : b8 u = x := by
  subst h
  exact b8_byte x
theorem inv_1 : ∀ b : List UInt8, b.length = 1 → numN 1 (num b) = b
  | [x], _ => by
    have h0 := x.toNat_lt
    have e : num [x] = (x.toNat : Int) := by simp [num]
    show [b8 (num [x] % 256)] = [x]
    rw [e, byte_eq x _ (by omega)]
theorem inv_2 : ∀ b : List UInt8, b.length = 2 → numN 2 (num b) = b
  | [x, y], _ => by
    have h0 := x.toNat_lt
    have h1 := y.toNat_lt
    have e : num [x, y] = (x.toNat : Int) * 256 + (y.toNat : Int) := by simp [num]
    show [b8 (num [x, y] / 256 % 256), b8 (num [x, y] % 256)] = [x, y]
    rw [e, byte_eq x _ (by omega), byte_eq y _ (by omega)]
theorem inv_8 : ∀ b : List UInt8, b.length = 8 → numN 8 (num b) = b
  | [a, b, c, d, e, f, g, h], _ => by
    have h0 := a.toNat_lt
    have h1 := b.toNat_lt
    have h2 := c.toNat_lt
    have h3 := d.toNat_lt
    have h4 := e.toNat_lt
    have h5 := f.toNat_lt
    have h6 := g.toNat_lt
    have h7 := h.toNat_lt
    obtain ⟨u, hu⟩ : ∃ u, num [a, b, c, d, e, f, g, h] = u := ⟨_, rfl⟩
    have hue : u = (((((((((a.toNat : Int) * 256 + b.toNat) * 256 + c.toNat) * 256 + d.toNat) * 256 + e.toNat) * 256 + f.toNat) * 256 + g.toNat) * 256 + h.toNat)) := by rw [← hu]; simp [num]
    rw [hu]
    show [b8 (u / 72057594037927936 % 256), b8 (u / 281474976710656 % 256), b8 (u / 1099511627776 % 256), b8 (u / 4294967296 % 256), b8 (u / 16777216 % 256), b8 (u / 65536 % 256), b8 (u / 256 % 256), b8 (u % 256)] = _
    clear hu
    rw [byte_eq a _ (by omega), byte_eq b _ (by omega), byte_eq c _ (by omega), byte_eq d _ (by omega), byte_eq e _ (by omega), byte_eq f _ (by omega), byte_eq g _ (by omega), byte_eq h _ (by omega)]
/-- A reader that isn't short: what it read stood in front. -/
def Wr {α : Type} (f : List UInt8 × Bool → α × (List UInt8 × Bool)) (out : α → List UInt8) : Prop := ∀ st, (f st).2.2 = false → st.2 = false ∧ st.1 = out (f st).1 ++ (f st).2.1
theorem wr_tk (n : Nat) : ∀ st, (tk n st).2.2 = false → st.2 = false ∧ (tk n st).1.length = n ∧ st.1 = (tk n st).1 ++ (tk n st).2.1 := fun st h => by
  unfold tk at h ⊢
  by_cases hs : st.1.length < n
  · rw [if_pos hs] at h; cases h
  · rw [if_neg hs] at h ⊢
    exact ⟨h, by show (st.1.take n).length = n; rw [List.length_take]; omega, (List.take_append_drop n st.1).symm⟩
theorem wr_num (n : Nat) (hn : ∀ b : List UInt8, b.length = n → numN n (num b) = b) (st : List UInt8 × Bool) (h : (tk n st).2.2 = false) : st.2 = false ∧ st.1 = numN n (num (tk n st).1) ++ (tk n st).2.1 := by
  obtain ⟨h1, h2, h3⟩ := wr_tk n st h
  exact ⟨h1, by rw [hn _ h2]; exact h3⟩
theorem wr_rdN (b : Bool) (n : Nat) (hn : ∀ b : List UInt8, b.length = n → numN n (num b) = b) : Wr (rdN b n) (fun v => if b then numN n v else []) := fun st h => by
  cases b with
  | false => exact ⟨h, rfl⟩
  | true => exact wr_num n hn st h
theorem wr_rdB (b : Bool) (n : Nat) : Wr (rdB b n) id := fun st h => by
  cases b with
  | false => exact ⟨h, rfl⟩
  | true => exact ⟨(wr_tk n st h).1, (wr_tk n st h).2.2⟩
theorem rdB_length (n : Nat) (st : List UInt8 × Bool) (h : (rdB true n st).2.2 = false) : (rdB true n st).1.length = n := (wr_tk n st h).2.1
theorem wr_dirR : ∀ m, Wr (dirR m) dirB
  | 0 => fun st h => ⟨h, rfl⟩
  | m + 1 => fun st h => by
    have h0 : (dirR m (tk 8 (tk 2 st).2).2).2.2 = false := h
    obtain ⟨h1, e1⟩ := wr_dirR m _ h0
    obtain ⟨h2, e2⟩ := wr_num 8 inv_8 _ h1
    obtain ⟨h3, e3⟩ := wr_num 2 inv_2 _ h2
    refine ⟨h3, ?_⟩
    have e : dirB (dirR (m + 1) st).1 = numN 2 (num (tk 2 st).1) ++ (numN 8 (num (tk 8 (tk 2 st).2).1) ++ dirB (dirR m (tk 8 (tk 2 st).2).2).1) := by simp [dirR, dirB]
    show st.1 = dirB (dirR (m + 1) st).1 ++ (dirR m (tk 8 (tk 2 st).2).2).2.1
    rw [e, e3, e2, e1]
    simp
theorem wr_rdD (b : Bool) (q : Nat) : Wr (rdD b q) dirB := fun st h => by
  cases b with
  | false => exact ⟨h, rfl⟩
  | true => exact wr_dirR (q / 2) st h
theorem dirR_length : ∀ (m : Nat) (st : List UInt8 × Bool), (dirR m st).1.length = m
  | 0, _ => rfl
  | m + 1, st => by simp [dirR, dirR_length m]
theorem hbf_hch {k : Int} (h : hch k = false) : hbf k = false := by
  unfold hch at h
  unfold hbf
  simp at h ⊢
  omega
theorem rdN_nn (b : Bool) (n : Nat) (st : List UInt8 × Bool) : 0 ≤ (rdN b n st).1 := (rdN_lt b n st).1
theorem rec_back (l : List UInt8) (h : (rdRec (l, false)).2 = ([], false)) : recB (rdRec (l, false)).1.k (rdRec (l, false)).1.tx (rdRec (l, false)).1.pv (rdRec (l, false)).1.pg (rdRec (l, false)).1.off (rdRec (l, false)).1.nx (rdRec (l, false)).1.bf (rdRec (l, false)).1.af (rdRec (l, false)).1.dl (rdRec (l, false)).1.op = l := by
  obtain ⟨k, hk⟩ : ∃ k, num (tk 1 (l, false)).1 = k := ⟨_, rfl⟩
  obtain ⟨s1, hs1⟩ : ∃ s, tk 8 (tk 1 (l, false)).2 = s := ⟨_, rfl⟩
  obtain ⟨s2, hs2⟩ : ∃ s, rdN (hpv k) 8 s1.2 = s := ⟨_, rfl⟩
  obtain ⟨s3, hs3⟩ : ∃ s, rdN (hch k) 2 s2.2 = s := ⟨_, rfl⟩
  obtain ⟨s4, hs4⟩ : ∃ s, rdN (hch k) 2 s3.2 = s := ⟨_, rfl⟩
  obtain ⟨s5, hs5⟩ : ∃ s, rdN (hch k) 2 s4.2 = s := ⟨_, rfl⟩
  obtain ⟨s6, hs6⟩ : ∃ s, rdB (hbf k) s5.1.toNat s5.2 = s := ⟨_, rfl⟩
  obtain ⟨s7, hs7⟩ : ∃ s, rdB (hch k) s5.1.toNat s6.2 = s := ⟨_, rfl⟩
  obtain ⟨s8, hs8⟩ : ∃ s, rdN (hnx k) 8 s7.2 = s := ⟨_, rfl⟩
  obtain ⟨s9, hs9⟩ : ∃ s, rdN (hck k) 1 s8.2 = s := ⟨_, rfl⟩
  obtain ⟨sb, hsb⟩ : ∃ s, rdD (hck k) s9.1.toNat s9.2 = s := ⟨_, rfl⟩
  have e : rdRec (l, false) = (⟨k, num s1.1, s2.1, s3.1, s4.1, s6.1, s7.1, s8.1, sb.1, s9.1 % 2 == 1⟩, sb.2) := by
    simp only [rdRec, hk, hs1, hs2, hs3, hs4, hs5, hs6, hs7, hs8, hs9, hsb]
  rw [e] at h ⊢
  have hb0 : sb.2.2 = false := by rw [show sb.2 = ([], false) from h]
  have hb1 : sb.2.1 = [] := by rw [show sb.2 = ([], false) from h]
  obtain ⟨h9, eb⟩ := wr_rdD (hck k) s9.1.toNat s9.2 (by rw [hsb]; exact hb0)
  obtain ⟨h8, e9⟩ := wr_rdN (hck k) 1 inv_1 s8.2 (by rw [hs9]; exact h9)
  obtain ⟨h7, e8⟩ := wr_rdN (hnx k) 8 inv_8 s7.2 (by rw [hs8]; exact h8)
  obtain ⟨h6, e7⟩ := wr_rdB (hch k) s5.1.toNat s6.2 (by rw [hs7]; exact h7)
  obtain ⟨h5, e6⟩ := wr_rdB (hbf k) s5.1.toNat s5.2 (by rw [hs6]; exact h6)
  obtain ⟨h4, e5⟩ := wr_rdN (hch k) 2 inv_2 s4.2 (by rw [hs5]; exact h5)
  obtain ⟨h3, e4⟩ := wr_rdN (hch k) 2 inv_2 s3.2 (by rw [hs4]; exact h4)
  obtain ⟨h2, e3⟩ := wr_rdN (hch k) 2 inv_2 s2.2 (by rw [hs3]; exact h3)
  obtain ⟨h1, e2⟩ := wr_rdN (hpv k) 8 inv_8 s1.2 (by rw [hs2]; exact h2)
  obtain ⟨h0, e1⟩ := wr_num 8 inv_8 (tk 1 (l, false)).2 (by rw [hs1]; exact h1)
  obtain ⟨-, e0⟩ := wr_num 1 inv_1 (l, false) h0
  rw [hsb] at eb
  rw [hs9] at e9
  rw [hs8] at e8
  rw [hs7] at e7
  rw [hs6] at e6
  rw [hs5] at e5
  rw [hs4] at e4
  rw [hs3] at e3
  rw [hs2] at e2
  rw [hs1] at e1
  rw [hk] at e0
  rw [hb1, List.append_nil] at eb
  have n5 : 0 ≤ s5.1 := by rw [← hs5]; exact rdN_nn _ _ _
  have n9 : 0 ≤ s9.1 := by rw [← hs9]; exact rdN_nn _ _ _
  have ll : l = numN 1 k ++ (tk 1 (l, false)).2.1 := e0
  rw [e1, e2, e3, e4, e5, e6, e7, e8, e9, eb] at ll
  show recB k (num s1.1) s2.1 s3.1 s4.1 s8.1 s6.1 s7.1 sb.1 (s9.1 % 2 == 1) = l
  have hC : hch k = true → (s7.1.length : Int) = s5.1 := fun hc => by
    have := rdB_length s5.1.toNat s6.2 (by rw [hc] at hs7; rw [hs7]; exact h7)
    rw [hc] at hs7
    rw [hs7] at this
    omega
  have hD : hck k = true → cntN sb.1.length (s9.1 % 2 == 1) = s9.1 := fun hc => by
    rw [hc] at hsb
    have := dirR_length (s9.1.toNat / 2) s9.2
    rw [show dirR (s9.1.toNat / 2) s9.2 = sb from hsb] at this
    unfold cntN
    rw [this]
    by_cases ho : s9.1 % 2 = 1
    · rw [if_pos (by simp [ho])]; omega
    · rw [if_neg (by simp [ho])]; omega
  conv => rhs; rw [ll]
  unfold recB
  cases hc : hch k with
  | true =>
    rw [hC hc]
    cases hd : hck k with
    | true => rw [hD hd]; simp [hc, hd]
    | false =>
      have : sb.1 = [] := by rw [hd] at hsb; rw [← hsb]; rfl
      rw [this]
      simp [hc, hd, dirB]
  | false =>
    have b6 : s6.1 = [] := by rw [hbf_hch hc] at hs6; rw [← hs6]; rfl
    have b7 : s7.1 = [] := by rw [hc] at hs7; rw [← hs7]; rfl
    rw [b6, b7]
    cases hd : hck k with
    | true => rw [hD hd]; simp [hc, hd]
    | false =>
      have : sb.1 = [] := by rw [hd] at hsb; rw [← hsb]; rfl
      rw [this]
      simp [hc, hd, dirB]
end Go.Proofs.YtkbmcebdhiiffaaDoor
namespace Go.Proofs.YtkbmcebdhiiffaaDoor
open Go.RowKit

set_option maxRecDepth 20000 in
set_option maxHeartbeats 6400000 in
theorem encode_1 (tx pv pg off nx : Int) (A B D : Option Addr) (nb a na b' nd d : Nat) (op : Bool) (w : World) (bf af : List UInt8) (L : List (Int × Int)) (ht : Tab w) (hb0 : Rd w A bf) (ha0 : Rd w B af) (hr : RdD w D L) (hbn : bf.length = nb) (han : af.length = na) (hn : L.length = nd) (hnd : nd ≤ 140737488351232) (hna : na ≤ 140737488351232) (hnb : nb ≤ 140737488351232) (ho : -9223372036854775808 ≤ off) (ho2 : off < 9223372036854775808) (htx0 : 0 ≤ tx) (htx : tx < 18446744073709551616) (hpv0 : 0 ≤ pv) (hpv1 : pv < 18446744073709551616) (hnx0 : 0 ≤ nx) (hnx1 : nx < 18446744073709551616) (hdl : ∀ e ∈ L, 0 ≤ e.2 ∧ e.2 < 18446744073709551616) (hf : formN 1 pv pg off nx na nb nd L op = true) :
    Calls Tryd.prog 11 #[.agg #[.int .u8 1, .int .u64 tx, .int .u64 pv, .int .i64 pg, .int .i64 off, .slice A nb a, .slice B na b', .int .u64 nx, .slice D nd d, .bool op]] w (EncP w (fullB 1 tx pv pg off nx bf af L op)) := by
  have KF := hide (fun (W : World) (hW : Ext w W) => (show Calls Tryd.prog 9 #[.agg #[.int .u8 1, .int .u64 tx, .int .u64 pv, .int .i64 pg, .int .i64 off, .slice A nb a, .slice B na b', .int .u64 nx, .slice D nd d, .bool op]] W (RetB W true) from by have h := form_any 1 tx pv pg off nx A B D nb a na b' nd d op W L (hr.ext hW) hn hnd hna hnb ho ho2; rw [hf] at h; exact h))
  have KP := hide (fun (W : World) => (show Calls Tryd.prog 16 #[.int .u8 1] W (fun e w' => e = .returned (.tuple #[.agg #[.bool false, .bool false, .bool false, .bool false, .bool false], .bool true]) ∧ Ext W w') from partsOf_any 1 W))
  have HT := hide ht
  have HBF := hide hb0
  have HAF := hide ha0
  have HD := hide hr
  have HBN := hide hbn
  have HAN := hide han
  have HN := hide hn
  have HTX := hide (And.intro htx0 htx)
  have HPV := hide (And.intro hpv0 hpv1)
  have HNX := hide (And.intro hnx0 hnx1)
  clear ht hb0 ha0 hr hbn han hn htx0 htx hpv0 hpv1 hnx0 hnx1 hdl hf ho ho2
  go_enter Tryd.func11, Tryd.ntmps11
  go_upto_region 1 with fail
  obtain ⟨W1, hX1, hR1, hg⟩ : ∃ W1, Ext w W1 ∧ Rw W1 w.heap.size 26 [.int .u8 1, .int .u64 tx, .int .u64 pv, .int .i64 pg, .int .i64 off, .slice A nb a, .slice B na b', .int .u64 nx, .slice D nd d, .bool op] ∧ w.alloc (.cells #[.int .u8 1, .int .u64 tx, .int .u64 pv, .int .i64 pg, .int .i64 off, .slice A nb a, .slice B na b', .int .u64 nx, .slice D nd d, .bool op] 26) = W1 := ⟨_, Ext.alloc _ _, Rw.new _ _ _, rfl⟩
  rw [hg]
  obtain ⟨hb, HHB⟩ : ∃ hb, Hid (w.heap.size = hb) := ⟨_, hide rfl⟩
  rw [HHB.out] at hR1 ⊢
  have X1 := hide hX1
  have R1 := hide hR1
  have c0 := hR1.cell (i := 0) rfl
  have c1 := hR1.cell (i := 1) rfl
  have c2 := hR1.cell (i := 2) rfl
  have c3 := hR1.cell (i := 3) rfl
  have c4 := hR1.cell (i := 4) rfl
  have c5 := hR1.cell (i := 5) rfl
  have c6 := hR1.cell (i := 6) rfl
  have c7 := hR1.cell (i := 7) rfl
  have c8 := hR1.cell (i := 8) rfl
  have c9 := hR1.cell (i := 9) rfl
  clear hg hX1 hR1
  go_upto_region 3 with (go_at_call 9; (with_reducible refine (KF.out _ X1.out).mono ?_); rintro e w2 ⟨rfl, hx2⟩; have X2 := hide (X1.out.trans hx2); have R2 := hide (R1.out.ext hx2); clear hx2)
  clear c0 c1 c2 c3 c4 c5 c6 c7 c8 c9
  have c0 := R2.out.cell (i := 0) rfl
  go_upto_region 4 with (go_at_call 16; (with_reducible refine (KP.out _).mono ?_); rintro e w3 ⟨rfl, hx3⟩; have X3 := hide (X2.out.trans hx3); have R3 := hide (R2.out.ext hx3); clear hx3)
  clear c0
  obtain ⟨W4, hX4, hR4, hg⟩ : ∃ W4, Ext w3 W4 ∧ Rw W4 w3.heap.size 42 [.bool false, .bool false, .bool false, .bool false, .bool false] ∧ w3.alloc (.cells #[.bool false, .bool false, .bool false, .bool false, .bool false] 42) = W4 := ⟨_, Ext.alloc _ _, Rw.new _ _ _, rfl⟩
  rw [hg]
  obtain ⟨hq, HHQ⟩ : ∃ hq, Hid (w3.heap.size = hq) := ⟨_, hide rfl⟩
  rw [HHQ.out] at hR4 ⊢
  have R4 := hide (R3.out.ext hX4)
  have Q4 := hide hR4
  obtain ⟨BB, HBB⟩ : ∃ BB, Hid (W4.heap.size = BB) := ⟨_, hide rfl⟩
  have XW4 := hide (X3.out.trans hX4)
  have HB0 : Hid (w.heap.size ≤ BB) := hide (by rw [← HBB.out]; exact XW4.out.size)
  have Y4 : Hid (Below BB W4 W4) := hide (Below.refl _ _)
  have O4 : Hid (Own W4 BB (.slice none 0 0) []) := hide (Own.nil _ _)
  have HBW : Hid (BB ≤ W4.heap.size) := hide (by rw [HBB.out]; exact Nat.le_refl _)
  clear hg hX4 hR4 X1 X2 X3 R1 R2 R3 KF KP HHB HHQ
  have c0 := R4.out.cell (i := 0) rfl
  have c1 := R4.out.cell (i := 1) rfl
  have c2 := R4.out.cell (i := 2) rfl
  have c3 := R4.out.cell (i := 3) rfl
  have c4 := R4.out.cell (i := 4) rfl
  have c5 := R4.out.cell (i := 5) rfl
  have c6 := R4.out.cell (i := 6) rfl
  have c7 := R4.out.cell (i := 7) rfl
  have c8 := R4.out.cell (i := 8) rfl
  have c9 := R4.out.cell (i := 9) rfl
  have q0 := Q4.out.cell (i := 0) rfl
  have q1 := Q4.out.cell (i := 1) rfl
  have q2 := Q4.out.cell (i := 2) rfl
  have q3 := Q4.out.cell (i := 3) rfl
  have q4 := Q4.out.cell (i := 4) rfl
  have KA := hide (appendNumber_1 (.slice none 0 0) [] 1 BB W4 O4.out HBW.out (by omega) (by omega) (by simp))
  go_upto_region 5 with (go_at_call 19; (with_reducible refine KA.out.mono ?_); rintro e m0 ⟨z0, rfl, ho, hb2, hs2⟩; have Op0 := hide ho; have Yp0 : Hid (Below BB W4 m0) := hide (Y4.out.trans hb2); have Xp0 : Hid (Ext w m0) := hide (XW4.out.below HB0.out Yp0.out); have Rp0 := hide (hs2 hb _ _ (by decide) R4.out); have Qp0 := hide (hs2 hq _ _ (by decide) Q4.out); clear ho hb2 hs2)
  clear R4 Q4 O4 KA
  clear c0 c1 c2 c3 c4 c5 c6 c7 c8 c9 q0 q1 q2 q3 q4
  have c0 := Rp0.out.cell (i := 0) rfl
  have c1 := Rp0.out.cell (i := 1) rfl
  have c2 := Rp0.out.cell (i := 2) rfl
  have c3 := Rp0.out.cell (i := 3) rfl
  have c4 := Rp0.out.cell (i := 4) rfl
  have c5 := Rp0.out.cell (i := 5) rfl
  have c6 := Rp0.out.cell (i := 6) rfl
  have c7 := Rp0.out.cell (i := 7) rfl
  have c8 := Rp0.out.cell (i := 8) rfl
  have c9 := Rp0.out.cell (i := 9) rfl
  have q0 := Qp0.out.cell (i := 0) rfl
  have q1 := Qp0.out.cell (i := 1) rfl
  have q2 := Qp0.out.cell (i := 2) rfl
  have q3 := Qp0.out.cell (i := 3) rfl
  have q4 := Qp0.out.cell (i := 4) rfl
  obtain ⟨l0, HEp0⟩ : ∃ l, Hid ([] ++ numN 1 1 = l) := ⟨_, hide rfl⟩
  rw [HEp0.out] at Op0
  have HLp0 : Hid (l0.length ≤ 1) := hide (by rw [← HEp0.out, List.length_append, numN_length 1 _ (by decide)]; simp)
  have KA := hide (appendNumber_8 z0 l0 tx BB m0 Op0.out (Nat.le_trans HBW.out Yp0.out.size) HTX.out.1 HTX.out.2 (by have := HLp0.out; omega))
  go_upto_region 6 with (go_at_call 19; (with_reducible refine KA.out.mono ?_); rintro e m1 ⟨z1, rfl, ho, hb2, hs2⟩; have Op1 := hide ho; have Yp1 : Hid (Below BB W4 m1) := hide (Yp0.out.trans hb2); have Xp1 : Hid (Ext w m1) := hide (XW4.out.below HB0.out Yp1.out); have Rp1 := hide (hs2 hb _ _ (by decide) Rp0.out); have Qp1 := hide (hs2 hq _ _ (by decide) Qp0.out); clear ho hb2 hs2)
  clear Rp0 Qp0 Op0 KA
  clear c0 c1 c2 c3 c4 c5 c6 c7 c8 c9 q0 q1 q2 q3 q4
  have c0 := Rp1.out.cell (i := 0) rfl
  have c1 := Rp1.out.cell (i := 1) rfl
  have c2 := Rp1.out.cell (i := 2) rfl
  have c3 := Rp1.out.cell (i := 3) rfl
  have c4 := Rp1.out.cell (i := 4) rfl
  have c5 := Rp1.out.cell (i := 5) rfl
  have c6 := Rp1.out.cell (i := 6) rfl
  have c7 := Rp1.out.cell (i := 7) rfl
  have c8 := Rp1.out.cell (i := 8) rfl
  have c9 := Rp1.out.cell (i := 9) rfl
  have q0 := Qp1.out.cell (i := 0) rfl
  have q1 := Qp1.out.cell (i := 1) rfl
  have q2 := Qp1.out.cell (i := 2) rfl
  have q3 := Qp1.out.cell (i := 3) rfl
  have q4 := Qp1.out.cell (i := 4) rfl
  obtain ⟨l1, HEp1⟩ : ∃ l, Hid (l0 ++ numN 8 tx = l) := ⟨_, hide rfl⟩
  rw [HEp1.out] at Op1
  have HLp1 : Hid (l1.length ≤ 9) := hide (by rw [← HEp1.out, List.length_append, numN_length 8 _ (by decide)]; have := HLp0.out; omega)
  have HREC : Hid (recB 1 tx pv pg off nx bf af L op = l1) := hide (by
    rw [← HEp1.out, ← HEp0.out]
    simp [recB, hpv, hch, hnx, hck])
  obtain ⟨AZ, cz, hvz, hcz, hrz⟩ := Op1.out.bytes
  subst hvz
  obtain ⟨nz, HNZ⟩ : ∃ n, Hid (l1.length = n) := ⟨_, hide rfl⟩
  rw [HNZ.out] at Op1 ⊢
  have KS := hide (sumOf_any AZ l1 nz cz m1 hrz HNZ.out (by have := HNZ.out; have := HLp1.out; omega) (HT.out.ext Xp1.out))
  clear hcz hrz
  go_wp2_with (first
    | (go_at_call 21; (with_reducible refine KS.out.mono ?_); rintro e ws ⟨vs, rfl, hxs, hos⟩; obtain ⟨AS, cs, hvs, hcs, hrs⟩ := Own.bytes hos; subst hvs; have XS := hide hxs; have RS := hide hrs; clear hxs hrs hos hcs)
    | (refine wpList_catG rfl (.tmp 67) (.tmp 69) rfl BB (.slice AZ nz cz) l1 (sumB l1) AS _ cs rfl rfl rfl (Op1.out.ext XS.out) RS.out (Nat.le_trans (Nat.le_trans HBW.out Yp1.out.size) XS.out.size) (by rw [show (sumB l1).length = 4 from numN_length 4 _ (by decide)]; have := HLp1.out; omega) ?_; intro vf wf ho hb2 hs2))
  go_ret2
  refine ⟨vf, rfl, ?_, XW4.out.below HB0.out ((Yp1.out.trans (Below.mono XS.out (Nat.le_trans HBW.out Yp1.out.size))).trans hb2)⟩
  rw [fullB, HREC.out]
  exact own_mono ho HB0.out
end Go.Proofs.YtkbmcebdhiiffaaDoor
