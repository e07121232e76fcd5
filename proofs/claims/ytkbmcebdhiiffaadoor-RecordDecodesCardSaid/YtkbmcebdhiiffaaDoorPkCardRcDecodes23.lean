/-
  The document's Decode of records: kind 6.
  The document's Decode of records, of any bytes; both Decodes in one form.
-/
import Derived.Test.YtkbmcebdhiiffaaDoorPkCardRcDecodes18
import Derived.Test.YtkbmcebdhiiffaaDoorPkCardRcDecodes19
import Derived.Test.YtkbmcebdhiiffaaDoorPkCardRcDecodes20
import Derived.Test.YtkbmcebdhiiffaaDoorPkCardRcDecodes21
import Derived.Test.YtkbmcebdhiiffaaDoorPkCardRcDecodes22
set_option linter.unusedVariables false
set_option linter.unusedSimpArgs false

namespace Go.Proofs.YtkbmcebdhiiffaaDoor
open Go.RowKit

set_option maxRecDepth 20000 in
set_option maxHeartbeats 6400000 in
theorem rdecode_6 (A : Option Addr) (l : List UInt8) (n c m : Nat) (w : World) (ht : Tab w) (hr : Rd w A l) (hn : l.length = n) (hnc : n ≤ c) (hl : n ≤ 140737488351232) (hm : n = m + 4) (hm1 : 1 ≤ m) (hs : atV l m 4 = crc (l.take m)) (hk : byteV l 0 = 6) :
    Calls Tryd.prog 15 #[.slice A n c] w (RefP w (refV l)) := by
  obtain ⟨x, hx0⟩ : ∃ x, l[0]? = some x := ⟨_, List.getElem?_eq_getElem (by omega)⟩
  obtain ⟨b, off, hA, hcl⟩ := hr (by intro h; rw [h] at hx0; cases hx0)
  subst hA
  have hcp : w.cell? ⟨b, off, none⟩ = some (.int .u8 6) := by
    have h := hcl 0 x hx0
    have e : (x.toNat : Int) = 6 := by
      have : byteV l 0 = x.toNat := by unfold byteV; rw [hx0]
      omega
    rw [e, Nat.add_zero] at h
    exact h
  have KCP := hide (fun (W : World) (hW : Ext w W) => (show W.cell? ⟨b, off, none⟩ = some (.int .u8 6) from hW.keeps.cell hcp))
  clear hcl hcp hx0
  have h5i : ¬ (n : Int) < 5 := by omega
  have hnI : (n : Int) ≤ 140737488351232 := by omega
  have hnm : (n : Int) - 4 = (m : Int) := by omega
  have hm0 : (0 : Int) ≤ (m : Int) := by omega
  have hmc : (m : Int) ≤ (c : Int) := by omega
  have hmcn : m ≤ c := by omega
  have hmn : (m : Int) ≤ (n : Int) := by omega
  have hnp : (0 : Int) < (n : Int) := by omega
  have hnpn : 0 < n := by omega
  obtain ⟨s, HSU⟩ : ∃ s, Hid (crc (l.take m) = s) := ⟨_, hide rfl⟩
  have HU : Hid (atV l m 4 = s) := hide (hs.trans HSU.out)
  have hs32 : (s : Int) < 4294967296 := by rw [← HSU.out]; unfold crc; omega
  have hs0 : (0 : Int) ≤ (s : Int) := by omega
  have hws : IntKind.u64.wrap (s : Int) = (s : Int) := by rw [IntKind.wrap_u64]; omega
  have KAT := hide (fun (W : World) (hW : Ext w W) (fi ki : Int) (f k : Nat) (hfi : fi = (f : Int)) (hki : ki = (k : Int)) (hf : f ≤ 140737488351232) (hk : k ≤ 8) => at_any (some ⟨b, off, none⟩) l n c f k fi ki W (hr.ext hW) hn hfi hki hf hk)
  have KCU := hide (fun (W : World) (hW : Ext w W) (fi ki : Int) (f k : Nat) (hfi : fi = (f : Int)) (hki : ki = (k : Int)) (hf : f ≤ 1000000) (hk : k ≤ 1000000) => cut_any (some ⟨b, off, none⟩) l n c f k fi ki w W hr hn hnc (by omega) hfi hki hf hk)
  have KSU := hide (fun (W : World) (hW : Ext w W) => (show Calls Tryd.prog 26 #[.slice (some ⟨b, off, none⟩) m c] W (Ret W (Is (.int .u32 (s : Int)))) from by
    have h := rsum_any (some ⟨b, off, none⟩) c (l.take m) W ((hr.take m).ext hW) (by rw [List.length_take]; omega)
    rw [HSU.out, show (l.take m).length = m from by rw [List.length_take]; omega] at h
    exact h))
  have KA4 := hide (fun (W : World) (hW : Ext w W) => (show Calls Tryd.prog 27 #[.slice (some ⟨b, off, none⟩) n c, .int .i64 (m : Int), .int .i64 4] W (fun e w' => e = .returned (.int .u64 (s : Int)) ∧ w' = W) from by rw [← HU.out]; exact KAT.out W hW _ _ m 4 rfl rfl (by omega) (by decide)))
  have HREF := hide (ref_tell l (by omega) (show atV l (l.length - 4) 4 = crc (l.take (l.length - 4)) from by rw [show l.length - 4 = m by omega]; exact hs))
  have HR := hide hr
  have HN := hide hn
  have HT := hide ht
  have HNC := hide hnc
  obtain ⟨tx, HTX⟩ : ∃ t, Hid (atV l 1 8 = t) := ⟨_, hide rfl⟩
  have KTX := hide (fun (W : World) (hW : Ext w W) => (show Calls Tryd.prog 27 #[.slice (some ⟨b, off, none⟩) n c, .int .i64 1, .int .i64 8] W (fun e w' => e = .returned (.int .u64 (tx : Int)) ∧ w' = W) from by rw [← HTX.out]; exact KAT.out W hW _ _ 1 8 rfl rfl (by decide) (by decide)))
  clear hr hn hnc ht hl hm hs
  go_enter Tryd.func15, Tryd.ntmps15
  go_upto_region 1 with fail
  obtain ⟨W1, hX1, hZ1, hgg⟩ : ∃ W1, Ext w W1 ∧ Rw W1 w.heap.size 26 [.int .u8 0, .int .u64 0, .int .u64 0, .int .i64 0, .int .i64 0, .slice none 0 0, .slice none 0 0, .int .u64 0, .slice none 0 0, .bool false] ∧ w.alloc (.cells #[.int .u8 0, .int .u64 0, .int .u64 0, .int .i64 0, .int .i64 0, .slice none 0 0, .slice none 0 0, .int .u64 0, .slice none 0 0, .bool false] 26) = W1 := ⟨_, Ext.alloc _ _, Rw.new _ _ _, rfl⟩
  rw [hgg]
  obtain ⟨hz, HHZ⟩ : ∃ hz, Hid (w.heap.size = hz) := ⟨_, hide rfl⟩
  rw [HHZ.out] at hZ1 ⊢
  have HZW : Hid (w.heap.size ≤ hz) := hide (by rw [HHZ.out]; exact Nat.le_refl _)
  have X1 := hide hX1
  have ZX1 := hide hZ1
  clear hgg hX1 hZ1
  have z0 := ZX1.out.cell (i := 0) rfl
  have z1 := ZX1.out.cell (i := 1) rfl
  have z2 := ZX1.out.cell (i := 2) rfl
  have z3 := ZX1.out.cell (i := 3) rfl
  have z4 := ZX1.out.cell (i := 4) rfl
  have z5 := ZX1.out.cell (i := 5) rfl
  have z6 := ZX1.out.cell (i := 6) rfl
  have z7 := ZX1.out.cell (i := 7) rfl
  have z8 := ZX1.out.cell (i := 8) rfl
  have z9 := ZX1.out.cell (i := 9) rfl
  have f0 := ZX1.out.frozen 0
  have f1 := ZX1.out.frozen 1
  have f2 := ZX1.out.frozen 2
  have f3 := ZX1.out.frozen 3
  have f4 := ZX1.out.frozen 4
  have f5 := ZX1.out.frozen 5
  have f6 := ZX1.out.frozen 6
  have f7 := ZX1.out.frozen 7
  have f8 := ZX1.out.frozen 8
  have f9 := ZX1.out.frozen 9
  go_upto_region 4 with fail
  go_cut [25] from 17 to 25 (fun v wx => v = .bool false ∧ Ext W1 wx)
  case first =>
    have XD := hide (X1.out.trans (Ext.drew _))
    go_region_law (first
      | (go_simp; go_at_call 27; refine (KA4.out _ XD.out).mono ?_; rintro e wa ⟨rfl, rfl⟩)
      | (go_simp; go_at_call 27; refine (KA4.out _ XS).mono ?_; rintro e wa ⟨rfl, rfl⟩)
      | (go_simp; go_at_call 26; refine (KSU.out _ XD.out).mono ?_; rintro e ws ⟨vs, rfl, hxs, rfl⟩; have XS : Ext w ws := XD.out.trans hxs; have X1s : Ext W1 ws := (Ext.drew W1).trans hxs))
    all_goals (go_wp2_with fail; go_meet; exact ⟨rfl, X1s⟩)
  case rest =>
    obtain ⟨hv25, hxs⟩ := hcut
    subst hv25
    have XSh := hide (X1.out.trans hxs)
    have ZXs := hide (ZX1.out.ext hxs)
    obtain ⟨ws, HWS⟩ : ∃ ws, ws = wc := ⟨_, rfl⟩
    subst HWS
    clear hxs X1 ZX1 KA4 KSU z0 f0 z1 f1 z2 f2 z3 f3 z4 f4 z5 f5 z6 f6 z7 f7 z8 f8 z9 f9
    clear hs32 hs0 hws
    go_upto_region 6 with fail
    go_cut [5] from 27 to 32 (fun p wx => p = .pointer (some ⟨ws.heap.size, 0, none⟩) ∧ wx = (ws.alloc (.cells #[.int .u8 6, .int .u64 (tx : Int), .int .u64 0, .int .i64 0, .int .i64 0, .slice none 0 0, .slice none 0 0, .int .u64 0, .slice none 0 0, .bool false] 26)).drew)
    case first =>
      have XD := hide (XSh.out.trans (Ext.drew ws))
      have XDA := hide (XSh.out.trans ((Ext.alloc ws (.cells #[.int .u8 0, .int .u64 0, .int .u64 0, .int .i64 0, .int .i64 0, .slice none 0 0, .slice none 0 0, .int .u64 0, .slice none 0 0, .bool false] 26)).trans (Ext.drew _)))
      have c6a := KCP.out _ XD.out
      have c6b := KCP.out _ (XSh.out.trans (Ext.alloc ws (.cells #[.int .u8 0, .int .u64 0, .int .u64 0, .int .i64 0, .int .i64 0, .slice none 0 0, .slice none 0 0, .int .u64 0, .slice none 0 0, .bool false] 26)))
      have A6 := Rw.new ws 26 [.int .u8 0, .int .u64 0, .int .u64 0, .int .i64 0, .int .i64 0, .slice none 0 0, .slice none 0 0, .int .u64 0, .slice none 0 0, .bool false]
      have z0 := A6.cell (i := 0) rfl
      have f0 := A6.frozen 0
      go_region_law (first
        | (go_simp; go_at_call 27; refine (KTX.out _ XD.out).mono ?_; rintro e wa ⟨rfl, rfl⟩)
        | (go_simp; go_at_call 27; refine (KTX.out _ XDA.out).mono ?_; rintro e wa ⟨rfl, rfl⟩))
      all_goals (go_wp2_with fail; go_meet; exact ⟨rfl, rfl⟩)
    case rest =>
    obtain ⟨hp6, hw6⟩ := hcut
    subst hp6 hw6
    obtain ⟨W6, hX6, hB6, hZ6, hgg⟩ : ∃ W, Ext w W ∧ Rw W ws.heap.size 26 [.int .u8 6, .int .u64 (tx : Int), .int .u64 0, .int .i64 0, .int .i64 0, .slice none 0 0, .slice none 0 0, .int .u64 0, .slice none 0 0, .bool false] ∧ Rw W hz 26 [.int .u8 0, .int .u64 0, .int .u64 0, .int .i64 0, .int .i64 0, .slice none 0 0, .slice none 0 0, .int .u64 0, .slice none 0 0, .bool false] ∧ (ws.alloc (.cells #[.int .u8 6, .int .u64 (tx : Int), .int .u64 0, .int .i64 0, .int .i64 0, .slice none 0 0, .slice none 0 0, .int .u64 0, .slice none 0 0, .bool false] 26)).drew = W := ⟨_, XSh.out.trans ((Ext.alloc _ _).trans (Ext.drew _)), (Rw.new _ _ _).ext (Ext.drew _), ZXs.out.ext ((Ext.alloc _ _).trans (Ext.drew _)), rfl⟩
    rw [hgg]
    obtain ⟨h, HHH⟩ : ∃ h, Hid (ws.heap.size = h) := ⟨_, hide rfl⟩
    rw [HHH.out] at hB6 ⊢
    have HH : Hid (w.heap.size ≤ h ∧ hz ≠ h ∧ w.heap.size ≤ hz) := hide (by have := XSh.out.size; have := ZXs.out.lt; have := HHH.out; have := HZW.out; omega)
    have X6 := hide hX6
    have B6 := hide hB6
    have Z6 := hide hZ6
    clear hgg hX6 hB6 hZ6 XSh ZXs KTX KCP HZW
    have cc := B6.out.cell (i := 0) rfl
    have KN := hide (KAT.out W6 X6.out (9 : Int) 8 (9) 8 rfl rfl (by decide) (by decide))
    obtain ⟨pv, H_pv⟩ : ∃ u, Hid (atV l (9) 8 = u) := ⟨_, hide rfl⟩
    rw [H_pv.out] at KN
    have ff := B6.out.frozen 2
    have cf := B6.out.cell (i := 2) rfl
    go_upto_region 9 with (go_at_call 27; (with_reducible refine KN.out.mono ?_); rintro e x ⟨rfl, hx⟩; have hx := hx.symm; subst hx)
    clear KN ff cf
    obtain ⟨W7, hgg, hX, hB, hZ⟩ : ∃ W, W6.setCell ⟨h, 2, none⟩ (.int .u64 (pv : Int)) = W ∧ Ext w W ∧ Rw W h 26 [.int .u8 6, .int .u64 (tx : Int), .int .u64 (pv : Int), .int .i64 0, .int .i64 0, .slice none 0 0, .slice none 0 0, .int .u64 0, .slice none 0 0, .bool false] ∧ Rw W hz 26 [.int .u8 0, .int .u64 0, .int .u64 0, .int .i64 0, .int .i64 0, .slice none 0 0, .slice none 0 0, .int .u64 0, .slice none 0 0, .bool false] := ⟨_, rfl, ext_set X6.out HH.out.1 _ _, B6.out.set 2 _, Z6.out.far (fun e => HH.out.2.1 e) _⟩
    rw [hgg]
    have X7 := hide hX
    have B7 := hide hB
    have Z7 := hide hZ
    clear hgg hX hB hZ cc
    have cc := B7.out.cell (i := 0) rfl
    have KN := hide (KAT.out W7 X7.out (17 : Int) 1 (17) 1 rfl rfl (by decide) (by decide))
    obtain ⟨q, H_q⟩ : ∃ u, Hid (atV l (17) 1 = u) := ⟨_, hide rfl⟩
    rw [H_q.out] at KN
    have bq : (q : Int) < 256 := by have h := atV_lt l (17) 1; rw [H_q.out] at h; omega
    have wq : IntKind.i64.wrap (q : Int) = (q : Int) := by rw [IntKind.wrap_i64]; omega
    go_upto_region 21 with (go_at_call 27; (with_reducible refine KN.out.mono ?_); rintro e x ⟨rfl, hx⟩; have hx := hx.symm; subst hx)
    clear KN
    have f9 := B7.out.frozen 9
    have c9 := B7.out.cell (i := 9) rfl
    go_upto_region 23 with fail
    obtain ⟨op, HOP⟩ : ∃ op, Hid (((q : Int) % 2 == 1) = op) := ⟨_, hide rfl⟩
    obtain ⟨mm, HMM⟩ : ∃ m : Nat, Hid (q / 2 = m) := ⟨_, hide rfl⟩
    have hq2 : (q : Int) / 2 = (mm : Int) := by have := HMM.out; omega
    rw [HOP.out]
    clear f9 c9
    obtain ⟨W8, hgg, hX, hB, hZ⟩ : ∃ W, W7.setCell ⟨h, 9, none⟩ (.bool op) = W ∧ Ext w W ∧ Rw W h 26 [.int .u8 6, .int .u64 (tx : Int), .int .u64 (pv : Int), .int .i64 0, .int .i64 0, .slice none 0 0, .slice none 0 0, .int .u64 0, .slice none 0 0, .bool op] ∧ Rw W hz 26 [.int .u8 0, .int .u64 0, .int .u64 0, .int .i64 0, .int .i64 0, .slice none 0 0, .slice none 0 0, .int .u64 0, .slice none 0 0, .bool false] := ⟨_, rfl, ext_set X7.out HH.out.1 _ _, B7.out.set 9 _, Z7.out.far (fun e => HH.out.2.1 e) _⟩
    rw [hgg]
    have X8 := hide hX
    have B8 := hide hB
    have Z8 := hide hZ
    clear hgg hX hB hZ cc
    have cc := B8.out.cell (i := 0) rfl
    obtain ⟨BB, HBB0⟩ : ∃ u, Hid (W8.heap.size = u) := ⟨_, hide rfl⟩
    have HBB : Hid (h < BB ∧ hz < BB ∧ w.heap.size ≤ BB) := hide (by rw [← HBB0.out]; exact ⟨B8.out.lt, Z8.out.lt, X8.out.size⟩)
    have hmb : (mm : Int) ≤ 127 := by have := HMM.out; omega
    have hmbn : mm ≤ 127 := by omega
    go_loopw [9] (fun iv wr => ∃ (i : Nat) (acc : List (Int × Int)) (v8 : Value), i ≤ mm ∧ iv = .int .i64 (i : Int) ∧ Hid ((List.range i).map (fun j => ((atV l (18 + 10 * j) 2 : Int), (atV l (20 + 10 * j) 8 : Int))) = acc) ∧ Hid (acc.length = i) ∧ Hid (Rw wr h 26 [.int .u8 6, .int .u64 (tx : Int), .int .u64 (pv : Int), .int .i64 0, .int .i64 0, .slice none 0 0, .slice none 0 0, .int .u64 0, v8, .bool op]) ∧ Hid (Rw wr hz 26 [.int .u8 0, .int .u64 0, .int .u64 0, .int .i64 0, .int .i64 0, .slice none 0 0, .slice none 0 0, .int .u64 0, .slice none 0 0, .bool false]) ∧ Hid (OwnD wr BB v8 acc) ∧ Hid (Ext w wr) ∧ Hid (BB ≤ wr.heap.size)) (fun iv _ => mm - (intOf iv).toNat)
    case atStart => exact ⟨0, [], .slice none 0 0, Nat.zero_le _, rfl, hide rfl, hide rfl, B8, Z8, hide (OwnD.nil _ _), X8, hide (by rw [HBB0.out]; exact Nat.le_refl _)⟩
    case round =>
      obtain ⟨i, acc, v8, hi, rfl, HAC, HAL, RWI, ZI, DI, XI, SI⟩ := hrel
      clear B8 Z8 cc
      by_cases hlt : i < mm
      · have hii : (i : Int) < (mm : Int) := by omega
        have hi0 : (0 : Int) ≤ (i : Int) := by omega
        have hib : (i : Int) ≤ 127 := by omega
        go_upto_region 25 with fail
        obtain ⟨A8, cc8, hv8, -, -⟩ := DI.out.slice
        rw [HAL.out] at hv8
        subst hv8
        obtain ⟨wr, HWR⟩ := worldOf XI
        subst HWR
        obtain ⟨y, HY⟩ : ∃ y, Hid (atV l (18 + 10 * i) 2 = y) := ⟨_, hide rfl⟩
        obtain ⟨z, HZ⟩ : ∃ y, Hid (atV l (20 + 10 * i) 8 = y) := ⟨_, hide rfl⟩
        have hyb : (y : Int) < 65536 := by have h := atV_lt l (18 + 10 * i) 2; rw [HY.out] at h; omega
        have hwy : IntKind.i64.wrap (y : Int) = (y : Int) := by rw [IntKind.wrap_i64]; omega
        have hw10 : IntKind.i64.wrap (10 * (i : Int)) = 10 * (i : Int) := by rw [IntKind.wrap_i64]; omega
        have hw18 : IntKind.i64.wrap (18 + 10 * (i : Int)) = 18 + 10 * (i : Int) := by rw [IntKind.wrap_i64]; omega
        have hw20 : IntKind.i64.wrap (20 + 10 * (i : Int)) = 20 + 10 * (i : Int) := by rw [IntKind.wrap_i64]; omega
        have KN2 := hide (KAT.out wr.drew (XI.out.trans (Ext.drew _)) ((18 : Int) + 10 * (i : Int)) 2 (18 + 10 * i) 2 (by push_cast; rfl) rfl (by omega) (by decide))
        have KN8 := hide (KAT.out wr.drew (XI.out.trans (Ext.drew _)) ((20 : Int) + 10 * (i : Int)) 8 (20 + 10 * i) 8 (by push_cast; rfl) rfl (by omega) (by decide))
        rw [HY.out] at KN2
        rw [HZ.out] at KN8
        have RWd := hide (RWI.out.ext (Ext.drew _))
        have f8 := RWd.out.frozen 8
        have c8 := RWd.out.cell (i := 8) rfl
        have D5 := DI.out.same (w' := wr.drew) (fun b hb => rfl)
        have c8d := (RWd.out.ext (Ext.alloc wr.drew (.cells #[.int .i64 (y : Int), .int .u64 (z : Int)] 47))).cell (i := 8) rfl
        have c8e := (RWI.out.ext (Ext.alloc wr (.cells #[.int .i64 (y : Int), .int .u64 (z : Int)] 47))).cell (i := 8) rfl
        obtain ⟨A9, cc9, w9, hrun, ho9, hg9⟩ := append_dr (W := wr.drew) ((y : Int), (z : Int)) D5 (by rw [HAL.out]; omega) (Nat.le_trans SI.out (Nat.le_refl _)) 24
        have Xa : Ext wr (wr.drew.alloc (.cells #[.int .i64 (y : Int), .int .u64 (z : Int)] 47)) := (Ext.drew wr).trans (Ext.alloc _ _)
        have RW9 : Rw w9 h 26 [.int .u8 6, .int .u64 (tx : Int), .int .u64 (pv : Int), .int .i64 0, .int .i64 0, .slice none 0 0, .slice none 0 0, .int .u64 0, .slice A8 i cc8, .bool op] := (hg9.block h (RWI.out.ext Xa).lt (fun e => by have := (D5.at h e.symm).1; have := HBB.out; omega)).trans (RWI.out.ext Xa)
        have Z9 : Rw w9 hz 26 [.int .u8 0, .int .u64 0, .int .u64 0, .int .i64 0, .int .i64 0, .slice none 0 0, .slice none 0 0, .int .u64 0, .slice none 0 0, .bool false] := (hg9.block hz (ZI.out.ext Xa).lt (fun e => by have := (D5.at hz e.symm).1; have := HBB.out; omega)).trans (ZI.out.ext Xa)
        have X9 : Ext w w9 := ext_grown (XI.out.trans Xa) hg9 (fun b e => by have := (D5.at b e).1; have := HBB.out; omega)
        have c8c := RW9.cell (i := 8) rfl
        have f8c := RW9.frozen 8
        go_region_law (first
          | (go_simp; go_at_call 27; (with_reducible refine KN2.out.mono ?_); rintro e x ⟨rfl, rfl⟩)
          | (go_simp; go_at_call 27; (with_reducible refine KN8.out.mono ?_); rintro e x ⟨rfl, rfl⟩)
          | (refine step_gives (gives_append (s := .tmp 94) (x := .tmp 107) rfl (by rfl) (by rfl) hrun ⟨rfl, rfl⟩) rfl ?_))
        all_goals
          obtain ⟨wx, hwx⟩ : ∃ wx, w9.setCell ⟨h, 8, none⟩ (.slice A9 (acc.length + 1) cc9) = wx := ⟨_, rfl⟩
          have XX : Hid (Ext w wx) := hide (by rw [← hwx]; exact ext_set X9 HH.out.1 _ _)
          have BX : Hid (Rw wx h 26 [.int .u8 6, .int .u64 (tx : Int), .int .u64 (pv : Int), .int .i64 0, .int .i64 0, .slice none 0 0, .slice none 0 0, .int .u64 0, .slice A9 (acc.length + 1) cc9, .bool op]) := hide (by rw [← hwx]; exact RW9.set 8 _)
          have ZX : Hid (Rw wx hz 26 [.int .u8 0, .int .u64 0, .int .u64 0, .int .i64 0, .int .i64 0, .slice none 0 0, .slice none 0 0, .int .u64 0, .slice none 0 0, .bool false]) := hide (by rw [← hwx]; exact Z9.far (fun e => HH.out.2.1 e) _)
          have DX : Hid (OwnD wx BB (.slice A9 (acc.length + 1) cc9) (acc ++ [((y : Int), (z : Int))])) := hide (ho9.same (fun b hb => by rw [← hwx]; exact Below.heap_setCell w9 ⟨h, 8, none⟩ _ b (fun e => by have := (ho9.at b hb).1; have := HBB.out.1; simp only at e; omega)))
          have SX : Hid (BB ≤ wx.heap.size) := hide (by rw [← hwx]; exact Nat.le_trans (Nat.le_trans SI.out (Nat.le_trans Xa.size hg9.size)) (by simp [World.setCell]))
          have HAX : Hid ((List.range (i + 1)).map (fun j => ((atV l (18 + 10 * j) 2 : Int), (atV l (20 + 10 * j) 8 : Int))) = acc ++ [((y : Int), (z : Int))]) := hide (by rw [List.range_succ, List.map_append, HAC.out, List.map_cons, List.map_nil, HY.out, HZ.out])
          rw [hwx]
          clear hwx X9 RW9 Z9 ho9 hg9 hrun D5 c8 c8c c8d c8e f8 f8c KN2 KN8
          go_wp2
          exact ⟨⟨i + 1, acc ++ [((y : Int), (z : Int))], _, by omega, by go_num, HAX, hide (by rw [List.length_append, HAL.out]; rfl), BX, ZX, DX, XX, SX⟩, by simp [intOf]; omega⟩
      · have hii : ¬ (i : Int) < (mm : Int) := by omega
        obtain rfl : i = mm := by omega
        obtain ⟨A8, cc8, hv8, -, -⟩ := DI.out.slice
        rw [HAL.out] at hv8
        subst hv8
        obtain ⟨W9, HWR⟩ := worldOf XI
        subst HWR
        have X9 := XI
        have B9 : Hid (Rw W9 h 26 [.int .u8 6, .int .u64 (tx : Int), .int .u64 (pv : Int), .int .i64 0, .int .i64 0, .slice none 0 0, .slice none 0 0, .int .u64 0, .slice A8 i cc8, .bool op]) := RWI
        have Z9 := ZI
        have D9 := DI
        have HOP2 : Hid (decide (q % 2 = 1) = op) := hide (by
          rw [← HOP.out]
          by_cases h : q % 2 = 1
          · have h2 : (q : Int) % 2 = 1 := by omega
            simp [h, h2]
          · have h2 : ¬ (q : Int) % 2 = 1 := by omega
            simp [h, h2])
        clear XI RWI ZI DI SI
        have cc := B9.out.cell (i := 0) rfl
        obtain ⟨fm, HFM⟩ : ∃ u, Hid (formN 6 (pv : Int) 0 0 0 0 0 i acc op = u) := ⟨_, hide rfl⟩
        obtain ⟨FL, HFL⟩ : ∃ u, Hid (fullB 6 (tx : Int) (pv : Int) 0 0 0 [] [] acc op = u) := ⟨_, hide rfl⟩
        have HC : Hid (candV l = (⟨6, (tx : Int), (pv : Int), 0, 0, [], [], 0, acc, op⟩ : Rec)) := hide (by rw [cand_k6 l hk, H_pv.out, HTX.out, H_q.out, HMM.out, HAC.out, HOP2.out])
        have HV : Hid (refV l = if fm = true ∧ FL = l then (0, some (⟨6, (tx : Int), (pv : Int), 0, 0, [], [], 0, acc, op⟩ : Rec)) else (3, none)) := hide (by
          rw [HREF.out, HC.out, ← HFM.out, ← HFL.out]
          show (if formN _ _ _ _ _ _ _ _ _ _ = true ∧ fullB _ _ _ _ _ _ _ _ _ _ = l then _ else _) = _
          rw [HAL.out]
          try rfl)
        have Nu : Hid (Nums (⟨6, (tx : Int), (pv : Int), 0, 0, [], [], 0, acc, op⟩ : Rec)) := hide (by rw [← HC.out]; exact cand_nums l)
        have KF := hide (fun (W : World) (hW : Ext W9 W) => (show Calls Tryd.prog 10 #[.agg #[.int .u8 6, .int .u64 (tx : Int), .int .u64 (pv : Int), .int .i64 0, .int .i64 0, .slice none 0 0, .slice none 0 0, .int .u64 0, .slice A8 i cc8, .bool op]] W (RetB W fm) from by rw [← HFM.out]; exact rform_any 6 (tx : Int) (pv : Int) 0 0 0 none none A8 0 _ 0 _ i _ op W acc ((ownD_rdE D9.out).ext hW) (HAL.out) (by omega) (by omega) (by omega) (by omega) (by omega)))
        have KE := hide (fun (hf : fm = true) (W : World) (hW : Ext W9 W) => (show Calls Tryd.prog 13 #[.agg #[.int .u8 6, .int .u64 (tx : Int), .int .u64 (pv : Int), .int .i64 0, .int .i64 0, .slice none 0 0, .slice none 0 0, .int .u64 0, .slice A8 i cc8, .bool op]] W (fun e w' => ∃ v', e = .returned v' ∧ Own w' W.heap.size v' FL ∧ Ext W w') from by rw [← HFL.out]; rw [← HFM.out] at hf; exact rencode_yes 6 (tx : Int) (pv : Int) 0 0 0 none none A8 0 _ 0 _ i _ op W [] [] acc (HT.out.ext (X9.out.trans hW)) (rd_nil_any _ _ rfl) (rd_nil_any _ _ rfl) ((ownD_rdE D9.out).ext hW) (rfl) (rfl) (HAL.out) (by omega) (by omega) (by omega) (by omega) (by omega) Nu.out.tx.1 Nu.out.tx.2 Nu.out.pv.1 Nu.out.pv.2 Nu.out.nx.1 Nu.out.nx.2 Nu.out.dl hf))
        clear KAT KCU HREF HC Nu
        go_upto_region 26 with fail
        clear cc
        have hok : FL = l ∧ fm = true ∨ ¬ (fm = true ∧ FL = l) := by cases fm <;> by_cases h : FL = l <;> simp [h]
        cases hfm : fm with
        | false =>
          rw [hfm] at KF HV
          clear KE hok
          go_cut [120] from 110 to 120 (fun v wx => v = .bool true ∧ Ext W9 wx)
          case first =>
            have Bd := hide (B9.out.ext (Ext.drew _))
            have d0 := Bd.out.cell (i := 0) rfl
            have d1 := Bd.out.cell (i := 1) rfl
            have d2 := Bd.out.cell (i := 2) rfl
            have d3 := Bd.out.cell (i := 3) rfl
            have d4 := Bd.out.cell (i := 4) rfl
            have d5 := Bd.out.cell (i := 5) rfl
            have d6 := Bd.out.cell (i := 6) rfl
            have d7 := Bd.out.cell (i := 7) rfl
            have d8 := Bd.out.cell (i := 8) rfl
            have d9 := Bd.out.cell (i := 9) rfl
            first | go_region_law (first
              | (go_simp; go_at_call 10; refine (KF.out _ (Ext.drew _)).mono ?_; rintro e w4 ⟨rfl, hx4⟩; have X4 : Ext W9 w4 := (Ext.drew _).trans hx4; have B4 := B9.out.ext X4; have e0 := B4.cell (i := 0) rfl; have e1 := B4.cell (i := 1) rfl; have e2 := B4.cell (i := 2) rfl; have e3 := B4.cell (i := 3) rfl; have e4 := B4.cell (i := 4) rfl; have e5 := B4.cell (i := 5) rfl; have e6 := B4.cell (i := 6) rfl; have e7 := B4.cell (i := 7) rfl; have e8 := B4.cell (i := 8) rfl; have e9 := B4.cell (i := 9) rfl)) | fail
            all_goals (go_wp2_with fail; go_meet; exact ⟨rfl, X4⟩)
          case rest =>
            obtain ⟨hv, hxs⟩ := hcut
            subst hv
            have HE := hide (show refV l = (3, none) from by rw [HV.out]; rfl)
            have XW := hide (X9.out.trans hxs)
            have Zx := hide (Z9.out.ext hxs)
            obtain ⟨wx, HWX⟩ : ∃ W, W = wc := ⟨_, rfl⟩
            subst HWX
            clear hxs
            have z0 := Zx.out.cell (i := 0) rfl
            have z1 := Zx.out.cell (i := 1) rfl
            have z2 := Zx.out.cell (i := 2) rfl
            have z3 := Zx.out.cell (i := 3) rfl
            have z4 := Zx.out.cell (i := 4) rfl
            have z5 := Zx.out.cell (i := 5) rfl
            have z6 := Zx.out.cell (i := 6) rfl
            have z7 := Zx.out.cell (i := 7) rfl
            have z8 := Zx.out.cell (i := 8) rfl
            have z9 := Zx.out.cell (i := 9) rfl
            have f0 := Zx.out.frozen 0
            have f1 := Zx.out.frozen 1
            have f2 := Zx.out.frozen 2
            have f3 := Zx.out.frozen 3
            have f4 := Zx.out.frozen 4
            have f5 := Zx.out.frozen 5
            have f6 := Zx.out.frozen 6
            have f7 := Zx.out.frozen 7
            have f8 := Zx.out.frozen 8
            have f9 := Zx.out.frozen 9
            go_wp2
            have ZZ := ((((((((((Zx.out.set 0 (.int .u8 0)).set 1 (.int .u64 0)).set 2 (.int .u64 0)).set 3 (.int .i64 0)).set 4 (.int .i64 0)).set 5 (.slice none 0 0)).set 6 (.slice none 0 0)).set 7 (.int .u64 0)).set 8 (.slice none 0 0)).set 9 (.bool false))
            have HS10 := sets_only hz [(0, .int .u8 0), (1, .int .u64 0), (2, .int .u64 0), (3, .int .i64 0), (4, .int .i64 0), (5, .slice none 0 0), (6, .slice none 0 0), (7, .int .u64 0), (8, .slice none 0 0), (9, .bool false)] wx
            simp only [List.foldl_cons, List.foldl_nil] at HS10
            obtain ⟨wz, hwz⟩ : ∃ wz, ((((((((((wx).setCell ⟨hz, 0, none⟩ (.int .u8 0)).setCell ⟨hz, 1, none⟩ (.int .u64 0)).setCell ⟨hz, 2, none⟩ (.int .u64 0)).setCell ⟨hz, 3, none⟩ (.int .i64 0)).setCell ⟨hz, 4, none⟩ (.int .i64 0)).setCell ⟨hz, 5, none⟩ (.slice none 0 0)).setCell ⟨hz, 6, none⟩ (.slice none 0 0)).setCell ⟨hz, 7, none⟩ (.int .u64 0)).setCell ⟨hz, 8, none⟩ (.slice none 0 0)).setCell ⟨hz, 9, none⟩ (.bool false) = wz := ⟨_, rfl⟩
            rw [hwz] at HS10 ZZ ⊢
            obtain ⟨q1, q2, q3, q4, hsame⟩ := HS10
            clear hwz
            have e0 := ZZ.cell (i := 0) rfl
            have e1 := ZZ.cell (i := 1) rfl
            have e2 := ZZ.cell (i := 2) rfl
            have e3 := ZZ.cell (i := 3) rfl
            have e4 := ZZ.cell (i := 4) rfl
            have e5 := ZZ.cell (i := 5) rfl
            have e6 := ZZ.cell (i := 6) rfl
            have e7 := ZZ.cell (i := 7) rfl
            have e8 := ZZ.cell (i := 8) rfl
            have e9 := ZZ.cell (i := 9) rfl
            have XZ : Ext w wz := ⟨q1.trans XW.out.os, q2.trans XW.out.tape, q3.trans XW.out.output, Nat.le_trans XW.out.size (Nat.le_of_eq q4.symm), fun b hb => (hsame b (by have := HH.out.2.2; omega)).trans (XW.out.block b hb)⟩
            refine bodyPost_ret (v := .tuple #[.agg #[.int .u8 0, .int .u64 0, .int .u64 0, .int .i64 0, .int .i64 0, .slice none 0 0, .slice none 0 0, .int .u64 0, .slice none 0 0, .bool false], .int .i64 3]) (by simp [results, Tryd.results15, go_sem, e0, e1, e2, e3, e4, e5, e6, e7, e8, e9]; try rfl) rfl ?_
            show RefP w (refV l) _ _
            rw [HE.out]
            exact ⟨XZ, rfl⟩
        | true =>
          rw [hfm] at KF HV
          have KE1 := hide (KE.out hfm)
          clear KE hok
          obtain ⟨NL, HNL⟩ : ∃ u, Hid (FL.length = u) := ⟨_, hide rfl⟩
          go_cut [120] from 110 to 120 (fun v wx => v = .bool (!(FL == l)) ∧ Ext W9 wx)
          case first =>
            have Bd := hide (B9.out.ext (Ext.drew _))
            have d0 := Bd.out.cell (i := 0) rfl
            have d1 := Bd.out.cell (i := 1) rfl
            have d2 := Bd.out.cell (i := 2) rfl
            have d3 := Bd.out.cell (i := 3) rfl
            have d4 := Bd.out.cell (i := 4) rfl
            have d5 := Bd.out.cell (i := 5) rfl
            have d6 := Bd.out.cell (i := 6) rfl
            have d7 := Bd.out.cell (i := 7) rfl
            have d8 := Bd.out.cell (i := 8) rfl
            have d9 := Bd.out.cell (i := 9) rfl
            have hs0 := bytes_of (HR.out.ext (X9.out.trans (Ext.drew _))) HN.out HNC.out
            have hs1 := str_of hs0
            go_region_law (first
              | (go_simp; go_at_call 10; refine (KF.out _ (Ext.drew _)).mono ?_; rintro e w4 ⟨rfl, hx4⟩; have X4 : Ext W9 w4 := (Ext.drew _).trans hx4; have B4 := B9.out.ext X4; have e0 := B4.cell (i := 0) rfl; have e1 := B4.cell (i := 1) rfl; have e2 := B4.cell (i := 2) rfl; have e3 := B4.cell (i := 3) rfl; have e4 := B4.cell (i := 4) rfl; have e5 := B4.cell (i := 5) rfl; have e6 := B4.cell (i := 6) rfl; have e7 := B4.cell (i := 7) rfl; have e8 := B4.cell (i := 8) rfl; have e9 := B4.cell (i := 9) rfl; have hs1b := str_of (bytes_of (HR.out.ext (X9.out.trans X4)) HN.out HNC.out))
              | (go_simp; go_at_call 13; refine (KE1.out _ X4).mono ?_; rintro e w5 ⟨v5, rfl, ho5, hx5⟩; obtain ⟨AP, cp, hv5, hcp, hrp⟩ := ho5.bytes; rw [HNL.out] at hv5 hcp; subst hv5; have X5 : Ext W9 w5 := X4.trans hx5; have hs2 := str_of (bytes_of hrp HNL.out hcp); have hs1c := str_of (bytes_of (HR.out.ext (X9.out.trans X5)) HN.out HNC.out)))
            all_goals (go_wp2_with fail; go_meet; exact ⟨rfl, X5⟩)
          case rest =>
            obtain ⟨hv, hxs⟩ := hcut
            by_cases hfl : FL = l
            · have HE := hide (show refV l = (0, some (⟨6, (tx : Int), (pv : Int), 0, 0, [], [], 0, acc, op⟩ : Rec)) from by rw [HV.out, if_pos ⟨rfl, hfl⟩])
              have hb : (!(FL == l)) = false := by simp [hfl]
              rw [hb] at hv
              subst hv
              have XW := hide (X9.out.trans hxs)
              have Zx := hide (Z9.out.ext hxs)
              have Bx := hide (B9.out.ext hxs)
              have XI := hide hxs
              obtain ⟨wx, HWX⟩ : ∃ W, W = wc := ⟨_, rfl⟩
              subst HWX
              clear hxs
              have z0 := Zx.out.cell (i := 0) rfl
              have z1 := Zx.out.cell (i := 1) rfl
              have z2 := Zx.out.cell (i := 2) rfl
              have z3 := Zx.out.cell (i := 3) rfl
              have z4 := Zx.out.cell (i := 4) rfl
              have z5 := Zx.out.cell (i := 5) rfl
              have z6 := Zx.out.cell (i := 6) rfl
              have z7 := Zx.out.cell (i := 7) rfl
              have z8 := Zx.out.cell (i := 8) rfl
              have z9 := Zx.out.cell (i := 9) rfl
              have f0 := Zx.out.frozen 0
              have f1 := Zx.out.frozen 1
              have f2 := Zx.out.frozen 2
              have f3 := Zx.out.frozen 3
              have f4 := Zx.out.frozen 4
              have f5 := Zx.out.frozen 5
              have f6 := Zx.out.frozen 6
              have f7 := Zx.out.frozen 7
              have f8 := Zx.out.frozen 8
              have f9 := Zx.out.frozen 9
              have g0 := Bx.out.cell (i := 0) rfl
              have g1 := Bx.out.cell (i := 1) rfl
              have g2 := Bx.out.cell (i := 2) rfl
              have g3 := Bx.out.cell (i := 3) rfl
              have g4 := Bx.out.cell (i := 4) rfl
              have g5 := Bx.out.cell (i := 5) rfl
              have g6 := Bx.out.cell (i := 6) rfl
              have g7 := Bx.out.cell (i := 7) rfl
              have g8 := Bx.out.cell (i := 8) rfl
              have g9 := Bx.out.cell (i := 9) rfl
              go_wp2
              have ZZ := ((((((((((Zx.out.set 0 (.int .u8 6)).set 1 (.int .u64 (tx : Int))).set 2 (.int .u64 (pv : Int))).set 3 (.int .i64 0)).set 4 (.int .i64 0)).set 5 (.slice none 0 0)).set 6 (.slice none 0 0)).set 7 (.int .u64 0)).set 8 (.slice A8 i cc8)).set 9 (.bool op))
              have HS10 := sets_only hz [(0, .int .u8 6), (1, .int .u64 (tx : Int)), (2, .int .u64 (pv : Int)), (3, .int .i64 0), (4, .int .i64 0), (5, .slice none 0 0), (6, .slice none 0 0), (7, .int .u64 0), (8, .slice A8 i cc8), (9, .bool op)] wx
              simp only [List.foldl_cons, List.foldl_nil] at HS10
              obtain ⟨wz, hwz⟩ : ∃ wz, ((((((((((wx).setCell ⟨hz, 0, none⟩ (.int .u8 6)).setCell ⟨hz, 1, none⟩ (.int .u64 (tx : Int))).setCell ⟨hz, 2, none⟩ (.int .u64 (pv : Int))).setCell ⟨hz, 3, none⟩ (.int .i64 0)).setCell ⟨hz, 4, none⟩ (.int .i64 0)).setCell ⟨hz, 5, none⟩ (.slice none 0 0)).setCell ⟨hz, 6, none⟩ (.slice none 0 0)).setCell ⟨hz, 7, none⟩ (.int .u64 0)).setCell ⟨hz, 8, none⟩ (.slice A8 i cc8)).setCell ⟨hz, 9, none⟩ (.bool op) = wz := ⟨_, rfl⟩
              rw [hwz] at HS10 ZZ ⊢
              obtain ⟨q1, q2, q3, q4, hsame⟩ := HS10
              clear hwz
              have e0 := ZZ.cell (i := 0) rfl
              have e1 := ZZ.cell (i := 1) rfl
              have e2 := ZZ.cell (i := 2) rfl
              have e3 := ZZ.cell (i := 3) rfl
              have e4 := ZZ.cell (i := 4) rfl
              have e5 := ZZ.cell (i := 5) rfl
              have e6 := ZZ.cell (i := 6) rfl
              have e7 := ZZ.cell (i := 7) rfl
              have e8 := ZZ.cell (i := 8) rfl
              have e9 := ZZ.cell (i := 9) rfl
              have XZ : Ext w wz := ⟨q1.trans XW.out.os, q2.trans XW.out.tape, q3.trans XW.out.output, Nat.le_trans XW.out.size (Nat.le_of_eq q4.symm), fun b hb => (hsame b (by have := HH.out.2.2; omega)).trans (XW.out.block b hb)⟩
              refine bodyPost_ret (v := .tuple #[.agg #[.int .u8 6, .int .u64 (tx : Int), .int .u64 (pv : Int), .int .i64 0, .int .i64 0, .slice none 0 0, .slice none 0 0, .int .u64 0, .slice A8 i cc8, .bool op], .int .i64 0]) (by simp [results, Tryd.results15, go_sem, e0, e1, e2, e3, e4, e5, e6, e7, e8, e9]; try rfl) rfl ?_
              show RefP w (refV l) _ _
              rw [HE.out]
              refine ⟨XZ, none, none, A8, 0, 0, cc8, ?_, ?_, ?_, ?_⟩
              · show _ = Ending.returned (.tuple #[.agg #[_, _, _, _, _, .slice _ (List.length _) _, .slice _ (List.length _) _, _, .slice _ (List.length _) _, _], _])
                rw [HAL.out]
                rfl
              · exact rd_nil_any _ _ rfl
              · exact rd_nil_any _ _ rfl
              · exact ownD_rdE (D9.out.same (fun b hb => (hsame b (by have := (D9.out.at b hb).1; have := HBB.out.2.1; omega)).trans (XI.out.block b (D9.out.at b hb).2)))
            · have HE := hide (show refV l = (3, none) from by rw [HV.out, if_neg (fun h => hfl h.2)])
              have hb : (!(FL == l)) = true := by simp [hfl]
              rw [hb] at hv
              subst hv
              have XW := hide (X9.out.trans hxs)
              have Zx := hide (Z9.out.ext hxs)
              obtain ⟨wx, HWX⟩ : ∃ W, W = wc := ⟨_, rfl⟩
              subst HWX
              clear hxs
              have z0 := Zx.out.cell (i := 0) rfl
              have z1 := Zx.out.cell (i := 1) rfl
              have z2 := Zx.out.cell (i := 2) rfl
              have z3 := Zx.out.cell (i := 3) rfl
              have z4 := Zx.out.cell (i := 4) rfl
              have z5 := Zx.out.cell (i := 5) rfl
              have z6 := Zx.out.cell (i := 6) rfl
              have z7 := Zx.out.cell (i := 7) rfl
              have z8 := Zx.out.cell (i := 8) rfl
              have z9 := Zx.out.cell (i := 9) rfl
              have f0 := Zx.out.frozen 0
              have f1 := Zx.out.frozen 1
              have f2 := Zx.out.frozen 2
              have f3 := Zx.out.frozen 3
              have f4 := Zx.out.frozen 4
              have f5 := Zx.out.frozen 5
              have f6 := Zx.out.frozen 6
              have f7 := Zx.out.frozen 7
              have f8 := Zx.out.frozen 8
              have f9 := Zx.out.frozen 9
              go_wp2
              have ZZ := ((((((((((Zx.out.set 0 (.int .u8 0)).set 1 (.int .u64 0)).set 2 (.int .u64 0)).set 3 (.int .i64 0)).set 4 (.int .i64 0)).set 5 (.slice none 0 0)).set 6 (.slice none 0 0)).set 7 (.int .u64 0)).set 8 (.slice none 0 0)).set 9 (.bool false))
              have HS10 := sets_only hz [(0, .int .u8 0), (1, .int .u64 0), (2, .int .u64 0), (3, .int .i64 0), (4, .int .i64 0), (5, .slice none 0 0), (6, .slice none 0 0), (7, .int .u64 0), (8, .slice none 0 0), (9, .bool false)] wx
              simp only [List.foldl_cons, List.foldl_nil] at HS10
              obtain ⟨wz, hwz⟩ : ∃ wz, ((((((((((wx).setCell ⟨hz, 0, none⟩ (.int .u8 0)).setCell ⟨hz, 1, none⟩ (.int .u64 0)).setCell ⟨hz, 2, none⟩ (.int .u64 0)).setCell ⟨hz, 3, none⟩ (.int .i64 0)).setCell ⟨hz, 4, none⟩ (.int .i64 0)).setCell ⟨hz, 5, none⟩ (.slice none 0 0)).setCell ⟨hz, 6, none⟩ (.slice none 0 0)).setCell ⟨hz, 7, none⟩ (.int .u64 0)).setCell ⟨hz, 8, none⟩ (.slice none 0 0)).setCell ⟨hz, 9, none⟩ (.bool false) = wz := ⟨_, rfl⟩
              rw [hwz] at HS10 ZZ ⊢
              obtain ⟨q1, q2, q3, q4, hsame⟩ := HS10
              clear hwz
              have e0 := ZZ.cell (i := 0) rfl
              have e1 := ZZ.cell (i := 1) rfl
              have e2 := ZZ.cell (i := 2) rfl
              have e3 := ZZ.cell (i := 3) rfl
              have e4 := ZZ.cell (i := 4) rfl
              have e5 := ZZ.cell (i := 5) rfl
              have e6 := ZZ.cell (i := 6) rfl
              have e7 := ZZ.cell (i := 7) rfl
              have e8 := ZZ.cell (i := 8) rfl
              have e9 := ZZ.cell (i := 9) rfl
              have XZ : Ext w wz := ⟨q1.trans XW.out.os, q2.trans XW.out.tape, q3.trans XW.out.output, Nat.le_trans XW.out.size (Nat.le_of_eq q4.symm), fun b hb => (hsame b (by have := HH.out.2.2; omega)).trans (XW.out.block b hb)⟩
              refine bodyPost_ret (v := .tuple #[.agg #[.int .u8 0, .int .u64 0, .int .u64 0, .int .i64 0, .int .i64 0, .slice none 0 0, .slice none 0 0, .int .u64 0, .slice none 0 0, .bool false], .int .i64 3]) (by simp [results, Tryd.results15, go_sem, e0, e1, e2, e3, e4, e5, e6, e7, e8, e9]; try rfl) rfl ?_
              show RefP w (refV l) _ _
              rw [HE.out]
              exact ⟨XZ, rfl⟩
end Go.Proofs.YtkbmcebdhiiffaaDoor
namespace Go.Proofs.YtkbmcebdhiiffaaDoor
open Go.RowKit

theorem refP_no {w w' : World} {x : Int × Option Rec} {n : Int} {e : Ending} (h : RefNo w n e w') (hx : x = (n, none)) : RefP w x e w' := by
  subst hx
  exact h
theorem rdecode_any (A : Option Addr) (l : List UInt8) (n c : Nat) (w : World) (ht : Tab w) (hr : Rd w A l) (hn : l.length = n) (hnc : n ≤ c) (hl : n ≤ 140737488351232) :
    Calls Tryd.prog 15 #[.slice A n c] w (RefP w (refV l)) := by
  by_cases h5 : n < 5
  · exact (rdecode_short A n c w h5).mono fun e w' h => refP_no h (by unfold refV; rw [if_pos (by rw [hn]; exact h5)])
  · by_cases hs : atV l (n - 4) 4 = crc (l.take (n - 4))
    · by_cases h1 : byteV l 0 = 1
      · exact rdecode_1 A l n c (n - 4) w ht hr hn hnc hl (by omega) (by omega) hs h1
      by_cases h2 : byteV l 0 = 2
      · exact rdecode_2 A l n c (n - 4) w ht hr hn hnc hl (by omega) (by omega) hs h2
      by_cases h3 : byteV l 0 = 3
      · exact rdecode_3 A l n c (n - 4) w ht hr hn hnc hl (by omega) (by omega) hs h3
      by_cases h6 : byteV l 0 = 6
      · exact rdecode_6 A l n c (n - 4) w ht hr hn hnc hl (by omega) (by omega) hs h6
      exact rdecode_o A l n c (n - 4) w ht hr hn hnc hl (by omega) (by omega) hs h1 h2 h3 h6
    · exact (rdecode_sum A l n c (n - 4) w hr hn hnc hl (by omega) (by omega) hs).mono fun e w' h => refP_no h (by
        unfold refV
        rw [if_neg (by rw [hn]; exact h5), if_pos (by rw [hn]; exact hs)])
/-- What is told of some bytes: a record, all noughts where there is none, and the code. -/
def flatV (x : Int × Option Rec) : Int × Rec := match x.2 with
  | none => (x.1, ⟨0, 0, 0, 0, 0, [], [], 0, [], false⟩)
  | some r => (0, r)
def TellP (w : World) (x : Int × Rec) (e : Ending) (w' : World) : Prop := Ext w w' ∧ ∃ A5 A6 A8 c5 c6 c8, e = .returned (.tuple #[.agg #[.int .u8 x.2.k, .int .u64 x.2.tx, .int .u64 x.2.pv, .int .i64 x.2.pg, .int .i64 x.2.off, .slice A5 x.2.bf.length c5, .slice A6 x.2.af.length c6, .int .u64 x.2.nx, .slice A8 x.2.dl.length c8, .bool x.2.op], .int .i64 x.1]) ∧ Rd w' A5 x.2.bf ∧ Rd w' A6 x.2.af ∧ RdD w' A8 x.2.dl
theorem tell_ref {w w' : World} {x : Int × Option Rec} {e : Ending} (h : RefP w x e w') : TellP w (flatV x) e w' := by
  obtain ⟨n, o⟩ := x
  obtain ⟨hx, h⟩ := h
  cases o with
  | none => exact ⟨hx, none, none, none, 0, 0, 0, h, rd_nil_any _ _ rfl, rd_nil_any _ _ rfl, RdD.nil _ _⟩
  | some r => exact ⟨hx, h⟩
theorem tell_dec {w w' : World} {x : Int × Option Rec} {e : Ending} (h : DecP w x e w') : TellP w (flatV x) e w' := by
  obtain ⟨n, o⟩ := x
  obtain ⟨hx, h⟩ := h
  cases o with
  | none => exact ⟨hx, none, none, none, 0, 0, 0, h, rd_nil_any _ _ rfl, rd_nil_any _ _ rfl, RdD.nil _ _⟩
  | some r =>
    obtain ⟨v5, v6, v8, he, h5, h6, h8, _⟩ := h
    obtain ⟨A5, c5, rfl, _, r5⟩ := h5.bytes
    obtain ⟨A6, c6, rfl, _, r6⟩ := h6.bytes
    obtain ⟨A8, c8, rfl, _, r8⟩ := h8.slice
    exact ⟨hx, A5, A6, A8, c5, c6, c8, he, r5, r6, r8⟩
theorem cand_dl (l : List UInt8) : (candV l).dl.length ≤ 127 := by
  show ((List.range ((if hck (byteV l 0) = true then atV l 17 1 else 0) / 2)).map _).length ≤ 127
  rw [List.length_map, List.length_range]
  have h := atV_lt l 17 1
  split <;> omega
theorem flat_dl (l : List UInt8) : (flatV (refV l)).2.dl.length ≤ 127 := by
  have h := cand_dl l
  unfold refV
  split
  · exact Nat.zero_le _
  · split
    · exact Nat.zero_le _
    · split
      · exact h
      · exact Nat.zero_le _
end Go.Proofs.YtkbmcebdhiiffaaDoor
