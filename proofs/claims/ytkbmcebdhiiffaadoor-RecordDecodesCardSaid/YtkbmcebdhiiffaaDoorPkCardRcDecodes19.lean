/-
  The document's Decode of records: kind 4, 5 or none.
-/
import Derived.Test.YtkbmcebdhiiffaaDoorPkCardRcDecodes18
set_option linter.unusedVariables false
set_option linter.unusedSimpArgs false

namespace Go.Proofs.YtkbmcebdhiiffaaDoor
open Go.RowKit

set_option maxRecDepth 20000 in
set_option maxHeartbeats 6400000 in
theorem rdecode_o (A : Option Addr) (l : List UInt8) (n c m : Nat) (w : World) (ht : Tab w) (hr : Rd w A l) (hn : l.length = n) (hnc : n ≤ c) (hl : n ≤ 140737488351232) (hm : n = m + 4) (hm1 : 1 ≤ m) (hs : atV l m 4 = crc (l.take m)) (h1 : byteV l 0 ≠ 1) (h2 : byteV l 0 ≠ 2) (h3 : byteV l 0 ≠ 3) (h6 : byteV l 0 ≠ 6) :
    Calls Tryd.prog 15 #[.slice A n c] w (RefP w (refV l)) := by
  obtain ⟨k, HK⟩ : ∃ k, Hid (byteV l 0 = k) := ⟨_, hide rfl⟩
  have hk : byteV l 0 = k := HK.out
  rw [hk] at h1 h2 h3 h6
  have hb1 : ((k : Int) != 1) = true := by simp; omega
  have hb2 : ((k : Int) == 2) = false := by simp; omega
  have hb3 : ((k : Int) == 3) = false := by simp; omega
  have hb6 : ((k : Int) == 6) = false := by simp; omega
  have HO := hide (show ((k : Int) == 2) = false ∧ ((k : Int) == 3) = false ∧ ((k : Int) == 6) = false ∧ ¬ ((k : Int) = 1) from ⟨hb2, hb3, hb6, by omega⟩)
  obtain ⟨x, hx0⟩ : ∃ x, l[0]? = some x := ⟨_, List.getElem?_eq_getElem (by omega)⟩
  obtain ⟨b, off, hA, hcl⟩ := hr (by intro h; rw [h] at hx0; cases hx0)
  subst hA
  have hcp : w.cell? ⟨b, off, none⟩ = some (.int .u8 (k : Int)) := by
    have h := hcl 0 x hx0
    have e : (x.toNat : Int) = (k : Int) := by
      have : byteV l 0 = x.toNat := by unfold byteV; rw [hx0]
      omega
    rw [e, Nat.add_zero] at h
    exact h
  have KCP := hide (fun (W : World) (hW : Ext w W) => (show W.cell? ⟨b, off, none⟩ = some (.int .u8 (k : Int)) from hW.keeps.cell hcp))
  clear hcl hcp hx0
  have h5i : ¬ (n : Int) < 5 := by omega
  have hnI : (n : Int) ≤ 140737488351232 := by omega
  have hnm : (n : Int) - 4 = (m : Int) := by omega
  have hm0 : (0 : Int) ≤ (m : Int) := by omega
  have hmc : (m : Int) ≤ (c : Int) := by omega
  have hmcn : m ≤ c := by omega
  have hmn : (m : Int) ≤ (n : Int) := by omega
  have hnp : (0 : Int) < (n : Int) := by omega
  have hnpn : 0 < n := by omega
  obtain ⟨s, HSU⟩ : ∃ s, Hid (crc (l.take m) = s) := ⟨_, hide rfl⟩
  have HU : Hid (atV l m 4 = s) := hide (hs.trans HSU.out)
  have hs32 : (s : Int) < 4294967296 := by rw [← HSU.out]; unfold crc; omega
  have hs0 : (0 : Int) ≤ (s : Int) := by omega
  have hws : IntKind.u64.wrap (s : Int) = (s : Int) := by rw [IntKind.wrap_u64]; omega
  have KAT := hide (fun (W : World) (hW : Ext w W) (fi ki : Int) (f k : Nat) (hfi : fi = (f : Int)) (hki : ki = (k : Int)) (hf : f ≤ 140737488351232) (hk : k ≤ 8) => at_any (some ⟨b, off, none⟩) l n c f k fi ki W (hr.ext hW) hn hfi hki hf hk)
  have KCU := hide (fun (W : World) (hW : Ext w W) (fi ki : Int) (f k : Nat) (hfi : fi = (f : Int)) (hki : ki = (k : Int)) (hf : f ≤ 1000000) (hk : k ≤ 1000000) => cut_any (some ⟨b, off, none⟩) l n c f k fi ki w W hr hn hnc (by omega) hfi hki hf hk)
  have KSU := hide (fun (W : World) (hW : Ext w W) => (show Calls Tryd.prog 26 #[.slice (some ⟨b, off, none⟩) m c] W (Ret W (Is (.int .u32 (s : Int)))) from by
    have h := rsum_any (some ⟨b, off, none⟩) c (l.take m) W ((hr.take m).ext hW) (by rw [List.length_take]; omega)
    rw [HSU.out, show (l.take m).length = m from by rw [List.length_take]; omega] at h
    exact h))
  have KA4 := hide (fun (W : World) (hW : Ext w W) => (show Calls Tryd.prog 27 #[.slice (some ⟨b, off, none⟩) n c, .int .i64 (m : Int), .int .i64 4] W (fun e w' => e = .returned (.int .u64 (s : Int)) ∧ w' = W) from by rw [← HU.out]; exact KAT.out W hW _ _ m 4 rfl rfl (by omega) (by decide)))
  have HREF := hide (ref_tell l (by omega) (show atV l (l.length - 4) 4 = crc (l.take (l.length - 4)) from by rw [show l.length - 4 = m by omega]; exact hs))
  have HR := hide hr
  have HN := hide hn
  have HT := hide ht
  have HNC := hide hnc
  obtain ⟨tx, HTX⟩ : ∃ t, Hid (atV l 1 8 = t) := ⟨_, hide rfl⟩
  have KTX := hide (fun (W : World) (hW : Ext w W) => (show Calls Tryd.prog 27 #[.slice (some ⟨b, off, none⟩) n c, .int .i64 1, .int .i64 8] W (fun e w' => e = .returned (.int .u64 (tx : Int)) ∧ w' = W) from by rw [← HTX.out]; exact KAT.out W hW _ _ 1 8 rfl rfl (by decide) (by decide)))
  clear hr hn hnc ht hl hm hs
  go_enter Tryd.func15, Tryd.ntmps15
  go_upto_region 1 with fail
  obtain ⟨W1, hX1, hZ1, hgg⟩ : ∃ W1, Ext w W1 ∧ Rw W1 w.heap.size 26 [.int .u8 0, .int .u64 0, .int .u64 0, .int .i64 0, .int .i64 0, .slice none 0 0, .slice none 0 0, .int .u64 0, .slice none 0 0, .bool false] ∧ w.alloc (.cells #[.int .u8 0, .int .u64 0, .int .u64 0, .int .i64 0, .int .i64 0, .slice none 0 0, .slice none 0 0, .int .u64 0, .slice none 0 0, .bool false] 26) = W1 := ⟨_, Ext.alloc _ _, Rw.new _ _ _, rfl⟩
  rw [hgg]
  obtain ⟨hz, HHZ⟩ : ∃ hz, Hid (w.heap.size = hz) := ⟨_, hide rfl⟩
  rw [HHZ.out] at hZ1 ⊢
  have HZW : Hid (w.heap.size ≤ hz) := hide (by rw [HHZ.out]; exact Nat.le_refl _)
  have X1 := hide hX1
  have ZX1 := hide hZ1
  clear hgg hX1 hZ1
  have z0 := ZX1.out.cell (i := 0) rfl
  have z1 := ZX1.out.cell (i := 1) rfl
  have z2 := ZX1.out.cell (i := 2) rfl
  have z3 := ZX1.out.cell (i := 3) rfl
  have z4 := ZX1.out.cell (i := 4) rfl
  have z5 := ZX1.out.cell (i := 5) rfl
  have z6 := ZX1.out.cell (i := 6) rfl
  have z7 := ZX1.out.cell (i := 7) rfl
  have z8 := ZX1.out.cell (i := 8) rfl
  have z9 := ZX1.out.cell (i := 9) rfl
  have f0 := ZX1.out.frozen 0
  have f1 := ZX1.out.frozen 1
  have f2 := ZX1.out.frozen 2
  have f3 := ZX1.out.frozen 3
  have f4 := ZX1.out.frozen 4
  have f5 := ZX1.out.frozen 5
  have f6 := ZX1.out.frozen 6
  have f7 := ZX1.out.frozen 7
  have f8 := ZX1.out.frozen 8
  have f9 := ZX1.out.frozen 9
  go_upto_region 4 with fail
  go_cut [25] from 17 to 25 (fun v wx => v = .bool false ∧ Ext W1 wx)
  case first =>
    have XD := hide (X1.out.trans (Ext.drew _))
    go_region_law (first
      | (go_simp; go_at_call 27; refine (KA4.out _ XD.out).mono ?_; rintro e wa ⟨rfl, rfl⟩)
      | (go_simp; go_at_call 27; refine (KA4.out _ XS).mono ?_; rintro e wa ⟨rfl, rfl⟩)
      | (go_simp; go_at_call 26; refine (KSU.out _ XD.out).mono ?_; rintro e ws ⟨vs, rfl, hxs, rfl⟩; have XS : Ext w ws := XD.out.trans hxs; have X1s : Ext W1 ws := (Ext.drew W1).trans hxs))
    all_goals (go_wp2_with fail; go_meet; exact ⟨rfl, X1s⟩)
  case rest =>
    obtain ⟨hv25, hxs⟩ := hcut
    subst hv25
    have XSh := hide (X1.out.trans hxs)
    have ZXs := hide (ZX1.out.ext hxs)
    obtain ⟨ws, HWS⟩ : ∃ ws, ws = wc := ⟨_, rfl⟩
    subst HWS
    clear hxs X1 ZX1 KA4 KSU z0 f0 z1 f1 z2 f2 z3 f3 z4 f4 z5 f5 z6 f6 z7 f7 z8 f8 z9 f9
    clear hs32 hs0 hws
    go_upto_region 6 with fail
    go_cut [5] from 27 to 32 (fun p wx => p = .pointer (some ⟨ws.heap.size, 0, none⟩) ∧ wx = (ws.alloc (.cells #[.int .u8 (k : Int), .int .u64 (tx : Int), .int .u64 0, .int .i64 0, .int .i64 0, .slice none 0 0, .slice none 0 0, .int .u64 0, .slice none 0 0, .bool false] 26)).drew)
    case first =>
      have XD := hide (XSh.out.trans (Ext.drew ws))
      have XDA := hide (XSh.out.trans ((Ext.alloc ws (.cells #[.int .u8 0, .int .u64 0, .int .u64 0, .int .i64 0, .int .i64 0, .slice none 0 0, .slice none 0 0, .int .u64 0, .slice none 0 0, .bool false] 26)).trans (Ext.drew _)))
      have c6a := KCP.out _ XD.out
      have c6b := KCP.out _ (XSh.out.trans (Ext.alloc ws (.cells #[.int .u8 0, .int .u64 0, .int .u64 0, .int .i64 0, .int .i64 0, .slice none 0 0, .slice none 0 0, .int .u64 0, .slice none 0 0, .bool false] 26)))
      have A6 := Rw.new ws 26 [.int .u8 0, .int .u64 0, .int .u64 0, .int .i64 0, .int .i64 0, .slice none 0 0, .slice none 0 0, .int .u64 0, .slice none 0 0, .bool false]
      have z0 := A6.cell (i := 0) rfl
      have f0 := A6.frozen 0
      go_region_law (first
        | (go_simp; go_at_call 27; refine (KTX.out _ XD.out).mono ?_; rintro e wa ⟨rfl, rfl⟩)
        | (go_simp; go_at_call 27; refine (KTX.out _ XDA.out).mono ?_; rintro e wa ⟨rfl, rfl⟩))
      all_goals (go_wp2_with fail; go_meet; exact ⟨rfl, rfl⟩)
    case rest =>
    obtain ⟨hp6, hw6⟩ := hcut
    subst hp6 hw6
    obtain ⟨W6, hX6, hB6, hZ6, hgg⟩ : ∃ W, Ext w W ∧ Rw W ws.heap.size 26 [.int .u8 (k : Int), .int .u64 (tx : Int), .int .u64 0, .int .i64 0, .int .i64 0, .slice none 0 0, .slice none 0 0, .int .u64 0, .slice none 0 0, .bool false] ∧ Rw W hz 26 [.int .u8 0, .int .u64 0, .int .u64 0, .int .i64 0, .int .i64 0, .slice none 0 0, .slice none 0 0, .int .u64 0, .slice none 0 0, .bool false] ∧ (ws.alloc (.cells #[.int .u8 (k : Int), .int .u64 (tx : Int), .int .u64 0, .int .i64 0, .int .i64 0, .slice none 0 0, .slice none 0 0, .int .u64 0, .slice none 0 0, .bool false] 26)).drew = W := ⟨_, XSh.out.trans ((Ext.alloc _ _).trans (Ext.drew _)), (Rw.new _ _ _).ext (Ext.drew _), ZXs.out.ext ((Ext.alloc _ _).trans (Ext.drew _)), rfl⟩
    rw [hgg]
    obtain ⟨h, HHH⟩ : ∃ h, Hid (ws.heap.size = h) := ⟨_, hide rfl⟩
    rw [HHH.out] at hB6 ⊢
    have HH : Hid (w.heap.size ≤ h ∧ hz ≠ h ∧ w.heap.size ≤ hz) := hide (by have := XSh.out.size; have := ZXs.out.lt; have := HHH.out; have := HZW.out; omega)
    have X6 := hide hX6
    have B6 := hide hB6
    have Z6 := hide hZ6
    clear hgg hX6 hB6 hZ6 XSh ZXs KTX KCP HZW
    have cc := B6.out.cell (i := 0) rfl
    have KN := hide (KAT.out W6 X6.out (9 : Int) 8 (9) 8 rfl rfl (by decide) (by decide))
    obtain ⟨pv, H_pv⟩ : ∃ u, Hid (atV l (9) 8 = u) := ⟨_, hide rfl⟩
    rw [H_pv.out] at KN
    have ff := B6.out.frozen 2
    have cf := B6.out.cell (i := 2) rfl
    go_upto_region 9 with (go_at_call 27; (with_reducible refine KN.out.mono ?_); rintro e x ⟨rfl, hx⟩; have hx := hx.symm; subst hx)
    clear KN ff cf
    obtain ⟨W7, hgg, hX, hB, hZ⟩ : ∃ W, W6.setCell ⟨h, 2, none⟩ (.int .u64 (pv : Int)) = W ∧ Ext w W ∧ Rw W h 26 [.int .u8 (k : Int), .int .u64 (tx : Int), .int .u64 (pv : Int), .int .i64 0, .int .i64 0, .slice none 0 0, .slice none 0 0, .int .u64 0, .slice none 0 0, .bool false] ∧ Rw W hz 26 [.int .u8 0, .int .u64 0, .int .u64 0, .int .i64 0, .int .i64 0, .slice none 0 0, .slice none 0 0, .int .u64 0, .slice none 0 0, .bool false] := ⟨_, rfl, ext_set X6.out HH.out.1 _ _, B6.out.set 2 _, Z6.out.far (fun e => HH.out.2.1 e) _⟩
    rw [hgg]
    have X7 := hide hX
    have B7 := hide hB
    have Z7 := hide hZ
    clear hgg hX hB hZ cc
    have cc := B7.out.cell (i := 0) rfl
    obtain ⟨fm, HFM⟩ : ∃ u, Hid (formN (k : Int) (pv : Int) 0 0 0 0 0 0 [] false = u) := ⟨_, hide rfl⟩
    obtain ⟨FL, HFL⟩ : ∃ u, Hid (fullB (k : Int) (tx : Int) (pv : Int) 0 0 0 [] [] [] false = u) := ⟨_, hide rfl⟩
    have HC : Hid (candV l = (⟨(k : Int), (tx : Int), (pv : Int), 0, 0, [], [], 0, [], false⟩ : Rec)) := hide (by unfold candV; rw [HK.out]; simp only [hch, hbf, hnx, hck, HO.out.1, HO.out.2.1, HO.out.2.2.1, HO.out.2.2.2, H_pv.out, HTX.out, Bool.or_self, Bool.false_eq_true, if_false, Nat.zero_div, List.range_zero, List.map_nil, decide_eq_true_eq]; rfl)
    have HV : Hid (refV l = if fm = true ∧ FL = l then (0, some (⟨(k : Int), (tx : Int), (pv : Int), 0, 0, [], [], 0, [], false⟩ : Rec)) else (3, none)) := hide (by
      rw [HREF.out, HC.out, ← HFM.out, ← HFL.out]
      show (if formN _ _ _ _ _ _ _ _ _ _ = true ∧ fullB _ _ _ _ _ _ _ _ _ _ = l then _ else _) = _
      try rfl)
    have Nu : Hid (Nums (⟨(k : Int), (tx : Int), (pv : Int), 0, 0, [], [], 0, [], false⟩ : Rec)) := hide (by rw [← HC.out]; exact cand_nums l)
    have KF := hide (fun (W : World) (hW : Ext W7 W) => (show Calls Tryd.prog 10 #[.agg #[.int .u8 (k : Int), .int .u64 (tx : Int), .int .u64 (pv : Int), .int .i64 0, .int .i64 0, .slice none 0 0, .slice none 0 0, .int .u64 0, .slice none 0 0, .bool false]] W (RetB W fm) from by rw [← HFM.out]; exact rform_any (k : Int) (tx : Int) (pv : Int) 0 0 0 none none none 0 _ 0 _ 0 _ false W [] (RdD.nil _ _) (rfl) (by omega) (by omega) (by omega) (by omega) (by omega)))
    have KE := hide (fun (hf : fm = true) (W : World) (hW : Ext W7 W) => (show Calls Tryd.prog 13 #[.agg #[.int .u8 (k : Int), .int .u64 (tx : Int), .int .u64 (pv : Int), .int .i64 0, .int .i64 0, .slice none 0 0, .slice none 0 0, .int .u64 0, .slice none 0 0, .bool false]] W (fun e w' => ∃ v', e = .returned v' ∧ Own w' W.heap.size v' FL ∧ Ext W w') from by rw [← HFL.out]; rw [← HFM.out] at hf; exact rencode_yes (k : Int) (tx : Int) (pv : Int) 0 0 0 none none none 0 _ 0 _ 0 _ false W [] [] [] (HT.out.ext (X7.out.trans hW)) (rd_nil_any _ _ rfl) (rd_nil_any _ _ rfl) (RdD.nil _ _) (rfl) (rfl) (rfl) (by omega) (by omega) (by omega) (by omega) (by omega) Nu.out.tx.1 Nu.out.tx.2 Nu.out.pv.1 Nu.out.pv.2 Nu.out.nx.1 Nu.out.nx.2 Nu.out.dl hf))
    clear KAT KCU HREF HC Nu
    go_upto_region 26 with fail
    clear cc
    have hok : FL = l ∧ fm = true ∨ ¬ (fm = true ∧ FL = l) := by cases fm <;> by_cases h : FL = l <;> simp [h]
    cases hfm : fm with
    | false =>
      rw [hfm] at KF HV
      clear KE hok
      go_cut [120] from 110 to 120 (fun v wx => v = .bool true ∧ Ext W7 wx)
      case first =>
        have Bd := hide (B7.out.ext (Ext.drew _))
        have d0 := Bd.out.cell (i := 0) rfl
        have d1 := Bd.out.cell (i := 1) rfl
        have d2 := Bd.out.cell (i := 2) rfl
        have d3 := Bd.out.cell (i := 3) rfl
        have d4 := Bd.out.cell (i := 4) rfl
        have d5 := Bd.out.cell (i := 5) rfl
        have d6 := Bd.out.cell (i := 6) rfl
        have d7 := Bd.out.cell (i := 7) rfl
        have d8 := Bd.out.cell (i := 8) rfl
        have d9 := Bd.out.cell (i := 9) rfl
        first | go_region_law (first
          | (go_simp; go_at_call 10; refine (KF.out _ (Ext.drew _)).mono ?_; rintro e w4 ⟨rfl, hx4⟩; have X4 : Ext W7 w4 := (Ext.drew _).trans hx4; have B4 := B7.out.ext X4; have e0 := B4.cell (i := 0) rfl; have e1 := B4.cell (i := 1) rfl; have e2 := B4.cell (i := 2) rfl; have e3 := B4.cell (i := 3) rfl; have e4 := B4.cell (i := 4) rfl; have e5 := B4.cell (i := 5) rfl; have e6 := B4.cell (i := 6) rfl; have e7 := B4.cell (i := 7) rfl; have e8 := B4.cell (i := 8) rfl; have e9 := B4.cell (i := 9) rfl)) | fail
        all_goals (go_wp2_with fail; go_meet; exact ⟨rfl, X4⟩)
      case rest =>
        obtain ⟨hv, hxs⟩ := hcut
        subst hv
        have HE := hide (show refV l = (3, none) from by rw [HV.out]; rfl)
        have XW := hide (X7.out.trans hxs)
        have Zx := hide (Z7.out.ext hxs)
        obtain ⟨wx, HWX⟩ : ∃ W, W = wc := ⟨_, rfl⟩
        subst HWX
        clear hxs
        have z0 := Zx.out.cell (i := 0) rfl
        have z1 := Zx.out.cell (i := 1) rfl
        have z2 := Zx.out.cell (i := 2) rfl
        have z3 := Zx.out.cell (i := 3) rfl
        have z4 := Zx.out.cell (i := 4) rfl
        have z5 := Zx.out.cell (i := 5) rfl
        have z6 := Zx.out.cell (i := 6) rfl
        have z7 := Zx.out.cell (i := 7) rfl
        have z8 := Zx.out.cell (i := 8) rfl
        have z9 := Zx.out.cell (i := 9) rfl
        have f0 := Zx.out.frozen 0
        have f1 := Zx.out.frozen 1
        have f2 := Zx.out.frozen 2
        have f3 := Zx.out.frozen 3
        have f4 := Zx.out.frozen 4
        have f5 := Zx.out.frozen 5
        have f6 := Zx.out.frozen 6
        have f7 := Zx.out.frozen 7
        have f8 := Zx.out.frozen 8
        have f9 := Zx.out.frozen 9
        go_wp2
        have ZZ := ((((((((((Zx.out.set 0 (.int .u8 0)).set 1 (.int .u64 0)).set 2 (.int .u64 0)).set 3 (.int .i64 0)).set 4 (.int .i64 0)).set 5 (.slice none 0 0)).set 6 (.slice none 0 0)).set 7 (.int .u64 0)).set 8 (.slice none 0 0)).set 9 (.bool false))
        have HS10 := sets_only hz [(0, .int .u8 0), (1, .int .u64 0), (2, .int .u64 0), (3, .int .i64 0), (4, .int .i64 0), (5, .slice none 0 0), (6, .slice none 0 0), (7, .int .u64 0), (8, .slice none 0 0), (9, .bool false)] wx
        simp only [List.foldl_cons, List.foldl_nil] at HS10
        obtain ⟨wz, hwz⟩ : ∃ wz, ((((((((((wx).setCell ⟨hz, 0, none⟩ (.int .u8 0)).setCell ⟨hz, 1, none⟩ (.int .u64 0)).setCell ⟨hz, 2, none⟩ (.int .u64 0)).setCell ⟨hz, 3, none⟩ (.int .i64 0)).setCell ⟨hz, 4, none⟩ (.int .i64 0)).setCell ⟨hz, 5, none⟩ (.slice none 0 0)).setCell ⟨hz, 6, none⟩ (.slice none 0 0)).setCell ⟨hz, 7, none⟩ (.int .u64 0)).setCell ⟨hz, 8, none⟩ (.slice none 0 0)).setCell ⟨hz, 9, none⟩ (.bool false) = wz := ⟨_, rfl⟩
        rw [hwz] at HS10 ZZ ⊢
        obtain ⟨q1, q2, q3, q4, hsame⟩ := HS10
        clear hwz
        have e0 := ZZ.cell (i := 0) rfl
        have e1 := ZZ.cell (i := 1) rfl
        have e2 := ZZ.cell (i := 2) rfl
        have e3 := ZZ.cell (i := 3) rfl
        have e4 := ZZ.cell (i := 4) rfl
        have e5 := ZZ.cell (i := 5) rfl
        have e6 := ZZ.cell (i := 6) rfl
        have e7 := ZZ.cell (i := 7) rfl
        have e8 := ZZ.cell (i := 8) rfl
        have e9 := ZZ.cell (i := 9) rfl
        have XZ : Ext w wz := ⟨q1.trans XW.out.os, q2.trans XW.out.tape, q3.trans XW.out.output, Nat.le_trans XW.out.size (Nat.le_of_eq q4.symm), fun b hb => (hsame b (by have := HH.out.2.2; omega)).trans (XW.out.block b hb)⟩
        refine bodyPost_ret (v := .tuple #[.agg #[.int .u8 0, .int .u64 0, .int .u64 0, .int .i64 0, .int .i64 0, .slice none 0 0, .slice none 0 0, .int .u64 0, .slice none 0 0, .bool false], .int .i64 3]) (by simp [results, Tryd.results15, go_sem, e0, e1, e2, e3, e4, e5, e6, e7, e8, e9]; try rfl) rfl ?_
        show RefP w (refV l) _ _
        rw [HE.out]
        exact ⟨XZ, rfl⟩
    | true =>
      rw [hfm] at KF HV
      have KE1 := hide (KE.out hfm)
      clear KE hok
      obtain ⟨NL, HNL⟩ : ∃ u, Hid (FL.length = u) := ⟨_, hide rfl⟩
      go_cut [120] from 110 to 120 (fun v wx => v = .bool (!(FL == l)) ∧ Ext W7 wx)
      case first =>
        have Bd := hide (B7.out.ext (Ext.drew _))
        have d0 := Bd.out.cell (i := 0) rfl
        have d1 := Bd.out.cell (i := 1) rfl
        have d2 := Bd.out.cell (i := 2) rfl
        have d3 := Bd.out.cell (i := 3) rfl
        have d4 := Bd.out.cell (i := 4) rfl
        have d5 := Bd.out.cell (i := 5) rfl
        have d6 := Bd.out.cell (i := 6) rfl
        have d7 := Bd.out.cell (i := 7) rfl
        have d8 := Bd.out.cell (i := 8) rfl
        have d9 := Bd.out.cell (i := 9) rfl
        have hs0 := bytes_of (HR.out.ext (X7.out.trans (Ext.drew _))) HN.out HNC.out
        have hs1 := str_of hs0
        go_region_law (first
          | (go_simp; go_at_call 10; refine (KF.out _ (Ext.drew _)).mono ?_; rintro e w4 ⟨rfl, hx4⟩; have X4 : Ext W7 w4 := (Ext.drew _).trans hx4; have B4 := B7.out.ext X4; have e0 := B4.cell (i := 0) rfl; have e1 := B4.cell (i := 1) rfl; have e2 := B4.cell (i := 2) rfl; have e3 := B4.cell (i := 3) rfl; have e4 := B4.cell (i := 4) rfl; have e5 := B4.cell (i := 5) rfl; have e6 := B4.cell (i := 6) rfl; have e7 := B4.cell (i := 7) rfl; have e8 := B4.cell (i := 8) rfl; have e9 := B4.cell (i := 9) rfl; have hs1b := str_of (bytes_of (HR.out.ext (X7.out.trans X4)) HN.out HNC.out))
          | (go_simp; go_at_call 13; refine (KE1.out _ X4).mono ?_; rintro e w5 ⟨v5, rfl, ho5, hx5⟩; obtain ⟨AP, cp, hv5, hcp, hrp⟩ := ho5.bytes; rw [HNL.out] at hv5 hcp; subst hv5; have X5 : Ext W7 w5 := X4.trans hx5; have hs2 := str_of (bytes_of hrp HNL.out hcp); have hs1c := str_of (bytes_of (HR.out.ext (X7.out.trans X5)) HN.out HNC.out)))
        all_goals (go_wp2_with fail; go_meet; exact ⟨rfl, X5⟩)
      case rest =>
        obtain ⟨hv, hxs⟩ := hcut
        by_cases hfl : FL = l
        · have HE := hide (show refV l = (0, some (⟨(k : Int), (tx : Int), (pv : Int), 0, 0, [], [], 0, [], false⟩ : Rec)) from by rw [HV.out, if_pos ⟨rfl, hfl⟩])
          have hb : (!(FL == l)) = false := by simp [hfl]
          rw [hb] at hv
          subst hv
          have XW := hide (X7.out.trans hxs)
          have Zx := hide (Z7.out.ext hxs)
          have Bx := hide (B7.out.ext hxs)
          have XI := hide hxs
          obtain ⟨wx, HWX⟩ : ∃ W, W = wc := ⟨_, rfl⟩
          subst HWX
          clear hxs
          have z0 := Zx.out.cell (i := 0) rfl
          have z1 := Zx.out.cell (i := 1) rfl
          have z2 := Zx.out.cell (i := 2) rfl
          have z3 := Zx.out.cell (i := 3) rfl
          have z4 := Zx.out.cell (i := 4) rfl
          have z5 := Zx.out.cell (i := 5) rfl
          have z6 := Zx.out.cell (i := 6) rfl
          have z7 := Zx.out.cell (i := 7) rfl
          have z8 := Zx.out.cell (i := 8) rfl
          have z9 := Zx.out.cell (i := 9) rfl
          have f0 := Zx.out.frozen 0
          have f1 := Zx.out.frozen 1
          have f2 := Zx.out.frozen 2
          have f3 := Zx.out.frozen 3
          have f4 := Zx.out.frozen 4
          have f5 := Zx.out.frozen 5
          have f6 := Zx.out.frozen 6
          have f7 := Zx.out.frozen 7
          have f8 := Zx.out.frozen 8
          have f9 := Zx.out.frozen 9
          have g0 := Bx.out.cell (i := 0) rfl
          have g1 := Bx.out.cell (i := 1) rfl
          have g2 := Bx.out.cell (i := 2) rfl
          have g3 := Bx.out.cell (i := 3) rfl
          have g4 := Bx.out.cell (i := 4) rfl
          have g5 := Bx.out.cell (i := 5) rfl
          have g6 := Bx.out.cell (i := 6) rfl
          have g7 := Bx.out.cell (i := 7) rfl
          have g8 := Bx.out.cell (i := 8) rfl
          have g9 := Bx.out.cell (i := 9) rfl
          go_wp2
          have ZZ := ((((((((((Zx.out.set 0 (.int .u8 (k : Int))).set 1 (.int .u64 (tx : Int))).set 2 (.int .u64 (pv : Int))).set 3 (.int .i64 0)).set 4 (.int .i64 0)).set 5 (.slice none 0 0)).set 6 (.slice none 0 0)).set 7 (.int .u64 0)).set 8 (.slice none 0 0)).set 9 (.bool false))
          have HS10 := sets_only hz [(0, .int .u8 (k : Int)), (1, .int .u64 (tx : Int)), (2, .int .u64 (pv : Int)), (3, .int .i64 0), (4, .int .i64 0), (5, .slice none 0 0), (6, .slice none 0 0), (7, .int .u64 0), (8, .slice none 0 0), (9, .bool false)] wx
          simp only [List.foldl_cons, List.foldl_nil] at HS10
          obtain ⟨wz, hwz⟩ : ∃ wz, ((((((((((wx).setCell ⟨hz, 0, none⟩ (.int .u8 (k : Int))).setCell ⟨hz, 1, none⟩ (.int .u64 (tx : Int))).setCell ⟨hz, 2, none⟩ (.int .u64 (pv : Int))).setCell ⟨hz, 3, none⟩ (.int .i64 0)).setCell ⟨hz, 4, none⟩ (.int .i64 0)).setCell ⟨hz, 5, none⟩ (.slice none 0 0)).setCell ⟨hz, 6, none⟩ (.slice none 0 0)).setCell ⟨hz, 7, none⟩ (.int .u64 0)).setCell ⟨hz, 8, none⟩ (.slice none 0 0)).setCell ⟨hz, 9, none⟩ (.bool false) = wz := ⟨_, rfl⟩
          rw [hwz] at HS10 ZZ ⊢
          obtain ⟨q1, q2, q3, q4, hsame⟩ := HS10
          clear hwz
          have e0 := ZZ.cell (i := 0) rfl
          have e1 := ZZ.cell (i := 1) rfl
          have e2 := ZZ.cell (i := 2) rfl
          have e3 := ZZ.cell (i := 3) rfl
          have e4 := ZZ.cell (i := 4) rfl
          have e5 := ZZ.cell (i := 5) rfl
          have e6 := ZZ.cell (i := 6) rfl
          have e7 := ZZ.cell (i := 7) rfl
          have e8 := ZZ.cell (i := 8) rfl
          have e9 := ZZ.cell (i := 9) rfl
          have XZ : Ext w wz := ⟨q1.trans XW.out.os, q2.trans XW.out.tape, q3.trans XW.out.output, Nat.le_trans XW.out.size (Nat.le_of_eq q4.symm), fun b hb => (hsame b (by have := HH.out.2.2; omega)).trans (XW.out.block b hb)⟩
          refine bodyPost_ret (v := .tuple #[.agg #[.int .u8 (k : Int), .int .u64 (tx : Int), .int .u64 (pv : Int), .int .i64 0, .int .i64 0, .slice none 0 0, .slice none 0 0, .int .u64 0, .slice none 0 0, .bool false], .int .i64 0]) (by simp [results, Tryd.results15, go_sem, e0, e1, e2, e3, e4, e5, e6, e7, e8, e9]; try rfl) rfl ?_
          show RefP w (refV l) _ _
          rw [HE.out]
          refine ⟨XZ, none, none, none, 0, 0, 0, ?_, ?_, ?_, ?_⟩
          · show _ = Ending.returned (.tuple #[.agg #[_, _, _, _, _, .slice _ (List.length _) _, .slice _ (List.length _) _, _, .slice _ (List.length _) _, _], _])
            rfl
          · exact rd_nil_any _ _ rfl
          · exact rd_nil_any _ _ rfl
          · exact RdD.nil _ _
        · have HE := hide (show refV l = (3, none) from by rw [HV.out, if_neg (fun h => hfl h.2)])
          have hb : (!(FL == l)) = true := by simp [hfl]
          rw [hb] at hv
          subst hv
          have XW := hide (X7.out.trans hxs)
          have Zx := hide (Z7.out.ext hxs)
          obtain ⟨wx, HWX⟩ : ∃ W, W = wc := ⟨_, rfl⟩
          subst HWX
          clear hxs
          have z0 := Zx.out.cell (i := 0) rfl
          have z1 := Zx.out.cell (i := 1) rfl
          have z2 := Zx.out.cell (i := 2) rfl
          have z3 := Zx.out.cell (i := 3) rfl
          have z4 := Zx.out.cell (i := 4) rfl
          have z5 := Zx.out.cell (i := 5) rfl
          have z6 := Zx.out.cell (i := 6) rfl
          have z7 := Zx.out.cell (i := 7) rfl
          have z8 := Zx.out.cell (i := 8) rfl
          have z9 := Zx.out.cell (i := 9) rfl
          have f0 := Zx.out.frozen 0
          have f1 := Zx.out.frozen 1
          have f2 := Zx.out.frozen 2
          have f3 := Zx.out.frozen 3
          have f4 := Zx.out.frozen 4
          have f5 := Zx.out.frozen 5
          have f6 := Zx.out.frozen 6
          have f7 := Zx.out.frozen 7
          have f8 := Zx.out.frozen 8
          have f9 := Zx.out.frozen 9
          go_wp2
          have ZZ := ((((((((((Zx.out.set 0 (.int .u8 0)).set 1 (.int .u64 0)).set 2 (.int .u64 0)).set 3 (.int .i64 0)).set 4 (.int .i64 0)).set 5 (.slice none 0 0)).set 6 (.slice none 0 0)).set 7 (.int .u64 0)).set 8 (.slice none 0 0)).set 9 (.bool false))
          have HS10 := sets_only hz [(0, .int .u8 0), (1, .int .u64 0), (2, .int .u64 0), (3, .int .i64 0), (4, .int .i64 0), (5, .slice none 0 0), (6, .slice none 0 0), (7, .int .u64 0), (8, .slice none 0 0), (9, .bool false)] wx
          simp only [List.foldl_cons, List.foldl_nil] at HS10
          obtain ⟨wz, hwz⟩ : ∃ wz, ((((((((((wx).setCell ⟨hz, 0, none⟩ (.int .u8 0)).setCell ⟨hz, 1, none⟩ (.int .u64 0)).setCell ⟨hz, 2, none⟩ (.int .u64 0)).setCell ⟨hz, 3, none⟩ (.int .i64 0)).setCell ⟨hz, 4, none⟩ (.int .i64 0)).setCell ⟨hz, 5, none⟩ (.slice none 0 0)).setCell ⟨hz, 6, none⟩ (.slice none 0 0)).setCell ⟨hz, 7, none⟩ (.int .u64 0)).setCell ⟨hz, 8, none⟩ (.slice none 0 0)).setCell ⟨hz, 9, none⟩ (.bool false) = wz := ⟨_, rfl⟩
          rw [hwz] at HS10 ZZ ⊢
          obtain ⟨q1, q2, q3, q4, hsame⟩ := HS10
          clear hwz
          have e0 := ZZ.cell (i := 0) rfl
          have e1 := ZZ.cell (i := 1) rfl
          have e2 := ZZ.cell (i := 2) rfl
          have e3 := ZZ.cell (i := 3) rfl
          have e4 := ZZ.cell (i := 4) rfl
          have e5 := ZZ.cell (i := 5) rfl
          have e6 := ZZ.cell (i := 6) rfl
          have e7 := ZZ.cell (i := 7) rfl
          have e8 := ZZ.cell (i := 8) rfl
          have e9 := ZZ.cell (i := 9) rfl
          have XZ : Ext w wz := ⟨q1.trans XW.out.os, q2.trans XW.out.tape, q3.trans XW.out.output, Nat.le_trans XW.out.size (Nat.le_of_eq q4.symm), fun b hb => (hsame b (by have := HH.out.2.2; omega)).trans (XW.out.block b hb)⟩
          refine bodyPost_ret (v := .tuple #[.agg #[.int .u8 0, .int .u64 0, .int .u64 0, .int .i64 0, .int .i64 0, .slice none 0 0, .slice none 0 0, .int .u64 0, .slice none 0 0, .bool false], .int .i64 3]) (by simp [results, Tryd.results15, go_sem, e0, e1, e2, e3, e4, e5, e6, e7, e8, e9]; try rfl) rfl ?_
          show RefP w (refV l) _ _
          rw [HE.out]
          exact ⟨XZ, rfl⟩
end Go.Proofs.YtkbmcebdhiiffaaDoor
