/-
  The record of some bytes: the program's Decode.
-/
import Derived.Test.YtkbmcebdhiiffaaDoorPkCardRcDecodes4
import Derived.Test.YtkbmcebdhiiffaaDoorPkCardRcDecodes9
set_option linter.unusedVariables false
set_option linter.unusedSimpArgs false

namespace Go.Proofs.YtkbmcebdhiiffaaDoor
open Go.RowKit

theorem str_any {w : World} {A : Option Addr} {l : List UInt8} (h : Rd w A l) (n c : Nat) (hn : l.length = n) : (convert 23 9 (.slice A n c)).run Tryd.prog w = .ok (.string ⟨l.toArray⟩) w := by
  subst hn
  exact h.str (P := Tryd.prog) 23 9 5 c Tryd.underlying23 Tryd.underlying5 Tryd.underlying9
theorem equal_any (A B : Option Addr) (l m : List UInt8) (n p c d : Nat) (w : World) (hA : Rd w A l) (hB : Rd w B m) (hn : l.length = n) (hp : m.length = p) :
    Calls Tryd.prog 22 #[.slice A n c, .slice B p d] w (fun e w' => e = .returned (.bool (l == m)) ∧ w' = w) := by
  have cv1 := str_any hA n c hn
  have cv2 := str_any hB p d hp
  cases hb : (l == m) with
  | true =>
    go_enter Tryd.func22, Tryd.ntmps22
    go_wp2
    go_ret
    exact ⟨rfl, rfl⟩
  | false =>
    go_enter Tryd.func22, Tryd.ntmps22
    go_wp2
    go_ret
    exact ⟨rfl, rfl⟩
def formB (r : Rec) : Bool := formN r.k r.pv r.pg r.off r.nx r.af.length r.bf.length r.dl.length r.dl r.op
/-- What is told of some bytes: the error's number, the record. -/
def decV (l : List UInt8) : Int × Option Rec :=
  if l.length < 5 then (3, none) else if (sumB (l.take (l.length - 4)) == l.drop (l.length - 4)) = false then (15, none)
  else if (rdRec (l.take (l.length - 4), false)).2 = ([], false) ∧ formB (rdRec (l.take (l.length - 4), false)).1 = true then (0, some (rdRec (l.take (l.length - 4), false)).1) else (3, none)
def DecP (w : World) (x : Int × Option Rec) (e : Ending) (w' : World) : Prop := Ext w w' ∧ match x.2 with
  | none => e = .returned (.tuple #[.agg #[.int .u8 0, .int .u64 0, .int .u64 0, .int .i64 0, .int .i64 0, .slice none 0 0, .slice none 0 0, .int .u64 0, .slice none 0 0, .bool false], .int .i64 x.1])
  | some r => ∃ v5 v6 v8, e = .returned (.tuple #[.agg #[.int .u8 r.k, .int .u64 r.tx, .int .u64 r.pv, .int .i64 r.pg, .int .i64 r.off, v5, v6, .int .u64 r.nx, v8, .bool r.op], .int .i64 0]) ∧ Own w' w.heap.size v5 r.bf ∧ Own w' w.heap.size v6 r.af ∧ OwnD w' w.heap.size v8 r.dl ∧ ∀ b, v5.ownBlock = some b → v6.ownBlock ≠ some b
theorem DecP.no {w w' : World} {x : Int × Option Rec} {e : Ending} {n : Int} (hx : Ext w w') (h : x = (n, none)) (he : e = .returned (.tuple #[.agg #[.int .u8 0, .int .u64 0, .int .u64 0, .int .i64 0, .int .i64 0, .slice none 0 0, .slice none 0 0, .int .u64 0, .slice none 0 0, .bool false], .int .i64 n])) : DecP w x e w' := by
  subst h
  exact ⟨hx, he⟩
theorem rdN_lt (b : Bool) (n : Nat) (st : List UInt8 × Bool) : 0 ≤ (rdN b n st).1 ∧ (rdN b n st).1 < 256 ^ n := by
  unfold rdN
  split
  · exact num_lt n st
  · refine ⟨Int.le_refl _, ?_⟩
    show (0 : Int) < 256 ^ n
    exact Int.pow_pos (by decide)
theorem rdB_le (b : Bool) (n : Nat) (st : List UInt8 × Bool) : (rdB b n st).1.length ≤ n := by
  unfold rdB
  split
  · exact tk_le n st
  · exact Nat.zero_le _
theorem rdD_le (b : Bool) (q : Nat) (st : List UInt8 × Bool) : (rdD b q st).1.length ≤ q := by
  unfold rdD
  split
  · rw [dirR_len]; omega
  · exact Nat.zero_le _
/-- What the reader tells is within its kinds. -/
structure RecIn (r : Rec) : Prop where
  off : 0 ≤ r.off ∧ r.off < 65536
  bf : r.bf.length ≤ 65535
  af : r.af.length ≤ 65535
  dl : r.dl.length ≤ 255
theorem rdRec_in (st : List UInt8 × Bool) : RecIn (rdRec st).1 := by
  have h4 := fun s => rdN_lt (hch (num (tk 1 st).1)) 2 s
  refine ⟨by have h := h4 (rdN (hch (num (tk 1 st).1)) 2 (rdN (hpv (num (tk 1 st).1)) 8 (tk 8 (tk 1 st).2).2).2).2; exact ⟨h.1, h.2⟩, ?_, ?_, ?_⟩
  · refine Nat.le_trans (rdB_le _ _ _) ?_
    have h := h4 (rdN (hch (num (tk 1 st).1)) 2 (rdN (hch (num (tk 1 st).1)) 2 (rdN (hpv (num (tk 1 st).1)) 8 (tk 8 (tk 1 st).2).2).2).2).2
    have := h.2
    omega
  · refine Nat.le_trans (rdB_le _ _ _) ?_
    have h := h4 (rdN (hch (num (tk 1 st).1)) 2 (rdN (hch (num (tk 1 st).1)) 2 (rdN (hpv (num (tk 1 st).1)) 8 (tk 8 (tk 1 st).2).2).2).2).2
    have := h.2
    omega
  · refine Nat.le_trans (rdD_le _ _ _) ?_
    have h := fun s => rdN_lt (hck (num (tk 1 st).1)) 1 s
    have h2 := fun s => (h s).2
    have h3 : ∀ s, (rdN (hck (num (tk 1 st).1)) 1 s).1.toNat ≤ 255 := fun s => by have := h2 s; omega
    exact h3 _
set_option maxRecDepth 20000 in
set_option maxHeartbeats 1600000 in
theorem decode_any (A : Option Addr) (l : List UInt8) (n c : Nat) (w : World) (hr : Rd w A l) (hn : l.length = n) (hnc : n ≤ c) (hl : n ≤ 140737488351232) (ht : Tab w) :
    Calls Tryd.prog 12 #[.slice A n c] w (DecP w (decV l)) := by
  have HR := hide hr
  have HN := hide hn
  have HT := hide ht
  have HNC := hide hnc
  have hni : (n : Int) ≤ 140737488351232 := by omega
  by_cases h5 : n < 5
  · have HV : Hid (decV l = (3, none)) := hide (by unfold decV; rw [if_pos (by rw [hn]; exact h5)])
    have h5i : (n : Int) - 4 < 1 := by omega
    clear hr hn hnc ht hl
    go_enter Tryd.func12, Tryd.ntmps12
    go_upto_region 1 with fail
    obtain ⟨W1, hX1, hZ1, hgg⟩ : ∃ W1, Ext w W1 ∧ Rw W1 w.heap.size 26 [.int .u8 0, .int .u64 0, .int .u64 0, .int .i64 0, .int .i64 0, .slice none 0 0, .slice none 0 0, .int .u64 0, .slice none 0 0, .bool false] ∧ w.alloc (.cells #[.int .u8 0, .int .u64 0, .int .u64 0, .int .i64 0, .int .i64 0, .slice none 0 0, .slice none 0 0, .int .u64 0, .slice none 0 0, .bool false] 26) = W1 := ⟨_, Ext.alloc _ _, Rw.new _ _ _, rfl⟩
    rw [hgg]
    obtain ⟨hz, HHZ⟩ : ∃ hz, Hid (w.heap.size = hz) := ⟨_, hide rfl⟩
    rw [HHZ.out] at hZ1 ⊢
    have HZW : Hid (w.heap.size ≤ hz) := hide (by rw [HHZ.out]; exact Nat.le_refl _)
    have X1 := hide hX1
    have ZX1 := hide hZ1
    clear hgg hX1 hZ1
    have z0 := ZX1.out.cell (i := 0) rfl
    have z1 := ZX1.out.cell (i := 1) rfl
    have z2 := ZX1.out.cell (i := 2) rfl
    have z3 := ZX1.out.cell (i := 3) rfl
    have z4 := ZX1.out.cell (i := 4) rfl
    have z5 := ZX1.out.cell (i := 5) rfl
    have z6 := ZX1.out.cell (i := 6) rfl
    have z7 := ZX1.out.cell (i := 7) rfl
    have z8 := ZX1.out.cell (i := 8) rfl
    have z9 := ZX1.out.cell (i := 9) rfl
    have f0 := ZX1.out.frozen 0
    have f1 := ZX1.out.frozen 1
    have f2 := ZX1.out.frozen 2
    have f3 := ZX1.out.frozen 3
    have f4 := ZX1.out.frozen 4
    have f5 := ZX1.out.frozen 5
    have f6 := ZX1.out.frozen 6
    have f7 := ZX1.out.frozen 7
    have f8 := ZX1.out.frozen 8
    have f9 := ZX1.out.frozen 9
    go_wp2
    have ZZ := ((((((((((ZX1.out.set 0 (.int .u8 0)).set 1 (.int .u64 0)).set 2 (.int .u64 0)).set 3 (.int .i64 0)).set 4 (.int .i64 0)).set 5 (.slice none 0 0)).set 6 (.slice none 0 0)).set 7 (.int .u64 0)).set 8 (.slice none 0 0)).set 9 (.bool false))
    have HS10 := sets_only hz [(0, .int .u8 0), (1, .int .u64 0), (2, .int .u64 0), (3, .int .i64 0), (4, .int .i64 0), (5, .slice none 0 0), (6, .slice none 0 0), (7, .int .u64 0), (8, .slice none 0 0), (9, .bool false)] W1
    simp only [List.foldl_cons, List.foldl_nil] at HS10
    obtain ⟨wz, hwz⟩ : ∃ wz, ((((((((((W1).setCell ⟨hz, 0, none⟩ (.int .u8 0)).setCell ⟨hz, 1, none⟩ (.int .u64 0)).setCell ⟨hz, 2, none⟩ (.int .u64 0)).setCell ⟨hz, 3, none⟩ (.int .i64 0)).setCell ⟨hz, 4, none⟩ (.int .i64 0)).setCell ⟨hz, 5, none⟩ (.slice none 0 0)).setCell ⟨hz, 6, none⟩ (.slice none 0 0)).setCell ⟨hz, 7, none⟩ (.int .u64 0)).setCell ⟨hz, 8, none⟩ (.slice none 0 0)).setCell ⟨hz, 9, none⟩ (.bool false) = wz := ⟨_, rfl⟩
    rw [hwz] at HS10 ZZ ⊢
    obtain ⟨q1, q2, q3, q4, hsame⟩ := HS10
    clear hwz
    have e0 := ZZ.cell (i := 0) rfl
    have e1 := ZZ.cell (i := 1) rfl
    have e2 := ZZ.cell (i := 2) rfl
    have e3 := ZZ.cell (i := 3) rfl
    have e4 := ZZ.cell (i := 4) rfl
    have e5 := ZZ.cell (i := 5) rfl
    have e6 := ZZ.cell (i := 6) rfl
    have e7 := ZZ.cell (i := 7) rfl
    have e8 := ZZ.cell (i := 8) rfl
    have e9 := ZZ.cell (i := 9) rfl
    have XZ : Ext w wz := ⟨q1.trans X1.out.os, q2.trans X1.out.tape, q3.trans X1.out.output, Nat.le_trans X1.out.size (Nat.le_of_eq q4.symm), fun b hb => (hsame b (by have := HZW.out; omega)).trans (X1.out.block b hb)⟩
    refine bodyPost_ret (v := .tuple #[.agg #[.int .u8 0, .int .u64 0, .int .u64 0, .int .i64 0, .int .i64 0, .slice none 0 0, .slice none 0 0, .int .u64 0, .slice none 0 0, .bool false], .int .i64 3]) (by simp [results, Tryd.results12, go_sem, e0, e1, e2, e3, e4, e5, e6, e7, e8, e9]; try rfl) rfl ?_
    exact DecP.no XZ HV.out rfl
  · obtain ⟨m, hm⟩ : ∃ m, n = m + 4 := ⟨n - 4, by omega⟩
    have HM := hide hm
    have h5i : ¬ (n : Int) - 4 < 1 := by omega
    have hnm : (n : Int) - 4 = (m : Int) := by omega
    have hm1 : 1 ≤ m := by omega
    have hmi : ¬ (m : Int) < 1 := by omega
    have hmc : (m : Int) ≤ (c : Int) := by omega
    have hmn : (m : Int) ≤ (n : Int) := by omega
    have hcm : ¬ c = m := by omega
    have hnm2 : n - m = 4 := by omega
    obtain ⟨b, off, rfl, hcell⟩ := hr (by intro e; rw [e] at hn; simp at hn; omega)
    have HC := hide hcell
    obtain ⟨x, HXX⟩ : ∃ x, Hid (l.take m = x) := ⟨_, hide rfl⟩
    obtain ⟨y, HYY⟩ : ∃ y, Hid (l.drop m = y) := ⟨_, hide rfl⟩
    have HXL : Hid (x.length = m) := hide (by rw [← HXX.out, List.length_take, hn]; omega)
    have HYL : Hid (y.length = 4) := hide (by rw [← HYY.out, List.length_drop, hn]; omega)
    have RX : Hid (Rd w (some ⟨b, off, none⟩) x) := hide (by rw [← HXX.out]; exact hr.take m)
    have RY : Hid (Rd w (some ⟨b, off + m, none⟩) y) := hide (by rw [← HYY.out]; have h := hr.drop m; rwa [add_flat] at h)
    have HDV : Hid (decV l = if (sumB x == y) = false then (15, none) else if (rdRec (x, false)).2 = ([], false) ∧ formB (rdRec (x, false)).1 = true then (0, some (rdRec (x, false)).1) else (3, none)) := hide (by
      unfold decV
      rw [if_neg (by rw [hn]; exact h5), show l.length - 4 = m by omega, HXX.out, HYY.out])
    have HS4 : Hid ((sumB x).length = 4) := hide (numN_length 4 _ (by decide))
    have KS := hide (fun (W : World) (hW : Ext w W) => sumOf_any (some ⟨b, off, none⟩) x m c W (RX.out.ext hW) HXL.out (by omega) (HT.out.ext hW))
    have hmb : m ≤ 140737488351232 := by omega
    have HMB := hide hmb
    have HMN : Hid (m ≤ c) := hide (by omega)
    clear hr hn hnc ht hl hm h5 hcell hmb
    go_enter Tryd.func12, Tryd.ntmps12
    go_upto_region 1 with fail
    obtain ⟨W1, hX1, hZ1, hgg⟩ : ∃ W1, Ext w W1 ∧ Rw W1 w.heap.size 26 [.int .u8 0, .int .u64 0, .int .u64 0, .int .i64 0, .int .i64 0, .slice none 0 0, .slice none 0 0, .int .u64 0, .slice none 0 0, .bool false] ∧ w.alloc (.cells #[.int .u8 0, .int .u64 0, .int .u64 0, .int .i64 0, .int .i64 0, .slice none 0 0, .slice none 0 0, .int .u64 0, .slice none 0 0, .bool false] 26) = W1 := ⟨_, Ext.alloc _ _, Rw.new _ _ _, rfl⟩
    rw [hgg]
    obtain ⟨hz, HHZ⟩ : ∃ hz, Hid (w.heap.size = hz) := ⟨_, hide rfl⟩
    rw [HHZ.out] at hZ1 ⊢
    have HZW : Hid (w.heap.size ≤ hz) := hide (by rw [HHZ.out]; exact Nat.le_refl _)
    have X1 := hide hX1
    have ZX1 := hide hZ1
    clear hgg hX1 hZ1
    go_upto_region 4 with fail
    obtain ⟨q, HQ⟩ : ∃ q, Hid ((sumB x == y) = q) := ⟨_, hide rfl⟩
    rename_i hKK
    go_region_law (first
      | (go_simp; go_at_call 21; refine (KS.out _ (X1.out.trans (Ext.drew _))).mono ?_; rintro e w2 ⟨v2, rfl, hx2, ho2⟩; obtain ⟨As, cs, hvs, -, hrs⟩ := Own.bytes ho2; rw [HS4.out] at hvs; subst hvs; have KE := equal_any As (some ⟨b, off + m, none⟩) (sumB x) y 4 4 cs (c - m) w2 hrs (RY.out.ext ((X1.out.trans (Ext.drew _)).trans hx2)) HS4.out HYL.out; rw [HQ.out] at KE; have X2 : Hid (Ext w w2) := hide ((X1.out.trans (Ext.drew _)).trans hx2); have ZX2 : Hid (Rw w2 hz 26 [.int .u8 0, .int .u64 0, .int .u64 0, .int .i64 0, .int .i64 0, .slice none 0 0, .slice none 0 0, .int .u64 0, .slice none 0 0, .bool false]) := hide ((ZX1.out.ext (Ext.drew _)).ext hx2))
      | (go_simp; go_at_call 22; refine KE.mono ?_; rintro e w3 ⟨rfl, rfl⟩))
    all_goals
      cases q with
      | false =>
        have z0 := ZX2.out.cell (i := 0) rfl
        have z1 := ZX2.out.cell (i := 1) rfl
        have z2 := ZX2.out.cell (i := 2) rfl
        have z3 := ZX2.out.cell (i := 3) rfl
        have z4 := ZX2.out.cell (i := 4) rfl
        have z5 := ZX2.out.cell (i := 5) rfl
        have z6 := ZX2.out.cell (i := 6) rfl
        have z7 := ZX2.out.cell (i := 7) rfl
        have z8 := ZX2.out.cell (i := 8) rfl
        have z9 := ZX2.out.cell (i := 9) rfl
        have f0 := ZX2.out.frozen 0
        have f1 := ZX2.out.frozen 1
        have f2 := ZX2.out.frozen 2
        have f3 := ZX2.out.frozen 3
        have f4 := ZX2.out.frozen 4
        have f5 := ZX2.out.frozen 5
        have f6 := ZX2.out.frozen 6
        have f7 := ZX2.out.frozen 7
        have f8 := ZX2.out.frozen 8
        have f9 := ZX2.out.frozen 9
        go_wp2
        have ZZ := ((((((((((ZX2.out.set 0 (.int .u8 0)).set 1 (.int .u64 0)).set 2 (.int .u64 0)).set 3 (.int .i64 0)).set 4 (.int .i64 0)).set 5 (.slice none 0 0)).set 6 (.slice none 0 0)).set 7 (.int .u64 0)).set 8 (.slice none 0 0)).set 9 (.bool false))
        have HS10 := sets_only hz [(0, .int .u8 0), (1, .int .u64 0), (2, .int .u64 0), (3, .int .i64 0), (4, .int .i64 0), (5, .slice none 0 0), (6, .slice none 0 0), (7, .int .u64 0), (8, .slice none 0 0), (9, .bool false)] w3
        simp only [List.foldl_cons, List.foldl_nil] at HS10
        obtain ⟨wz, hwz⟩ : ∃ wz, ((((((((((w3).setCell ⟨hz, 0, none⟩ (.int .u8 0)).setCell ⟨hz, 1, none⟩ (.int .u64 0)).setCell ⟨hz, 2, none⟩ (.int .u64 0)).setCell ⟨hz, 3, none⟩ (.int .i64 0)).setCell ⟨hz, 4, none⟩ (.int .i64 0)).setCell ⟨hz, 5, none⟩ (.slice none 0 0)).setCell ⟨hz, 6, none⟩ (.slice none 0 0)).setCell ⟨hz, 7, none⟩ (.int .u64 0)).setCell ⟨hz, 8, none⟩ (.slice none 0 0)).setCell ⟨hz, 9, none⟩ (.bool false) = wz := ⟨_, rfl⟩
        rw [hwz] at HS10 ZZ ⊢
        obtain ⟨q1, q2, q3, q4, hsame⟩ := HS10
        clear hwz
        have e0 := ZZ.cell (i := 0) rfl
        have e1 := ZZ.cell (i := 1) rfl
        have e2 := ZZ.cell (i := 2) rfl
        have e3 := ZZ.cell (i := 3) rfl
        have e4 := ZZ.cell (i := 4) rfl
        have e5 := ZZ.cell (i := 5) rfl
        have e6 := ZZ.cell (i := 6) rfl
        have e7 := ZZ.cell (i := 7) rfl
        have e8 := ZZ.cell (i := 8) rfl
        have e9 := ZZ.cell (i := 9) rfl
        have XZ : Ext w wz := ⟨q1.trans X2.out.os, q2.trans X2.out.tape, q3.trans X2.out.output, Nat.le_trans X2.out.size (Nat.le_of_eq q4.symm), fun b hb => (hsame b (by have := HZW.out; omega)).trans (X2.out.block b hb)⟩
        refine bodyPost_ret (v := .tuple #[.agg #[.int .u8 0, .int .u64 0, .int .u64 0, .int .i64 0, .int .i64 0, .slice none 0 0, .slice none 0 0, .int .u64 0, .slice none 0 0, .bool false], .int .i64 15]) (by simp [results, Tryd.results12, go_sem, e0, e1, e2, e3, e4, e5, e6, e7, e8, e9]; try rfl) rfl ?_
        exact DecP.no XZ (by rw [HDV.out, HQ.out, if_pos rfl]) rfl
      | true =>
        have O2H := hide ho2
        clear ho2 KE hrs
        go_upto_region 7 with fail
        obtain ⟨w6, hX6, hG6, hgg⟩ : ∃ W, Ext w3 W ∧ Rw W w3.heap.size 54 [.slice (some ⟨b, off, none⟩) m c, .bool false] ∧ w3.alloc (.cells #[.slice (some ⟨b, off, none⟩) m c, .bool false] 54) = W := ⟨_, Ext.alloc _ _, Rw.new _ _ _, rfl⟩
        rw [hgg]
        obtain ⟨g, HHG⟩ : ∃ g, Hid (w3.heap.size = g) := ⟨_, hide rfl⟩
        rw [HHG.out] at hG6 ⊢
        have X6 : Hid (Ext w w6) := hide (X2.out.trans hX6)
        have ZX6 := hide (ZX2.out.ext hX6)
        have HGW : Hid (w.heap.size ≤ g ∧ hz ≠ g) := hide ⟨by rw [← HHG.out]; exact X2.out.size, by have h1 := ZX2.out.lt; rw [HHG.out] at h1; omega⟩
        have RD6 : Hid (RdrAt w w6 g (x, false)) := hide ⟨some ⟨b, off, none⟩, c, by show Rw _ _ _ [.slice _ x.length _, _]; rw [HXL.out]; exact hG6, by show x.length ≤ c; rw [HXL.out]; exact HMN.out, .inr ⟨b, off, rfl, fun j u hu => by
          have hu : x[j]? = some u := hu
          rw [← HXX.out, List.getElem?_take] at hu
          split at hu
          · exact HC.out j u hu
          · cases hu⟩⟩
        obtain ⟨R, HRR⟩ : ∃ R, Hid (rdRec (x, false) = R) := ⟨_, hide rfl⟩
        have KR0 := record_any g (x, false) w w6 X6.out HGW.out.1 RD6.out (by show x.length ≤ _; rw [HXL.out]; exact HMB.out)
        have HIN := rdRec_in (x, false)
        rw [HRR.out] at KR0 HIN
        obtain ⟨⟨k, tx, pv, pg, of_, bf, af, nx, dl, op⟩, ⟨lf, sh⟩⟩ := R
        obtain ⟨nb, HNB⟩ : ∃ n, Hid (bf.length = n) := ⟨_, hide rfl⟩
        obtain ⟨na, HNA⟩ : ∃ n, Hid (af.length = n) := ⟨_, hide rfl⟩
        obtain ⟨nd, HND⟩ : ∃ n, Hid (dl.length = n) := ⟨_, hide rfl⟩
        obtain ⟨pl, HPL⟩ : ∃ n, Hid (lf.length = n) := ⟨_, hide rfl⟩
        obtain ⟨⟨ho0, ho1⟩, hb2, ha2, hd2⟩ := HIN
        have ho0 : 0 ≤ of_ := ho0
        have ho1 : of_ < 65536 := ho1
        have hb2 : nb ≤ 65535 := by rw [← HNB.out]; exact hb2
        have ha2 : na ≤ 65535 := by rw [← HNA.out]; exact ha2
        have hd2 : nd ≤ 255 := by rw [← HND.out]; exact hd2
        have KR : Hid (Calls Tryd.prog 23 #[.pointer (some ⟨g, 0, none⟩)] w6 (fun e w' => ∃ v5 v6 v8, e = .returned (.agg #[.int .u8 k, .int .u64 tx, .int .u64 pv, .int .i64 pg, .int .i64 of_, v5, v6, .int .u64 nx, v8, .bool op]) ∧ Own w' w6.heap.size v5 bf ∧ Own w' w6.heap.size v6 af ∧ OwnD w' w6.heap.size v8 dl ∧ RdrAt w w' g (lf, sh) ∧ w6.grownBy w' (some g) ∧ ∀ b, v5.ownBlock = some b → v6.ownBlock ≠ some b)) := hide KR0
        have HZ6 : Hid (hz < w6.heap.size) := hide ZX6.out.lt
        have HW6 : Hid (w.heap.size ≤ w6.heap.size) := hide X6.out.size
        clear KR0 hX6 hG6 hgg X2 ZX2
        go_upto_region 8 with (go_at_call 23; (with_reducible refine KR.out.mono ?_); rintro e w7 ⟨v5, v6, v8, rfl, ho5, ho6, ho8, hr7, hg7, hdj⟩; have O5 := hide ho5; have O6 := hide ho6; have O8 := hide ho8; have RD7 := hide hr7; have X7 : Hid (Ext w w7) := hide (X6.out.grown hg7 X6.out.size (fun b hb => by injection hb with hb; have := HGW.out.1; omega)); have ZX7 : Hid (Rw w7 hz 26 [.int .u8 0, .int .u64 0, .int .u64 0, .int .i64 0, .int .i64 0, .slice none 0 0, .slice none 0 0, .int .u64 0, .slice none 0 0, .bool false]) := hide ((hg7.block hz ZX6.out.lt (fun e => HGW.out.2 (by injection e))).trans ZX6.out); have S6 : Hid (w6.heap.size ≤ w7.heap.size) := hide hg7.size; obtain ⟨A5, c5, hv5, -, -⟩ := ho5.bytes; obtain ⟨A6, c6, hv6, -, -⟩ := ho6.bytes; obtain ⟨A8, c8, hv8, -, hr8⟩ := ho8.slice; rw [HNB.out] at hv5; rw [HNA.out] at hv6; rw [HND.out] at hv8; subst hv5 hv6 hv8; have HR8 := hide hr8; have DJ := hide hdj; clear hr8 ho5 ho6 ho8 hr7 hg7 hdj)
        clear KR
        obtain ⟨w8, hX8, hB8, hgg⟩ : ∃ W, Ext w7 W ∧ Rw W w7.heap.size 26 [.int .u8 k, .int .u64 tx, .int .u64 pv, .int .i64 pg, .int .i64 of_, .slice A5 nb c5, .slice A6 na c6, .int .u64 nx, .slice A8 nd c8, .bool op] ∧ w7.alloc (.cells #[.int .u8 k, .int .u64 tx, .int .u64 pv, .int .i64 pg, .int .i64 of_, .slice A5 nb c5, .slice A6 na c6, .int .u64 nx, .slice A8 nd c8, .bool op] 26) = W := ⟨_, Ext.alloc _ _, Rw.new _ _ _, rfl⟩
        rw [hgg]
        obtain ⟨hb, HHB⟩ : ∃ hb, Hid (w7.heap.size = hb) := ⟨_, hide rfl⟩
        rw [HHB.out] at hB8 ⊢
        have X8 : Hid (Ext w w8) := hide (X7.out.trans hX8)
        have E78 := hide hX8
        have ZX8 := hide (ZX7.out.ext hX8)
        have BX8 := hide hB8
        have HNZ : Hid (hz ≠ hb) := hide (by have := ZX7.out.lt; have := HHB.out; omega)
        obtain ⟨Al, cl, hrl, -, -⟩ := (RD7.out.ext hX8).out
        have hrl : Rw w8 g 54 [.slice Al lf.length cl, .bool sh] := hrl
        rw [HPL.out] at hrl
        have c0 := hrl.cell (i := 0) rfl
        have c1 := hrl.cell (i := 1) rfl
        clear hX8 hB8 hgg hrl X7 ZX7 X6 ZX6 RD6
        cases sh with
        | true =>
          go_upto_region 9 with fail
          have z0 := ZX8.out.cell (i := 0) rfl
          have z1 := ZX8.out.cell (i := 1) rfl
          have z2 := ZX8.out.cell (i := 2) rfl
          have z3 := ZX8.out.cell (i := 3) rfl
          have z4 := ZX8.out.cell (i := 4) rfl
          have z5 := ZX8.out.cell (i := 5) rfl
          have z6 := ZX8.out.cell (i := 6) rfl
          have z7 := ZX8.out.cell (i := 7) rfl
          have z8 := ZX8.out.cell (i := 8) rfl
          have z9 := ZX8.out.cell (i := 9) rfl
          have f0 := ZX8.out.frozen 0
          have f1 := ZX8.out.frozen 1
          have f2 := ZX8.out.frozen 2
          have f3 := ZX8.out.frozen 3
          have f4 := ZX8.out.frozen 4
          have f5 := ZX8.out.frozen 5
          have f6 := ZX8.out.frozen 6
          have f7 := ZX8.out.frozen 7
          have f8 := ZX8.out.frozen 8
          have f9 := ZX8.out.frozen 9
          go_wp2
          have ZZ := ((((((((((ZX8.out.set 0 (.int .u8 0)).set 1 (.int .u64 0)).set 2 (.int .u64 0)).set 3 (.int .i64 0)).set 4 (.int .i64 0)).set 5 (.slice none 0 0)).set 6 (.slice none 0 0)).set 7 (.int .u64 0)).set 8 (.slice none 0 0)).set 9 (.bool false))
          have HS10 := sets_only hz [(0, .int .u8 0), (1, .int .u64 0), (2, .int .u64 0), (3, .int .i64 0), (4, .int .i64 0), (5, .slice none 0 0), (6, .slice none 0 0), (7, .int .u64 0), (8, .slice none 0 0), (9, .bool false)] w8
          simp only [List.foldl_cons, List.foldl_nil] at HS10
          obtain ⟨wz, hwz⟩ : ∃ wz, ((((((((((w8).setCell ⟨hz, 0, none⟩ (.int .u8 0)).setCell ⟨hz, 1, none⟩ (.int .u64 0)).setCell ⟨hz, 2, none⟩ (.int .u64 0)).setCell ⟨hz, 3, none⟩ (.int .i64 0)).setCell ⟨hz, 4, none⟩ (.int .i64 0)).setCell ⟨hz, 5, none⟩ (.slice none 0 0)).setCell ⟨hz, 6, none⟩ (.slice none 0 0)).setCell ⟨hz, 7, none⟩ (.int .u64 0)).setCell ⟨hz, 8, none⟩ (.slice none 0 0)).setCell ⟨hz, 9, none⟩ (.bool false) = wz := ⟨_, rfl⟩
          rw [hwz] at HS10 ZZ ⊢
          obtain ⟨q1, q2, q3, q4, hsame⟩ := HS10
          clear hwz
          have e0 := ZZ.cell (i := 0) rfl
          have e1 := ZZ.cell (i := 1) rfl
          have e2 := ZZ.cell (i := 2) rfl
          have e3 := ZZ.cell (i := 3) rfl
          have e4 := ZZ.cell (i := 4) rfl
          have e5 := ZZ.cell (i := 5) rfl
          have e6 := ZZ.cell (i := 6) rfl
          have e7 := ZZ.cell (i := 7) rfl
          have e8 := ZZ.cell (i := 8) rfl
          have e9 := ZZ.cell (i := 9) rfl
          have XZ : Ext w wz := ⟨q1.trans X8.out.os, q2.trans X8.out.tape, q3.trans X8.out.output, Nat.le_trans X8.out.size (Nat.le_of_eq q4.symm), fun b hb => (hsame b (by have := HZW.out; omega)).trans (X8.out.block b hb)⟩
          refine bodyPost_ret (v := .tuple #[.agg #[.int .u8 0, .int .u64 0, .int .u64 0, .int .i64 0, .int .i64 0, .slice none 0 0, .slice none 0 0, .int .u64 0, .slice none 0 0, .bool false], .int .i64 3]) (by simp [results, Tryd.results12, go_sem, e0, e1, e2, e3, e4, e5, e6, e7, e8, e9]; try rfl) rfl ?_
          exact DecP.no XZ (by rw [HDV.out, HQ.out, if_neg (by decide), if_neg (by rw [HRR.out]; exact fun h => (by cases h.1))]) rfl
        | false =>
          by_cases hp : pl = 0
          · have hpi : ¬ (0 : Int) < (pl : Int) := by omega
            have hpn : ¬ 0 < pl := by omega
            obtain ⟨fb, HFB⟩ : ∃ fb, Hid (formN k pv pg of_ nx na nb nd dl op = fb) := ⟨_, hide rfl⟩
            have KF := hide (fun (W : World) (hW : Ext w7 W) => (show Calls Tryd.prog 9 #[.agg #[.int .u8 k, .int .u64 tx, .int .u64 pv, .int .i64 pg, .int .i64 of_, .slice A5 nb c5, .slice A6 na c6, .int .u64 nx, .slice A8 nd c8, .bool op]] W (RetB W fb) from by have h := form_any k tx pv pg of_ nx A5 A6 A8 nb c5 na c6 nd c8 op W dl (HR8.out.ext hW) HND.out (by omega) (by omega) (by omega) (by omega) (by omega); rw [HFB.out] at h; exact h))
            have HFBB : Hid (formB ⟨k, tx, pv, pg, of_, bf, af, nx, dl, op⟩ = fb) := hide (by rw [← HFB.out, ← HNB.out, ← HNA.out, ← HND.out]; rfl)
            have HLF : Hid (lf = []) := hide (List.length_eq_zero_iff.1 (by rw [HPL.out]; exact hp))
            have y0 := BX8.out.cell (i := 0) rfl
            have y1 := BX8.out.cell (i := 1) rfl
            have y2 := BX8.out.cell (i := 2) rfl
            have y3 := BX8.out.cell (i := 3) rfl
            have y4 := BX8.out.cell (i := 4) rfl
            have y5 := BX8.out.cell (i := 5) rfl
            have y6 := BX8.out.cell (i := 6) rfl
            have y7 := BX8.out.cell (i := 7) rfl
            have y8 := BX8.out.cell (i := 8) rfl
            have y9 := BX8.out.cell (i := 9) rfl
            cases fb with
            | false =>
              go_upto_region 9 with (go_at_call 9; (with_reducible refine (KF.out _ E78.out).mono ?_); rintro e w9 ⟨rfl, hx9⟩; have X9 : Hid (Ext w w9) := hide (X8.out.trans hx9); have E79 : Hid (Ext w7 w9) := hide (E78.out.trans hx9); have ZX9 := hide (ZX8.out.ext hx9); have BX9 := hide (BX8.out.ext hx9); clear hx9)
              have z0 := ZX9.out.cell (i := 0) rfl
              have z1 := ZX9.out.cell (i := 1) rfl
              have z2 := ZX9.out.cell (i := 2) rfl
              have z3 := ZX9.out.cell (i := 3) rfl
              have z4 := ZX9.out.cell (i := 4) rfl
              have z5 := ZX9.out.cell (i := 5) rfl
              have z6 := ZX9.out.cell (i := 6) rfl
              have z7 := ZX9.out.cell (i := 7) rfl
              have z8 := ZX9.out.cell (i := 8) rfl
              have z9 := ZX9.out.cell (i := 9) rfl
              have f0 := ZX9.out.frozen 0
              have f1 := ZX9.out.frozen 1
              have f2 := ZX9.out.frozen 2
              have f3 := ZX9.out.frozen 3
              have f4 := ZX9.out.frozen 4
              have f5 := ZX9.out.frozen 5
              have f6 := ZX9.out.frozen 6
              have f7 := ZX9.out.frozen 7
              have f8 := ZX9.out.frozen 8
              have f9 := ZX9.out.frozen 9
              go_wp2
              have ZZ := ((((((((((ZX9.out.set 0 (.int .u8 0)).set 1 (.int .u64 0)).set 2 (.int .u64 0)).set 3 (.int .i64 0)).set 4 (.int .i64 0)).set 5 (.slice none 0 0)).set 6 (.slice none 0 0)).set 7 (.int .u64 0)).set 8 (.slice none 0 0)).set 9 (.bool false))
              have HS10 := sets_only hz [(0, .int .u8 0), (1, .int .u64 0), (2, .int .u64 0), (3, .int .i64 0), (4, .int .i64 0), (5, .slice none 0 0), (6, .slice none 0 0), (7, .int .u64 0), (8, .slice none 0 0), (9, .bool false)] w9
              simp only [List.foldl_cons, List.foldl_nil] at HS10
              obtain ⟨wz, hwz⟩ : ∃ wz, ((((((((((w9).setCell ⟨hz, 0, none⟩ (.int .u8 0)).setCell ⟨hz, 1, none⟩ (.int .u64 0)).setCell ⟨hz, 2, none⟩ (.int .u64 0)).setCell ⟨hz, 3, none⟩ (.int .i64 0)).setCell ⟨hz, 4, none⟩ (.int .i64 0)).setCell ⟨hz, 5, none⟩ (.slice none 0 0)).setCell ⟨hz, 6, none⟩ (.slice none 0 0)).setCell ⟨hz, 7, none⟩ (.int .u64 0)).setCell ⟨hz, 8, none⟩ (.slice none 0 0)).setCell ⟨hz, 9, none⟩ (.bool false) = wz := ⟨_, rfl⟩
              rw [hwz] at HS10 ZZ ⊢
              obtain ⟨q1, q2, q3, q4, hsame⟩ := HS10
              clear hwz
              have e0 := ZZ.cell (i := 0) rfl
              have e1 := ZZ.cell (i := 1) rfl
              have e2 := ZZ.cell (i := 2) rfl
              have e3 := ZZ.cell (i := 3) rfl
              have e4 := ZZ.cell (i := 4) rfl
              have e5 := ZZ.cell (i := 5) rfl
              have e6 := ZZ.cell (i := 6) rfl
              have e7 := ZZ.cell (i := 7) rfl
              have e8 := ZZ.cell (i := 8) rfl
              have e9 := ZZ.cell (i := 9) rfl
              have XZ : Ext w wz := ⟨q1.trans X9.out.os, q2.trans X9.out.tape, q3.trans X9.out.output, Nat.le_trans X9.out.size (Nat.le_of_eq q4.symm), fun b hb => (hsame b (by have := HZW.out; omega)).trans (X9.out.block b hb)⟩
              refine bodyPost_ret (v := .tuple #[.agg #[.int .u8 0, .int .u64 0, .int .u64 0, .int .i64 0, .int .i64 0, .slice none 0 0, .slice none 0 0, .int .u64 0, .slice none 0 0, .bool false], .int .i64 3]) (by simp [results, Tryd.results12, go_sem, e0, e1, e2, e3, e4, e5, e6, e7, e8, e9]; try rfl) rfl ?_
              exact DecP.no XZ (by rw [HDV.out, HQ.out, if_neg (by decide), if_neg (by rw [HRR.out]; exact fun h => (by have h2 := h.2; rw [HFBB.out] at h2; cases h2))]) rfl
            | true =>
              go_upto_region 10 with (go_at_call 9; (with_reducible refine (KF.out _ E78.out).mono ?_); rintro e w9 ⟨rfl, hx9⟩; have X9 : Hid (Ext w w9) := hide (X8.out.trans hx9); have E79 : Hid (Ext w7 w9) := hide (E78.out.trans hx9); have ZX9 := hide (ZX8.out.ext hx9); have BX9 := hide (BX8.out.ext hx9); clear hx9)
              clear y0 y1 y2 y3 y4 y5 y6 y7 y8 y9
              have y0 := BX9.out.cell (i := 0) rfl
              have y1 := BX9.out.cell (i := 1) rfl
              have y2 := BX9.out.cell (i := 2) rfl
              have y3 := BX9.out.cell (i := 3) rfl
              have y4 := BX9.out.cell (i := 4) rfl
              have y5 := BX9.out.cell (i := 5) rfl
              have y6 := BX9.out.cell (i := 6) rfl
              have y7 := BX9.out.cell (i := 7) rfl
              have y8 := BX9.out.cell (i := 8) rfl
              have y9 := BX9.out.cell (i := 9) rfl
              have z0 := ZX9.out.cell (i := 0) rfl
              have z1 := ZX9.out.cell (i := 1) rfl
              have z2 := ZX9.out.cell (i := 2) rfl
              have z3 := ZX9.out.cell (i := 3) rfl
              have z4 := ZX9.out.cell (i := 4) rfl
              have z5 := ZX9.out.cell (i := 5) rfl
              have z6 := ZX9.out.cell (i := 6) rfl
              have z7 := ZX9.out.cell (i := 7) rfl
              have z8 := ZX9.out.cell (i := 8) rfl
              have z9 := ZX9.out.cell (i := 9) rfl
              have f0 := ZX9.out.frozen 0
              have f1 := ZX9.out.frozen 1
              have f2 := ZX9.out.frozen 2
              have f3 := ZX9.out.frozen 3
              have f4 := ZX9.out.frozen 4
              have f5 := ZX9.out.frozen 5
              have f6 := ZX9.out.frozen 6
              have f7 := ZX9.out.frozen 7
              have f8 := ZX9.out.frozen 8
              have f9 := ZX9.out.frozen 9
              go_wp2
              have ZZ := ((((((((((ZX9.out.set 0 (.int .u8 k)).set 1 (.int .u64 tx)).set 2 (.int .u64 pv)).set 3 (.int .i64 pg)).set 4 (.int .i64 of_)).set 5 (.slice A5 nb c5)).set 6 (.slice A6 na c6)).set 7 (.int .u64 nx)).set 8 (.slice A8 nd c8)).set 9 (.bool op))
              have HS10 := sets_only hz [(0, .int .u8 k), (1, .int .u64 tx), (2, .int .u64 pv), (3, .int .i64 pg), (4, .int .i64 of_), (5, .slice A5 nb c5), (6, .slice A6 na c6), (7, .int .u64 nx), (8, .slice A8 nd c8), (9, .bool op)] w9
              simp only [List.foldl_cons, List.foldl_nil] at HS10
              obtain ⟨wz, hwz⟩ : ∃ wz, ((((((((((w9).setCell ⟨hz, 0, none⟩ (.int .u8 k)).setCell ⟨hz, 1, none⟩ (.int .u64 tx)).setCell ⟨hz, 2, none⟩ (.int .u64 pv)).setCell ⟨hz, 3, none⟩ (.int .i64 pg)).setCell ⟨hz, 4, none⟩ (.int .i64 of_)).setCell ⟨hz, 5, none⟩ (.slice A5 nb c5)).setCell ⟨hz, 6, none⟩ (.slice A6 na c6)).setCell ⟨hz, 7, none⟩ (.int .u64 nx)).setCell ⟨hz, 8, none⟩ (.slice A8 nd c8)).setCell ⟨hz, 9, none⟩ (.bool op) = wz := ⟨_, rfl⟩
              rw [hwz] at HS10 ZZ ⊢
              obtain ⟨q1, q2, q3, q4, hsame⟩ := HS10
              clear hwz
              have e0 := ZZ.cell (i := 0) rfl
              have e1 := ZZ.cell (i := 1) rfl
              have e2 := ZZ.cell (i := 2) rfl
              have e3 := ZZ.cell (i := 3) rfl
              have e4 := ZZ.cell (i := 4) rfl
              have e5 := ZZ.cell (i := 5) rfl
              have e6 := ZZ.cell (i := 6) rfl
              have e7 := ZZ.cell (i := 7) rfl
              have e8 := ZZ.cell (i := 8) rfl
              have e9 := ZZ.cell (i := 9) rfl
              have XZ : Ext w wz := ⟨q1.trans X9.out.os, q2.trans X9.out.tape, q3.trans X9.out.output, Nat.le_trans X9.out.size (Nat.le_of_eq q4.symm), fun b hb => (hsame b (by have := HZW.out; omega)).trans (X9.out.block b hb)⟩
              refine bodyPost_ret (v := .tuple #[.agg #[.int .u8 k, .int .u64 tx, .int .u64 pv, .int .i64 pg, .int .i64 of_, .slice A5 nb c5, .slice A6 na c6, .int .u64 nx, .slice A8 nd c8, .bool op], .int .i64 0]) (by simp [results, Tryd.results12, go_sem, e0, e1, e2, e3, e4, e5, e6, e7, e8, e9]; try rfl) rfl ?_
              have HV : decV l = (0, some ⟨k, tx, pv, pg, of_, bf, af, nx, dl, op⟩) := by
                rw [HDV.out, HQ.out, if_neg (by decide), if_pos (by rw [HRR.out]; exact ⟨by rw [HLF.out], HFBB.out⟩), HRR.out]
              rw [HV]
              have hk : ∀ b, w6.heap.size ≤ b → b < w7.heap.size → wz.heap[b]? = w7.heap[b]? := fun b h1 h2 => (hsame b (by have := HZ6.out; omega)).trans (E79.out.block b h2)
              exact ⟨XZ, _, _, _, rfl, own_mono2 (O5.out.sameB hk) HW6.out, own_mono2 (O6.out.sameB hk) HW6.out, ownD_mono (O8.out.same (fun b hb => hk b (O8.out.at b hb).1 (O8.out.at b hb).2)) HW6.out, DJ.out⟩
          · have hpi : (0 : Int) < (pl : Int) := by omega
            have hpn : 0 < pl := by omega
            go_upto_region 9 with fail
            have z0 := ZX8.out.cell (i := 0) rfl
            have z1 := ZX8.out.cell (i := 1) rfl
            have z2 := ZX8.out.cell (i := 2) rfl
            have z3 := ZX8.out.cell (i := 3) rfl
            have z4 := ZX8.out.cell (i := 4) rfl
            have z5 := ZX8.out.cell (i := 5) rfl
            have z6 := ZX8.out.cell (i := 6) rfl
            have z7 := ZX8.out.cell (i := 7) rfl
            have z8 := ZX8.out.cell (i := 8) rfl
            have z9 := ZX8.out.cell (i := 9) rfl
            have f0 := ZX8.out.frozen 0
            have f1 := ZX8.out.frozen 1
            have f2 := ZX8.out.frozen 2
            have f3 := ZX8.out.frozen 3
            have f4 := ZX8.out.frozen 4
            have f5 := ZX8.out.frozen 5
            have f6 := ZX8.out.frozen 6
            have f7 := ZX8.out.frozen 7
            have f8 := ZX8.out.frozen 8
            have f9 := ZX8.out.frozen 9
            go_wp2
            have ZZ := ((((((((((ZX8.out.set 0 (.int .u8 0)).set 1 (.int .u64 0)).set 2 (.int .u64 0)).set 3 (.int .i64 0)).set 4 (.int .i64 0)).set 5 (.slice none 0 0)).set 6 (.slice none 0 0)).set 7 (.int .u64 0)).set 8 (.slice none 0 0)).set 9 (.bool false))
            have HS10 := sets_only hz [(0, .int .u8 0), (1, .int .u64 0), (2, .int .u64 0), (3, .int .i64 0), (4, .int .i64 0), (5, .slice none 0 0), (6, .slice none 0 0), (7, .int .u64 0), (8, .slice none 0 0), (9, .bool false)] w8
            simp only [List.foldl_cons, List.foldl_nil] at HS10
            obtain ⟨wz, hwz⟩ : ∃ wz, ((((((((((w8).setCell ⟨hz, 0, none⟩ (.int .u8 0)).setCell ⟨hz, 1, none⟩ (.int .u64 0)).setCell ⟨hz, 2, none⟩ (.int .u64 0)).setCell ⟨hz, 3, none⟩ (.int .i64 0)).setCell ⟨hz, 4, none⟩ (.int .i64 0)).setCell ⟨hz, 5, none⟩ (.slice none 0 0)).setCell ⟨hz, 6, none⟩ (.slice none 0 0)).setCell ⟨hz, 7, none⟩ (.int .u64 0)).setCell ⟨hz, 8, none⟩ (.slice none 0 0)).setCell ⟨hz, 9, none⟩ (.bool false) = wz := ⟨_, rfl⟩
            rw [hwz] at HS10 ZZ ⊢
            obtain ⟨q1, q2, q3, q4, hsame⟩ := HS10
            clear hwz
            have e0 := ZZ.cell (i := 0) rfl
            have e1 := ZZ.cell (i := 1) rfl
            have e2 := ZZ.cell (i := 2) rfl
            have e3 := ZZ.cell (i := 3) rfl
            have e4 := ZZ.cell (i := 4) rfl
            have e5 := ZZ.cell (i := 5) rfl
            have e6 := ZZ.cell (i := 6) rfl
            have e7 := ZZ.cell (i := 7) rfl
            have e8 := ZZ.cell (i := 8) rfl
            have e9 := ZZ.cell (i := 9) rfl
            have XZ : Ext w wz := ⟨q1.trans X8.out.os, q2.trans X8.out.tape, q3.trans X8.out.output, Nat.le_trans X8.out.size (Nat.le_of_eq q4.symm), fun b hb => (hsame b (by have := HZW.out; omega)).trans (X8.out.block b hb)⟩
            refine bodyPost_ret (v := .tuple #[.agg #[.int .u8 0, .int .u64 0, .int .u64 0, .int .i64 0, .int .i64 0, .slice none 0 0, .slice none 0 0, .int .u64 0, .slice none 0 0, .bool false], .int .i64 3]) (by simp [results, Tryd.results12, go_sem, e0, e1, e2, e3, e4, e5, e6, e7, e8, e9]; try rfl) rfl ?_
            exact DecP.no XZ (by rw [HDV.out, HQ.out, if_neg (by decide), if_neg (by rw [HRR.out]; exact fun h => hp (by have h1 := congrArg Prod.fst h.1; have h1 : lf = [] := h1; rw [← HPL.out, h1]; rfl))]) rfl
end Go.Proofs.YtkbmcebdhiiffaaDoor
