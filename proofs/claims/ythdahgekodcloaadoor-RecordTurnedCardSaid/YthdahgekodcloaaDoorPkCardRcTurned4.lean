/-
  The record of some bytes: the program's Decode.
  What Encode writes, Decode reads (plain).
  A record as bytes: the program's Encode, kind 1.
  A record as bytes: the program's Encode, kind 2.
  A record as bytes: the program's Encode, kind 3.
-/
import Derived.Test.YthdahgekodcloaaDoorPkCardRcTurned3

namespace Go.Proofs.YthdahgekodcloaaDoor
open Go.RowKit

theorem str_any {w : World} {A : Option Addr} {l : List UInt8} (h : Rd w A l) (n c : Nat) (hn : l.length = n) : (convert 23 9 (.slice A n c)).run Tryd.prog w = .ok (.string ⟨l.toArray⟩) w := by
  subst hn
  exact h.str (P := Tryd.prog) 23 9 5 c Tryd.underlying23 Tryd.underlying5 Tryd.underlying9
theorem equal_any (A B : Option Addr) (l m : List UInt8) (n p c d : Nat) (w : World) (hA : Rd w A l) (hB : Rd w B m) (hn : l.length = n) (hp : m.length = p) :
    Calls Tryd.prog 22 #[.slice A n c, .slice B p d] w (fun e w' => e = .returned (.bool (l == m)) ∧ w' = w) := by
  have cv1 := str_any hA n c hn
  have cv2 := str_any hB p d hp
  cases hb : (l == m) with
  | true =>
    go_enter Tryd.func22, Tryd.ntmps22
    go_wp2
    go_ret
    exact ⟨rfl, rfl⟩
  | false =>
    go_enter Tryd.func22, Tryd.ntmps22
    go_wp2
    go_ret
    exact ⟨rfl, rfl⟩
def formB (r : Rec) : Bool := formN r.k r.pv r.pg r.off r.nx r.af.length r.bf.length r.dl.length r.dl r.op
/-- What is told of some bytes: the error's number, the record. -/
def decV (l : List UInt8) : Int × Option Rec :=
  if l.length < 5 then (3, none) else if (sumB (l.take (l.length - 4)) == l.drop (l.length - 4)) = false then (15, none)
  else if (rdRec (l.take (l.length - 4), false)).2 = ([], false) ∧ formB (rdRec (l.take (l.length - 4), false)).1 = true then (0, some (rdRec (l.take (l.length - 4), false)).1) else (3, none)
def DecP (w : World) (x : Int × Option Rec) (e : Ending) (w' : World) : Prop := Ext w w' ∧ match x.2 with
  | none => e = .returned (.tuple #[.agg #[.int .u8 0, .int .u64 0, .int .u64 0, .int .i64 0, .int .i64 0, .slice none 0 0, .slice none 0 0, .int .u64 0, .slice none 0 0, .bool false], .int .i64 x.1])
  | some r => ∃ v5 v6 v8, e = .returned (.tuple #[.agg #[.int .u8 r.k, .int .u64 r.tx, .int .u64 r.pv, .int .i64 r.pg, .int .i64 r.off, v5, v6, .int .u64 r.nx, v8, .bool r.op], .int .i64 0]) ∧ Own w' w.heap.size v5 r.bf ∧ Own w' w.heap.size v6 r.af ∧ OwnD w' w.heap.size v8 r.dl ∧ ∀ b, v5.ownBlock = some b → v6.ownBlock ≠ some b
theorem DecP.no {w w' : World} {x : Int × Option Rec} {e : Ending} {n : Int} (hx : Ext w w') (h : x = (n, none)) (he : e = .returned (.tuple #[.agg #[.int .u8 0, .int .u64 0, .int .u64 0, .int .i64 0, .int .i64 0, .slice none 0 0, .slice none 0 0, .int .u64 0, .slice none 0 0, .bool false], .int .i64 n])) : DecP w x e w' := by
  subst h
  exact ⟨hx, he⟩
theorem rdN_lt (b : Bool) (n : Nat) (st : List UInt8 × Bool) : 0 ≤ (rdN b n st).1 ∧ (rdN b n st).1 < 256 ^ n := by
  unfold rdN
  split
  · exact num_lt n st
  · refine ⟨Int.le_refl _, ?_⟩
    show (0 : Int) < 256 ^ n
    exact Int.pow_pos (by decide)
theorem rdB_le (b : Bool) (n : Nat) (st : List UInt8 × Bool) : (rdB b n st).1.length ≤ n := by
  unfold rdB
  split
  · exact tk_le n st
  · exact Nat.zero_le _
theorem rdD_le (b : Bool) (q : Nat) (st : List UInt8 × Bool) : (rdD b q st).1.length ≤ q := by
  unfold rdD
  split
  · rw [dirR_len]; omega
  · exact Nat.zero_le _
/-- What the reader tells is within its kinds. -/
structure RecIn (r : Rec) : Prop where
  off : 0 ≤ r.off ∧ r.off < 65536
  bf : r.bf.length ≤ 65535
  af : r.af.length ≤ 65535
  dl : r.dl.length ≤ 255
theorem rdRec_in (st : List UInt8 × Bool) : RecIn (rdRec st).1 := by
  have h4 := fun s => rdN_lt (hch (num (tk 1 st).1)) 2 s
  refine ⟨by have h := h4 (rdN (hch (num (tk 1 st).1)) 2 (rdN (hpv (num (tk 1 st).1)) 8 (tk 8 (tk 1 st).2).2).2).2; exact ⟨h.1, h.2⟩, ?_, ?_, ?_⟩
  · refine Nat.le_trans (rdB_le _ _ _) ?_
    have h := h4 (rdN (hch (num (tk 1 st).1)) 2 (rdN (hch (num (tk 1 st).1)) 2 (rdN (hpv (num (tk 1 st).1)) 8 (tk 8 (tk 1 st).2).2).2).2).2
    have := h.2
    omega
  · refine Nat.le_trans (rdB_le _ _ _) ?_
    have h := h4 (rdN (hch (num (tk 1 st).1)) 2 (rdN (hch (num (tk 1 st).1)) 2 (rdN (hpv (num (tk 1 st).1)) 8 (tk 8 (tk 1 st).2).2).2).2).2
    have := h.2
    omega
  · refine Nat.le_trans (rdD_le _ _ _) ?_
    have h := fun s => rdN_lt (hck (num (tk 1 st).1)) 1 s
    have h2 := fun s => (h s).2
    have h3 : ∀ s, (rdN (hck (num (tk 1 st).1)) 1 s).1.toNat ≤ 255 := fun s => by have := h2 s; omega
    exact h3 _
set_option maxRecDepth 20000 in
set_option maxHeartbeats 1600000 in
theorem decode_any (A : Option Addr) (l : List UInt8) (n c : Nat) (w : World) (hr : Rd w A l) (hn : l.length = n) (hnc : n ≤ c) (hl : n ≤ 140737488351232) (ht : Tab w) :
    Calls Tryd.prog 12 #[.slice A n c] w (DecP w (decV l)) := by
  have HR := hide hr
  have HN := hide hn
  have HT := hide ht
  have HNC := hide hnc
  have hni : (n : Int) ≤ 140737488351232 := by omega
  by_cases h5 : n < 5
  · have HV : Hid (decV l = (3, none)) := hide (by unfold decV; rw [if_pos (by rw [hn]; exact h5)])
    have h5i : (n : Int) - 4 < 1 := by omega
    clear hr hn hnc ht hl
    go_enter Tryd.func12, Tryd.ntmps12
    go_upto_region 1 with fail
    obtain ⟨W1, hX1, hZ1, hgg⟩ : ∃ W1, Ext w W1 ∧ Rw W1 w.heap.size 26 [.int .u8 0, .int .u64 0, .int .u64 0, .int .i64 0, .int .i64 0, .slice none 0 0, .slice none 0 0, .int .u64 0, .slice none 0 0, .bool false] ∧ w.alloc (.cells #[.int .u8 0, .int .u64 0, .int .u64 0, .int .i64 0, .int .i64 0, .slice none 0 0, .slice none 0 0, .int .u64 0, .slice none 0 0, .bool false] 26) = W1 := ⟨_, Ext.alloc _ _, Rw.new _ _ _, rfl⟩
    rw [hgg]
    obtain ⟨hz, HHZ⟩ : ∃ hz, Hid (w.heap.size = hz) := ⟨_, hide rfl⟩
    rw [HHZ.out] at hZ1 ⊢
    have HZW : Hid (w.heap.size ≤ hz) := hide (by rw [HHZ.out]; exact Nat.le_refl _)
    have X1 := hide hX1
    have ZX1 := hide hZ1
    clear hgg hX1 hZ1
    have z0 := ZX1.out.cell (i := 0) rfl
    have z1 := ZX1.out.cell (i := 1) rfl
    have z2 := ZX1.out.cell (i := 2) rfl
    have z3 := ZX1.out.cell (i := 3) rfl
    have z4 := ZX1.out.cell (i := 4) rfl
    have z5 := ZX1.out.cell (i := 5) rfl
    have z6 := ZX1.out.cell (i := 6) rfl
    have z7 := ZX1.out.cell (i := 7) rfl
    have z8 := ZX1.out.cell (i := 8) rfl
    have z9 := ZX1.out.cell (i := 9) rfl
    have f0 := ZX1.out.frozen 0
    have f1 := ZX1.out.frozen 1
    have f2 := ZX1.out.frozen 2
    have f3 := ZX1.out.frozen 3
    have f4 := ZX1.out.frozen 4
    have f5 := ZX1.out.frozen 5
    have f6 := ZX1.out.frozen 6
    have f7 := ZX1.out.frozen 7
    have f8 := ZX1.out.frozen 8
    have f9 := ZX1.out.frozen 9
    go_wp2
    have ZZ := ((((((((((ZX1.out.set 0 (.int .u8 0)).set 1 (.int .u64 0)).set 2 (.int .u64 0)).set 3 (.int .i64 0)).set 4 (.int .i64 0)).set 5 (.slice none 0 0)).set 6 (.slice none 0 0)).set 7 (.int .u64 0)).set 8 (.slice none 0 0)).set 9 (.bool false))
    have HS10 := sets_only hz [(0, .int .u8 0), (1, .int .u64 0), (2, .int .u64 0), (3, .int .i64 0), (4, .int .i64 0), (5, .slice none 0 0), (6, .slice none 0 0), (7, .int .u64 0), (8, .slice none 0 0), (9, .bool false)] W1
    simp only [List.foldl_cons, List.foldl_nil] at HS10
    obtain ⟨wz, hwz⟩ : ∃ wz, ((((((((((W1).setCell ⟨hz, 0, none⟩ (.int .u8 0)).setCell ⟨hz, 1, none⟩ (.int .u64 0)).setCell ⟨hz, 2, none⟩ (.int .u64 0)).setCell ⟨hz, 3, none⟩ (.int .i64 0)).setCell ⟨hz, 4, none⟩ (.int .i64 0)).setCell ⟨hz, 5, none⟩ (.slice none 0 0)).setCell ⟨hz, 6, none⟩ (.slice none 0 0)).setCell ⟨hz, 7, none⟩ (.int .u64 0)).setCell ⟨hz, 8, none⟩ (.slice none 0 0)).setCell ⟨hz, 9, none⟩ (.bool false) = wz := ⟨_, rfl⟩
    rw [hwz] at HS10 ZZ ⊢
    obtain ⟨q1, q2, q3, q4, hsame⟩ := HS10
    clear hwz
    have e0 := ZZ.cell (i := 0) rfl
    have e1 := ZZ.cell (i := 1) rfl
    have e2 := ZZ.cell (i := 2) rfl
    have e3 := ZZ.cell (i := 3) rfl
    have e4 := ZZ.cell (i := 4) rfl
    have e5 := ZZ.cell (i := 5) rfl
    have e6 := ZZ.cell (i := 6) rfl
    have e7 := ZZ.cell (i := 7) rfl
    have e8 := ZZ.cell (i := 8) rfl
    have e9 := ZZ.cell (i := 9) rfl
    have XZ : Ext w wz := ⟨q1.trans X1.out.os, q2.trans X1.out.tape, q3.trans X1.out.output, Nat.le_trans X1.out.size (Nat.le_of_eq q4.symm), fun b hb => (hsame b (by have := HZW.out; omega)).trans (X1.out.block b hb)⟩
    refine bodyPost_ret (v := .tuple #[.agg #[.int .u8 0, .int .u64 0, .int .u64 0, .int .i64 0, .int .i64 0, .slice none 0 0, .slice none 0 0, .int .u64 0, .slice none 0 0, .bool false], .int .i64 3]) (by simp [results, Tryd.results12, go_sem, e0, e1, e2, e3, e4, e5, e6, e7, e8, e9]; try rfl) rfl ?_
    exact DecP.no XZ HV.out rfl
  · obtain ⟨m, hm⟩ : ∃ m, n = m + 4 := ⟨n - 4, by omega⟩
    have HM := hide hm
    have h5i : ¬ (n : Int) - 4 < 1 := by omega
    have hnm : (n : Int) - 4 = (m : Int) := by omega
    have hm1 : 1 ≤ m := by omega
    have hmi : ¬ (m : Int) < 1 := by omega
    have hmc : (m : Int) ≤ (c : Int) := by omega
    have hmn : (m : Int) ≤ (n : Int) := by omega
    have hcm : ¬ c = m := by omega
    have hnm2 : n - m = 4 := by omega
    obtain ⟨b, off, rfl, hcell⟩ := hr (by intro e; rw [e] at hn; simp at hn; omega)
    have HC := hide hcell
    obtain ⟨x, HXX⟩ : ∃ x, Hid (l.take m = x) := ⟨_, hide rfl⟩
    obtain ⟨y, HYY⟩ : ∃ y, Hid (l.drop m = y) := ⟨_, hide rfl⟩
    have HXL : Hid (x.length = m) := hide (by rw [← HXX.out, List.length_take, hn]; omega)
    have HYL : Hid (y.length = 4) := hide (by rw [← HYY.out, List.length_drop, hn]; omega)
    have RX : Hid (Rd w (some ⟨b, off, none⟩) x) := hide (by rw [← HXX.out]; exact hr.take m)
    have RY : Hid (Rd w (some ⟨b, off + m, none⟩) y) := hide (by rw [← HYY.out]; have h := hr.drop m; rwa [add_flat] at h)
    have HDV : Hid (decV l = if (sumB x == y) = false then (15, none) else if (rdRec (x, false)).2 = ([], false) ∧ formB (rdRec (x, false)).1 = true then (0, some (rdRec (x, false)).1) else (3, none)) := hide (by
      unfold decV
      rw [if_neg (by rw [hn]; exact h5), show l.length - 4 = m by omega, HXX.out, HYY.out])
    have HS4 : Hid ((sumB x).length = 4) := hide (numN_length 4 _ (by decide))
    have KS := hide (fun (W : World) (hW : Ext w W) => sumOf_any (some ⟨b, off, none⟩) x m c W (RX.out.ext hW) HXL.out (by omega) (HT.out.ext hW))
    have hmb : m ≤ 140737488351232 := by omega
    have HMB := hide hmb
    have HMN : Hid (m ≤ c) := hide (by omega)
    clear hr hn hnc ht hl hm h5 hcell hmb
    go_enter Tryd.func12, Tryd.ntmps12
    go_upto_region 1 with fail
    obtain ⟨W1, hX1, hZ1, hgg⟩ : ∃ W1, Ext w W1 ∧ Rw W1 w.heap.size 26 [.int .u8 0, .int .u64 0, .int .u64 0, .int .i64 0, .int .i64 0, .slice none 0 0, .slice none 0 0, .int .u64 0, .slice none 0 0, .bool false] ∧ w.alloc (.cells #[.int .u8 0, .int .u64 0, .int .u64 0, .int .i64 0, .int .i64 0, .slice none 0 0, .slice none 0 0, .int .u64 0, .slice none 0 0, .bool false] 26) = W1 := ⟨_, Ext.alloc _ _, Rw.new _ _ _, rfl⟩
    rw [hgg]
    obtain ⟨hz, HHZ⟩ : ∃ hz, Hid (w.heap.size = hz) := ⟨_, hide rfl⟩
    rw [HHZ.out] at hZ1 ⊢
    have HZW : Hid (w.heap.size ≤ hz) := hide (by rw [HHZ.out]; exact Nat.le_refl _)
    have X1 := hide hX1
    have ZX1 := hide hZ1
    clear hgg hX1 hZ1
    go_upto_region 4 with fail
    obtain ⟨q, HQ⟩ : ∃ q, Hid ((sumB x == y) = q) := ⟨_, hide rfl⟩
    rename_i hKK
    go_region_law (first
      | (go_simp; go_at_call 21; refine (KS.out _ (X1.out.trans (Ext.drew _))).mono ?_; rintro e w2 ⟨v2, rfl, hx2, ho2⟩; obtain ⟨As, cs, hvs, -, hrs⟩ := Own.bytes ho2; rw [HS4.out] at hvs; subst hvs; have KE := equal_any As (some ⟨b, off + m, none⟩) (sumB x) y 4 4 cs (c - m) w2 hrs (RY.out.ext ((X1.out.trans (Ext.drew _)).trans hx2)) HS4.out HYL.out; rw [HQ.out] at KE; have X2 : Hid (Ext w w2) := hide ((X1.out.trans (Ext.drew _)).trans hx2); have ZX2 : Hid (Rw w2 hz 26 [.int .u8 0, .int .u64 0, .int .u64 0, .int .i64 0, .int .i64 0, .slice none 0 0, .slice none 0 0, .int .u64 0, .slice none 0 0, .bool false]) := hide ((ZX1.out.ext (Ext.drew _)).ext hx2))
      | (go_simp; go_at_call 22; refine KE.mono ?_; rintro e w3 ⟨rfl, rfl⟩))
    all_goals
      cases q with
      | false =>
        have z0 := ZX2.out.cell (i := 0) rfl
        have z1 := ZX2.out.cell (i := 1) rfl
        have z2 := ZX2.out.cell (i := 2) rfl
        have z3 := ZX2.out.cell (i := 3) rfl
        have z4 := ZX2.out.cell (i := 4) rfl
        have z5 := ZX2.out.cell (i := 5) rfl
        have z6 := ZX2.out.cell (i := 6) rfl
        have z7 := ZX2.out.cell (i := 7) rfl
        have z8 := ZX2.out.cell (i := 8) rfl
        have z9 := ZX2.out.cell (i := 9) rfl
        have f0 := ZX2.out.frozen 0
        have f1 := ZX2.out.frozen 1
        have f2 := ZX2.out.frozen 2
        have f3 := ZX2.out.frozen 3
        have f4 := ZX2.out.frozen 4
        have f5 := ZX2.out.frozen 5
        have f6 := ZX2.out.frozen 6
        have f7 := ZX2.out.frozen 7
        have f8 := ZX2.out.frozen 8
        have f9 := ZX2.out.frozen 9
        go_wp2
        have ZZ := ((((((((((ZX2.out.set 0 (.int .u8 0)).set 1 (.int .u64 0)).set 2 (.int .u64 0)).set 3 (.int .i64 0)).set 4 (.int .i64 0)).set 5 (.slice none 0 0)).set 6 (.slice none 0 0)).set 7 (.int .u64 0)).set 8 (.slice none 0 0)).set 9 (.bool false))
        have HS10 := sets_only hz [(0, .int .u8 0), (1, .int .u64 0), (2, .int .u64 0), (3, .int .i64 0), (4, .int .i64 0), (5, .slice none 0 0), (6, .slice none 0 0), (7, .int .u64 0), (8, .slice none 0 0), (9, .bool false)] w3
        simp only [List.foldl_cons, List.foldl_nil] at HS10
        obtain ⟨wz, hwz⟩ : ∃ wz, ((((((((((w3).setCell ⟨hz, 0, none⟩ (.int .u8 0)).setCell ⟨hz, 1, none⟩ (.int .u64 0)).setCell ⟨hz, 2, none⟩ (.int .u64 0)).setCell ⟨hz, 3, none⟩ (.int .i64 0)).setCell ⟨hz, 4, none⟩ (.int .i64 0)).setCell ⟨hz, 5, none⟩ (.slice none 0 0)).setCell ⟨hz, 6, none⟩ (.slice none 0 0)).setCell ⟨hz, 7, none⟩ (.int .u64 0)).setCell ⟨hz, 8, none⟩ (.slice none 0 0)).setCell ⟨hz, 9, none⟩ (.bool false) = wz := ⟨_, rfl⟩
        rw [hwz] at HS10 ZZ ⊢
        obtain ⟨q1, q2, q3, q4, hsame⟩ := HS10
        clear hwz
        have e0 := ZZ.cell (i := 0) rfl
        have e1 := ZZ.cell (i := 1) rfl
        have e2 := ZZ.cell (i := 2) rfl
        have e3 := ZZ.cell (i := 3) rfl
        have e4 := ZZ.cell (i := 4) rfl
        have e5 := ZZ.cell (i := 5) rfl
        have e6 := ZZ.cell (i := 6) rfl
        have e7 := ZZ.cell (i := 7) rfl
        have e8 := ZZ.cell (i := 8) rfl
        have e9 := ZZ.cell (i := 9) rfl
        have XZ : Ext w wz := ⟨q1.trans X2.out.os, q2.trans X2.out.tape, q3.trans X2.out.output, Nat.le_trans X2.out.size (Nat.le_of_eq q4.symm), fun b hb => (hsame b (by have := HZW.out; omega)).trans (X2.out.block b hb)⟩
        refine bodyPost_ret (v := .tuple #[.agg #[.int .u8 0, .int .u64 0, .int .u64 0, .int .i64 0, .int .i64 0, .slice none 0 0, .slice none 0 0, .int .u64 0, .slice none 0 0, .bool false], .int .i64 15]) (by simp [results, Tryd.results12, go_sem, e0, e1, e2, e3, e4, e5, e6, e7, e8, e9]; try rfl) rfl ?_
        exact DecP.no XZ (by rw [HDV.out, HQ.out, if_pos rfl]) rfl
      | true =>
        have O2H := hide ho2
        clear ho2 KE hrs
        go_upto_region 7 with fail
        obtain ⟨w6, hX6, hG6, hgg⟩ : ∃ W, Ext w3 W ∧ Rw W w3.heap.size 54 [.slice (some ⟨b, off, none⟩) m c, .bool false] ∧ w3.alloc (.cells #[.slice (some ⟨b, off, none⟩) m c, .bool false] 54) = W := ⟨_, Ext.alloc _ _, Rw.new _ _ _, rfl⟩
        rw [hgg]
        obtain ⟨g, HHG⟩ : ∃ g, Hid (w3.heap.size = g) := ⟨_, hide rfl⟩
        rw [HHG.out] at hG6 ⊢
        have X6 : Hid (Ext w w6) := hide (X2.out.trans hX6)
        have ZX6 := hide (ZX2.out.ext hX6)
        have HGW : Hid (w.heap.size ≤ g ∧ hz ≠ g) := hide ⟨by rw [← HHG.out]; exact X2.out.size, by have h1 := ZX2.out.lt; rw [HHG.out] at h1; omega⟩
        have RD6 : Hid (RdrAt w w6 g (x, false)) := hide ⟨some ⟨b, off, none⟩, c, by show Rw _ _ _ [.slice _ x.length _, _]; rw [HXL.out]; exact hG6, by show x.length ≤ c; rw [HXL.out]; exact HMN.out, .inr ⟨b, off, rfl, fun j u hu => by
          have hu : x[j]? = some u := hu
          rw [← HXX.out, List.getElem?_take] at hu
          split at hu
          · exact HC.out j u hu
          · cases hu⟩⟩
        obtain ⟨R, HRR⟩ : ∃ R, Hid (rdRec (x, false) = R) := ⟨_, hide rfl⟩
        have KR0 := record_any g (x, false) w w6 X6.out HGW.out.1 RD6.out (by show x.length ≤ _; rw [HXL.out]; exact HMB.out)
        have HIN := rdRec_in (x, false)
        rw [HRR.out] at KR0 HIN
        obtain ⟨⟨k, tx, pv, pg, of_, bf, af, nx, dl, op⟩, ⟨lf, sh⟩⟩ := R
        obtain ⟨nb, HNB⟩ : ∃ n, Hid (bf.length = n) := ⟨_, hide rfl⟩
        obtain ⟨na, HNA⟩ : ∃ n, Hid (af.length = n) := ⟨_, hide rfl⟩
        obtain ⟨nd, HND⟩ : ∃ n, Hid (dl.length = n) := ⟨_, hide rfl⟩
        obtain ⟨pl, HPL⟩ : ∃ n, Hid (lf.length = n) := ⟨_, hide rfl⟩
        obtain ⟨⟨ho0, ho1⟩, hb2, ha2, hd2⟩ := HIN
        have ho0 : 0 ≤ of_ := ho0
        have ho1 : of_ < 65536 := ho1
        have hb2 : nb ≤ 65535 := by rw [← HNB.out]; exact hb2
        have ha2 : na ≤ 65535 := by rw [← HNA.out]; exact ha2
        have hd2 : nd ≤ 255 := by rw [← HND.out]; exact hd2
        have KR : Hid (Calls Tryd.prog 23 #[.pointer (some ⟨g, 0, none⟩)] w6 (fun e w' => ∃ v5 v6 v8, e = .returned (.agg #[.int .u8 k, .int .u64 tx, .int .u64 pv, .int .i64 pg, .int .i64 of_, v5, v6, .int .u64 nx, v8, .bool op]) ∧ Own w' w6.heap.size v5 bf ∧ Own w' w6.heap.size v6 af ∧ OwnD w' w6.heap.size v8 dl ∧ RdrAt w w' g (lf, sh) ∧ w6.grownBy w' (some g) ∧ ∀ b, v5.ownBlock = some b → v6.ownBlock ≠ some b)) := hide KR0
        have HZ6 : Hid (hz < w6.heap.size) := hide ZX6.out.lt
        have HW6 : Hid (w.heap.size ≤ w6.heap.size) := hide X6.out.size
        clear KR0 hX6 hG6 hgg X2 ZX2
        go_upto_region 8 with (go_at_call 23; (with_reducible refine KR.out.mono ?_); rintro e w7 ⟨v5, v6, v8, rfl, ho5, ho6, ho8, hr7, hg7, hdj⟩; have O5 := hide ho5; have O6 := hide ho6; have O8 := hide ho8; have RD7 := hide hr7; have X7 : Hid (Ext w w7) := hide (X6.out.grown hg7 X6.out.size (fun b hb => by injection hb with hb; have := HGW.out.1; omega)); have ZX7 : Hid (Rw w7 hz 26 [.int .u8 0, .int .u64 0, .int .u64 0, .int .i64 0, .int .i64 0, .slice none 0 0, .slice none 0 0, .int .u64 0, .slice none 0 0, .bool false]) := hide ((hg7.block hz ZX6.out.lt (fun e => HGW.out.2 (by injection e))).trans ZX6.out); have S6 : Hid (w6.heap.size ≤ w7.heap.size) := hide hg7.size; obtain ⟨A5, c5, hv5, -, -⟩ := ho5.bytes; obtain ⟨A6, c6, hv6, -, -⟩ := ho6.bytes; obtain ⟨A8, c8, hv8, -, hr8⟩ := ho8.slice; rw [HNB.out] at hv5; rw [HNA.out] at hv6; rw [HND.out] at hv8; subst hv5 hv6 hv8; have HR8 := hide hr8; have DJ := hide hdj; clear hr8 ho5 ho6 ho8 hr7 hg7 hdj)
        clear KR
        obtain ⟨w8, hX8, hB8, hgg⟩ : ∃ W, Ext w7 W ∧ Rw W w7.heap.size 26 [.int .u8 k, .int .u64 tx, .int .u64 pv, .int .i64 pg, .int .i64 of_, .slice A5 nb c5, .slice A6 na c6, .int .u64 nx, .slice A8 nd c8, .bool op] ∧ w7.alloc (.cells #[.int .u8 k, .int .u64 tx, .int .u64 pv, .int .i64 pg, .int .i64 of_, .slice A5 nb c5, .slice A6 na c6, .int .u64 nx, .slice A8 nd c8, .bool op] 26) = W := ⟨_, Ext.alloc _ _, Rw.new _ _ _, rfl⟩
        rw [hgg]
        obtain ⟨hb, HHB⟩ : ∃ hb, Hid (w7.heap.size = hb) := ⟨_, hide rfl⟩
        rw [HHB.out] at hB8 ⊢
        have X8 : Hid (Ext w w8) := hide (X7.out.trans hX8)
        have E78 := hide hX8
        have ZX8 := hide (ZX7.out.ext hX8)
        have BX8 := hide hB8
        have HNZ : Hid (hz ≠ hb) := hide (by have := ZX7.out.lt; have := HHB.out; omega)
        obtain ⟨Al, cl, hrl, -, -⟩ := (RD7.out.ext hX8).out
        have hrl : Rw w8 g 54 [.slice Al lf.length cl, .bool sh] := hrl
        rw [HPL.out] at hrl
        have c0 := hrl.cell (i := 0) rfl
        have c1 := hrl.cell (i := 1) rfl
        clear hX8 hB8 hgg hrl X7 ZX7 X6 ZX6 RD6
        cases sh with
        | true =>
          go_upto_region 9 with fail
          have z0 := ZX8.out.cell (i := 0) rfl
          have z1 := ZX8.out.cell (i := 1) rfl
          have z2 := ZX8.out.cell (i := 2) rfl
          have z3 := ZX8.out.cell (i := 3) rfl
          have z4 := ZX8.out.cell (i := 4) rfl
          have z5 := ZX8.out.cell (i := 5) rfl
          have z6 := ZX8.out.cell (i := 6) rfl
          have z7 := ZX8.out.cell (i := 7) rfl
          have z8 := ZX8.out.cell (i := 8) rfl
          have z9 := ZX8.out.cell (i := 9) rfl
          have f0 := ZX8.out.frozen 0
          have f1 := ZX8.out.frozen 1
          have f2 := ZX8.out.frozen 2
          have f3 := ZX8.out.frozen 3
          have f4 := ZX8.out.frozen 4
          have f5 := ZX8.out.frozen 5
          have f6 := ZX8.out.frozen 6
          have f7 := ZX8.out.frozen 7
          have f8 := ZX8.out.frozen 8
          have f9 := ZX8.out.frozen 9
          go_wp2
          have ZZ := ((((((((((ZX8.out.set 0 (.int .u8 0)).set 1 (.int .u64 0)).set 2 (.int .u64 0)).set 3 (.int .i64 0)).set 4 (.int .i64 0)).set 5 (.slice none 0 0)).set 6 (.slice none 0 0)).set 7 (.int .u64 0)).set 8 (.slice none 0 0)).set 9 (.bool false))
          have HS10 := sets_only hz [(0, .int .u8 0), (1, .int .u64 0), (2, .int .u64 0), (3, .int .i64 0), (4, .int .i64 0), (5, .slice none 0 0), (6, .slice none 0 0), (7, .int .u64 0), (8, .slice none 0 0), (9, .bool false)] w8
          simp only [List.foldl_cons, List.foldl_nil] at HS10
          obtain ⟨wz, hwz⟩ : ∃ wz, ((((((((((w8).setCell ⟨hz, 0, none⟩ (.int .u8 0)).setCell ⟨hz, 1, none⟩ (.int .u64 0)).setCell ⟨hz, 2, none⟩ (.int .u64 0)).setCell ⟨hz, 3, none⟩ (.int .i64 0)).setCell ⟨hz, 4, none⟩ (.int .i64 0)).setCell ⟨hz, 5, none⟩ (.slice none 0 0)).setCell ⟨hz, 6, none⟩ (.slice none 0 0)).setCell ⟨hz, 7, none⟩ (.int .u64 0)).setCell ⟨hz, 8, none⟩ (.slice none 0 0)).setCell ⟨hz, 9, none⟩ (.bool false) = wz := ⟨_, rfl⟩
          rw [hwz] at HS10 ZZ ⊢
          obtain ⟨q1, q2, q3, q4, hsame⟩ := HS10
          clear hwz
          have e0 := ZZ.cell (i := 0) rfl
          have e1 := ZZ.cell (i := 1) rfl
          have e2 := ZZ.cell (i := 2) rfl
          have e3 := ZZ.cell (i := 3) rfl
          have e4 := ZZ.cell (i := 4) rfl
          have e5 := ZZ.cell (i := 5) rfl
          have e6 := ZZ.cell (i := 6) rfl
          have e7 := ZZ.cell (i := 7) rfl
          have e8 := ZZ.cell (i := 8) rfl
          have e9 := ZZ.cell (i := 9) rfl
          have XZ : Ext w wz := ⟨q1.trans X8.out.os, q2.trans X8.out.tape, q3.trans X8.out.output, Nat.le_trans X8.out.size (Nat.le_of_eq q4.symm), fun b hb => (hsame b (by have := HZW.out; omega)).trans (X8.out.block b hb)⟩
          refine bodyPost_ret (v := .tuple #[.agg #[.int .u8 0, .int .u64 0, .int .u64 0, .int .i64 0, .int .i64 0, .slice none 0 0, .slice none 0 0, .int .u64 0, .slice none 0 0, .bool false], .int .i64 3]) (by simp [results, Tryd.results12, go_sem, e0, e1, e2, e3, e4, e5, e6, e7, e8, e9]; try rfl) rfl ?_
          exact DecP.no XZ (by rw [HDV.out, HQ.out, if_neg (by decide), if_neg (by rw [HRR.out]; exact fun h => (by cases h.1))]) rfl
        | false =>
          by_cases hp : pl = 0
          · have hpi : ¬ (0 : Int) < (pl : Int) := by omega
            have hpn : ¬ 0 < pl := by omega
            obtain ⟨fb, HFB⟩ : ∃ fb, Hid (formN k pv pg of_ nx na nb nd dl op = fb) := ⟨_, hide rfl⟩
            have KF := hide (fun (W : World) (hW : Ext w7 W) => (show Calls Tryd.prog 9 #[.agg #[.int .u8 k, .int .u64 tx, .int .u64 pv, .int .i64 pg, .int .i64 of_, .slice A5 nb c5, .slice A6 na c6, .int .u64 nx, .slice A8 nd c8, .bool op]] W (RetB W fb) from by have h := form_any k tx pv pg of_ nx A5 A6 A8 nb c5 na c6 nd c8 op W dl (HR8.out.ext hW) HND.out (by omega) (by omega) (by omega) (by omega) (by omega); rw [HFB.out] at h; exact h))
            have HFBB : Hid (formB ⟨k, tx, pv, pg, of_, bf, af, nx, dl, op⟩ = fb) := hide (by rw [← HFB.out, ← HNB.out, ← HNA.out, ← HND.out]; rfl)
            have HLF : Hid (lf = []) := hide (List.length_eq_zero_iff.1 (by rw [HPL.out]; exact hp))
            have y0 := BX8.out.cell (i := 0) rfl
            have y1 := BX8.out.cell (i := 1) rfl
            have y2 := BX8.out.cell (i := 2) rfl
            have y3 := BX8.out.cell (i := 3) rfl
            have y4 := BX8.out.cell (i := 4) rfl
            have y5 := BX8.out.cell (i := 5) rfl
            have y6 := BX8.out.cell (i := 6) rfl
            have y7 := BX8.out.cell (i := 7) rfl
            have y8 := BX8.out.cell (i := 8) rfl
            have y9 := BX8.out.cell (i := 9) rfl
            cases fb with
            | false =>
              go_upto_region 9 with (go_at_call 9; (with_reducible refine (KF.out _ E78.out).mono ?_); rintro e w9 ⟨rfl, hx9⟩; have X9 : Hid (Ext w w9) := hide (X8.out.trans hx9); have E79 : Hid (Ext w7 w9) := hide (E78.out.trans hx9); have ZX9 := hide (ZX8.out.ext hx9); have BX9 := hide (BX8.out.ext hx9); clear hx9)
              have z0 := ZX9.out.cell (i := 0) rfl
              have z1 := ZX9.out.cell (i := 1) rfl
              have z2 := ZX9.out.cell (i := 2) rfl
              have z3 := ZX9.out.cell (i := 3) rfl
              have z4 := ZX9.out.cell (i := 4) rfl
              have z5 := ZX9.out.cell (i := 5) rfl
              have z6 := ZX9.out.cell (i := 6) rfl
              have z7 := ZX9.out.cell (i := 7) rfl
              have z8 := ZX9.out.cell (i := 8) rfl
              have z9 := ZX9.out.cell (i := 9) rfl
              have f0 := ZX9.out.frozen 0
              have f1 := ZX9.out.frozen 1
              have f2 := ZX9.out.frozen 2
              have f3 := ZX9.out.frozen 3
              have f4 := ZX9.out.frozen 4
              have f5 := ZX9.out.frozen 5
              have f6 := ZX9.out.frozen 6
              have f7 := ZX9.out.frozen 7
              have f8 := ZX9.out.frozen 8
              have f9 := ZX9.out.frozen 9
              go_wp2
              have ZZ := ((((((((((ZX9.out.set 0 (.int .u8 0)).set 1 (.int .u64 0)).set 2 (.int .u64 0)).set 3 (.int .i64 0)).set 4 (.int .i64 0)).set 5 (.slice none 0 0)).set 6 (.slice none 0 0)).set 7 (.int .u64 0)).set 8 (.slice none 0 0)).set 9 (.bool false))
              have HS10 := sets_only hz [(0, .int .u8 0), (1, .int .u64 0), (2, .int .u64 0), (3, .int .i64 0), (4, .int .i64 0), (5, .slice none 0 0), (6, .slice none 0 0), (7, .int .u64 0), (8, .slice none 0 0), (9, .bool false)] w9
              simp only [List.foldl_cons, List.foldl_nil] at HS10
              obtain ⟨wz, hwz⟩ : ∃ wz, ((((((((((w9).setCell ⟨hz, 0, none⟩ (.int .u8 0)).setCell ⟨hz, 1, none⟩ (.int .u64 0)).setCell ⟨hz, 2, none⟩ (.int .u64 0)).setCell ⟨hz, 3, none⟩ (.int .i64 0)).setCell ⟨hz, 4, none⟩ (.int .i64 0)).setCell ⟨hz, 5, none⟩ (.slice none 0 0)).setCell ⟨hz, 6, none⟩ (.slice none 0 0)).setCell ⟨hz, 7, none⟩ (.int .u64 0)).setCell ⟨hz, 8, none⟩ (.slice none 0 0)).setCell ⟨hz, 9, none⟩ (.bool false) = wz := ⟨_, rfl⟩
              rw [hwz] at HS10 ZZ ⊢
              obtain ⟨q1, q2, q3, q4, hsame⟩ := HS10
              clear hwz
              have e0 := ZZ.cell (i := 0) rfl
              have e1 := ZZ.cell (i := 1) rfl
              have e2 := ZZ.cell (i := 2) rfl
              have e3 := ZZ.cell (i := 3) rfl
              have e4 := ZZ.cell (i := 4) rfl
              have e5 := ZZ.cell (i := 5) rfl
              have e6 := ZZ.cell (i := 6) rfl
              have e7 := ZZ.cell (i := 7) rfl
              have e8 := ZZ.cell (i := 8) rfl
              have e9 := ZZ.cell (i := 9) rfl
              have XZ : Ext w wz := ⟨q1.trans X9.out.os, q2.trans X9.out.tape, q3.trans X9.out.output, Nat.le_trans X9.out.size (Nat.le_of_eq q4.symm), fun b hb => (hsame b (by have := HZW.out; omega)).trans (X9.out.block b hb)⟩
              refine bodyPost_ret (v := .tuple #[.agg #[.int .u8 0, .int .u64 0, .int .u64 0, .int .i64 0, .int .i64 0, .slice none 0 0, .slice none 0 0, .int .u64 0, .slice none 0 0, .bool false], .int .i64 3]) (by simp [results, Tryd.results12, go_sem, e0, e1, e2, e3, e4, e5, e6, e7, e8, e9]; try rfl) rfl ?_
              exact DecP.no XZ (by rw [HDV.out, HQ.out, if_neg (by decide), if_neg (by rw [HRR.out]; exact fun h => (by have h2 := h.2; rw [HFBB.out] at h2; cases h2))]) rfl
            | true =>
              go_upto_region 10 with (go_at_call 9; (with_reducible refine (KF.out _ E78.out).mono ?_); rintro e w9 ⟨rfl, hx9⟩; have X9 : Hid (Ext w w9) := hide (X8.out.trans hx9); have E79 : Hid (Ext w7 w9) := hide (E78.out.trans hx9); have ZX9 := hide (ZX8.out.ext hx9); have BX9 := hide (BX8.out.ext hx9); clear hx9)
              clear y0 y1 y2 y3 y4 y5 y6 y7 y8 y9
              have y0 := BX9.out.cell (i := 0) rfl
              have y1 := BX9.out.cell (i := 1) rfl
              have y2 := BX9.out.cell (i := 2) rfl
              have y3 := BX9.out.cell (i := 3) rfl
              have y4 := BX9.out.cell (i := 4) rfl
              have y5 := BX9.out.cell (i := 5) rfl
              have y6 := BX9.out.cell (i := 6) rfl
              have y7 := BX9.out.cell (i := 7) rfl
              have y8 := BX9.out.cell (i := 8) rfl
              have y9 := BX9.out.cell (i := 9) rfl
              have z0 := ZX9.out.cell (i := 0) rfl
              have z1 := ZX9.out.cell (i := 1) rfl
              have z2 := ZX9.out.cell (i := 2) rfl
              have z3 := ZX9.out.cell (i := 3) rfl
              have z4 := ZX9.out.cell (i := 4) rfl
              have z5 := ZX9.out.cell (i := 5) rfl
              have z6 := ZX9.out.cell (i := 6) rfl
              have z7 := ZX9.out.cell (i := 7) rfl
              have z8 := ZX9.out.cell (i := 8) rfl
              have z9 := ZX9.out.cell (i := 9) rfl
              have f0 := ZX9.out.frozen 0
              have f1 := ZX9.out.frozen 1
              have f2 := ZX9.out.frozen 2
              have f3 := ZX9.out.frozen 3
              have f4 := ZX9.out.frozen 4
              have f5 := ZX9.out.frozen 5
              have f6 := ZX9.out.frozen 6
              have f7 := ZX9.out.frozen 7
              have f8 := ZX9.out.frozen 8
              have f9 := ZX9.out.frozen 9
              go_wp2
              have ZZ := ((((((((((ZX9.out.set 0 (.int .u8 k)).set 1 (.int .u64 tx)).set 2 (.int .u64 pv)).set 3 (.int .i64 pg)).set 4 (.int .i64 of_)).set 5 (.slice A5 nb c5)).set 6 (.slice A6 na c6)).set 7 (.int .u64 nx)).set 8 (.slice A8 nd c8)).set 9 (.bool op))
              have HS10 := sets_only hz [(0, .int .u8 k), (1, .int .u64 tx), (2, .int .u64 pv), (3, .int .i64 pg), (4, .int .i64 of_), (5, .slice A5 nb c5), (6, .slice A6 na c6), (7, .int .u64 nx), (8, .slice A8 nd c8), (9, .bool op)] w9
              simp only [List.foldl_cons, List.foldl_nil] at HS10
              obtain ⟨wz, hwz⟩ : ∃ wz, ((((((((((w9).setCell ⟨hz, 0, none⟩ (.int .u8 k)).setCell ⟨hz, 1, none⟩ (.int .u64 tx)).setCell ⟨hz, 2, none⟩ (.int .u64 pv)).setCell ⟨hz, 3, none⟩ (.int .i64 pg)).setCell ⟨hz, 4, none⟩ (.int .i64 of_)).setCell ⟨hz, 5, none⟩ (.slice A5 nb c5)).setCell ⟨hz, 6, none⟩ (.slice A6 na c6)).setCell ⟨hz, 7, none⟩ (.int .u64 nx)).setCell ⟨hz, 8, none⟩ (.slice A8 nd c8)).setCell ⟨hz, 9, none⟩ (.bool op) = wz := ⟨_, rfl⟩
              rw [hwz] at HS10 ZZ ⊢
              obtain ⟨q1, q2, q3, q4, hsame⟩ := HS10
              clear hwz
              have e0 := ZZ.cell (i := 0) rfl
              have e1 := ZZ.cell (i := 1) rfl
              have e2 := ZZ.cell (i := 2) rfl
              have e3 := ZZ.cell (i := 3) rfl
              have e4 := ZZ.cell (i := 4) rfl
              have e5 := ZZ.cell (i := 5) rfl
              have e6 := ZZ.cell (i := 6) rfl
              have e7 := ZZ.cell (i := 7) rfl
              have e8 := ZZ.cell (i := 8) rfl
              have e9 := ZZ.cell (i := 9) rfl
              have XZ : Ext w wz := ⟨q1.trans X9.out.os, q2.trans X9.out.tape, q3.trans X9.out.output, Nat.le_trans X9.out.size (Nat.le_of_eq q4.symm), fun b hb => (hsame b (by have := HZW.out; omega)).trans (X9.out.block b hb)⟩
              refine bodyPost_ret (v := .tuple #[.agg #[.int .u8 k, .int .u64 tx, .int .u64 pv, .int .i64 pg, .int .i64 of_, .slice A5 nb c5, .slice A6 na c6, .int .u64 nx, .slice A8 nd c8, .bool op], .int .i64 0]) (by simp [results, Tryd.results12, go_sem, e0, e1, e2, e3, e4, e5, e6, e7, e8, e9]; try rfl) rfl ?_
              have HV : decV l = (0, some ⟨k, tx, pv, pg, of_, bf, af, nx, dl, op⟩) := by
                rw [HDV.out, HQ.out, if_neg (by decide), if_pos (by rw [HRR.out]; exact ⟨by rw [HLF.out], HFBB.out⟩), HRR.out]
              rw [HV]
              have hk : ∀ b, w6.heap.size ≤ b → b < w7.heap.size → wz.heap[b]? = w7.heap[b]? := fun b h1 h2 => (hsame b (by have := HZ6.out; omega)).trans (E79.out.block b h2)
              exact ⟨XZ, _, _, _, rfl, own_mono2 (O5.out.sameB hk) HW6.out, own_mono2 (O6.out.sameB hk) HW6.out, ownD_mono (O8.out.same (fun b hb => hk b (O8.out.at b hb).1 (O8.out.at b hb).2)) HW6.out, DJ.out⟩
          · have hpi : (0 : Int) < (pl : Int) := by omega
            have hpn : 0 < pl := by omega
            go_upto_region 9 with fail
            have z0 := ZX8.out.cell (i := 0) rfl
            have z1 := ZX8.out.cell (i := 1) rfl
            have z2 := ZX8.out.cell (i := 2) rfl
            have z3 := ZX8.out.cell (i := 3) rfl
            have z4 := ZX8.out.cell (i := 4) rfl
            have z5 := ZX8.out.cell (i := 5) rfl
            have z6 := ZX8.out.cell (i := 6) rfl
            have z7 := ZX8.out.cell (i := 7) rfl
            have z8 := ZX8.out.cell (i := 8) rfl
            have z9 := ZX8.out.cell (i := 9) rfl
            have f0 := ZX8.out.frozen 0
            have f1 := ZX8.out.frozen 1
            have f2 := ZX8.out.frozen 2
            have f3 := ZX8.out.frozen 3
            have f4 := ZX8.out.frozen 4
            have f5 := ZX8.out.frozen 5
            have f6 := ZX8.out.frozen 6
            have f7 := ZX8.out.frozen 7
            have f8 := ZX8.out.frozen 8
            have f9 := ZX8.out.frozen 9
            go_wp2
            have ZZ := ((((((((((ZX8.out.set 0 (.int .u8 0)).set 1 (.int .u64 0)).set 2 (.int .u64 0)).set 3 (.int .i64 0)).set 4 (.int .i64 0)).set 5 (.slice none 0 0)).set 6 (.slice none 0 0)).set 7 (.int .u64 0)).set 8 (.slice none 0 0)).set 9 (.bool false))
            have HS10 := sets_only hz [(0, .int .u8 0), (1, .int .u64 0), (2, .int .u64 0), (3, .int .i64 0), (4, .int .i64 0), (5, .slice none 0 0), (6, .slice none 0 0), (7, .int .u64 0), (8, .slice none 0 0), (9, .bool false)] w8
            simp only [List.foldl_cons, List.foldl_nil] at HS10
            obtain ⟨wz, hwz⟩ : ∃ wz, ((((((((((w8).setCell ⟨hz, 0, none⟩ (.int .u8 0)).setCell ⟨hz, 1, none⟩ (.int .u64 0)).setCell ⟨hz, 2, none⟩ (.int .u64 0)).setCell ⟨hz, 3, none⟩ (.int .i64 0)).setCell ⟨hz, 4, none⟩ (.int .i64 0)).setCell ⟨hz, 5, none⟩ (.slice none 0 0)).setCell ⟨hz, 6, none⟩ (.slice none 0 0)).setCell ⟨hz, 7, none⟩ (.int .u64 0)).setCell ⟨hz, 8, none⟩ (.slice none 0 0)).setCell ⟨hz, 9, none⟩ (.bool false) = wz := ⟨_, rfl⟩
            rw [hwz] at HS10 ZZ ⊢
            obtain ⟨q1, q2, q3, q4, hsame⟩ := HS10
            clear hwz
            have e0 := ZZ.cell (i := 0) rfl
            have e1 := ZZ.cell (i := 1) rfl
            have e2 := ZZ.cell (i := 2) rfl
            have e3 := ZZ.cell (i := 3) rfl
            have e4 := ZZ.cell (i := 4) rfl
            have e5 := ZZ.cell (i := 5) rfl
            have e6 := ZZ.cell (i := 6) rfl
            have e7 := ZZ.cell (i := 7) rfl
            have e8 := ZZ.cell (i := 8) rfl
            have e9 := ZZ.cell (i := 9) rfl
            have XZ : Ext w wz := ⟨q1.trans X8.out.os, q2.trans X8.out.tape, q3.trans X8.out.output, Nat.le_trans X8.out.size (Nat.le_of_eq q4.symm), fun b hb => (hsame b (by have := HZW.out; omega)).trans (X8.out.block b hb)⟩
            refine bodyPost_ret (v := .tuple #[.agg #[.int .u8 0, .int .u64 0, .int .u64 0, .int .i64 0, .int .i64 0, .slice none 0 0, .slice none 0 0, .int .u64 0, .slice none 0 0, .bool false], .int .i64 3]) (by simp [results, Tryd.results12, go_sem, e0, e1, e2, e3, e4, e5, e6, e7, e8, e9]; try rfl) rfl ?_
            exact DecP.no XZ (by rw [HDV.out, HQ.out, if_neg (by decide), if_neg (by rw [HRR.out]; exact fun h => hp (by have h1 := congrArg Prod.fst h.1; have h1 : lf = [] := h1; rw [← HPL.out, h1]; rfl))]) rfl
end Go.Proofs.YthdahgekodcloaaDoor
namespace Go.Proofs.YthdahgekodcloaaDoor
open Go.RowKit

theorem tk_app (n : Nat) (l rest : List UInt8) (s : Bool) (h : l.length = n) : tk n (l ++ rest, s) = (l, (rest, s)) := by
  unfold tk
  rw [if_neg (by show ¬ (l ++ rest).length < n; rw [List.length_append]; omega)]
  show ((l ++ rest).take n, ((l ++ rest).drop n, s)) = _
  rw [← h, List.take_left, List.drop_left]
theorem tk_all (n : Nat) (l : List UInt8) (s : Bool) (h : l.length = n) : tk n (l, s) = (l, ([], s)) := by
  have := tk_app n l [] s h
  rwa [List.append_nil] at this
theorem num_1 (u : Int) (h0 : 0 ≤ u) (h1 : u < 256) : num (numN 1 u) = u := by
  have e : numN 1 u = [b8 (u % 256)] := rfl
  rw [e]
  unfold num
  simp only [List.foldl_cons, List.foldl_nil]
  rw [b8_toNat (by omega) (by omega)]
  omega
theorem num_2 (u : Int) (h0 : 0 ≤ u) (h1 : u < 65536) : num (numN 2 u) = u := by
  have e : numN 2 u = [b8 (u / 256 % 256), b8 (u % 256)] := rfl
  rw [e]
  unfold num
  simp only [List.foldl_cons, List.foldl_nil]
  rw [b8_toNat (by omega) (by omega), b8_toNat (by omega) (by omega)]
  omega
theorem num_8 (u : Int) (h0 : 0 ≤ u) (h1 : u < 18446744073709551616) : num (numN 8 u) = u := num_be64 u h0 h1
theorem dirR_enc : ∀ (L : List (Int × Int)) (s : Bool), (∀ e ∈ L, (0 ≤ e.1 ∧ e.1 < 4096) ∧ 0 ≤ e.2 ∧ e.2 < 18446744073709551616) → dirR L.length (dirB L, s) = (L, ([], s))
  | [], s, _ => rfl
  | d :: L, s, h => by
    obtain ⟨⟨h1, h2⟩, h3, h4⟩ := h d (by simp)
    have e : dirB (d :: L) = numN 2 d.1 ++ (numN 8 d.2 ++ dirB L) := by simp [dirB]
    have ih := dirR_enc L s (fun x hx => h x (by simp [hx]))
    rw [e, List.length_cons]
    simp only [dirR, tk_app 2 _ _ _ (numN_length 2 d.1 (by decide)), tk_app 8 _ _ _ (numN_length 8 d.2 (by decide)), ih, num_2 _ h1 (show d.1 < 65536 by omega), num_8 _ h3 h4]
theorem numN_1 (u : Int) : (numN 1 u).length = 1 := numN_length 1 u (by decide)
theorem numN_2 (u : Int) : (numN 2 u).length = 2 := numN_length 2 u (by decide)
theorem numN_8 (u : Int) : (numN 8 u).length = 8 := numN_length 8 u (by decide)
set_option maxHeartbeats 1600000 in
theorem back_1 (tx pv pg off nx : Int) (bf af : List UInt8) (L : List (Int × Int)) (op : Bool) (htx0 : 0 ≤ tx) (htx : tx < 18446744073709551616) (hpv0 : 0 ≤ pv) (hpv1 : pv < 18446744073709551616) (hnx0 : 0 ≤ nx) (hnx1 : nx < 18446744073709551616) (hdl : ∀ e ∈ L, 0 ≤ e.2 ∧ e.2 < 18446744073709551616) (hf : formN 1 pv pg off nx af.length bf.length L.length L op = true) : rdRec (recB 1 tx pv pg off nx bf af L op, false) = (⟨1, tx, pv, pg, off, bf, af, nx, L, op⟩, ([], false)) := by
  obtain ⟨hpe, hoe, hae, hbe, hnxe, hLe, hop, hpve⟩ : pg = 0 ∧ off = 0 ∧ af = [] ∧ bf = [] ∧ nx = 0 ∧ L = [] ∧ op = false ∧ pv = 0 := by
    simp [formN, hok, hpv, hch, hbf, hnx, hck, chgN, chkN, isPg] at hf
    exact ⟨hf.2.2.1.1, hf.2.2.1.2.1, hf.2.2.1.2.2.1, hf.2.2.1.2.2.2, hf.2.1, hf.2.2.2.1, hf.2.2.2.2, hf.1⟩
  subst hpe hoe hae hbe hnxe hLe hop hpve
  unfold rdRec recB
  simp only [show hpv 1 = false from rfl, show hch 1 = false from rfl, show hbf 1 = false from rfl, show hnx 1 = false from rfl, show hck 1 = false from rfl, rdN, rdB, rdD, if_true, if_false, Bool.false_eq_true, List.append_nil, List.nil_append, List.append_assoc, List.length_nil, Int.toNat_natCast, tk_app 1 _ _ _ (numN_1 _), tk_app 8 _ _ _ (numN_8 _), tk_all 8 _ _ (numN_8 _), num_8 tx htx0 htx, num_1 1 (by decide) (by decide)]
  rfl
set_option maxHeartbeats 1600000 in
theorem back_2 (tx pv pg off nx : Int) (bf af : List UInt8) (L : List (Int × Int)) (op : Bool) (htx0 : 0 ≤ tx) (htx : tx < 18446744073709551616) (hpv0 : 0 ≤ pv) (hpv1 : pv < 18446744073709551616) (hnx0 : 0 ≤ nx) (hnx1 : nx < 18446744073709551616) (hdl : ∀ e ∈ L, 0 ≤ e.2 ∧ e.2 < 18446744073709551616) (hf : formN 2 pv pg off nx af.length bf.length L.length L op = true) : rdRec (recB 2 tx pv pg off nx bf af L op, false) = (⟨2, tx, pv, pg, off, bf, af, nx, L, op⟩, ([], false)) := by
  obtain ⟨hpg0, hpg1, hn1, hno, hoff0, hoff1, hbe, hLe, hop, hnxe⟩ : 0 ≤ pg ∧ pg < 4096 ∧ 1 ≤ af.length ∧ af.length ≤ 512 ∧ 0 ≤ off ∧ off < 65536 ∧ bf.length = af.length ∧ L = [] ∧ op = false ∧ nx = 0 := by
    simp [formN, hok, hpv, hch, hbf, hnx, hck, chgN, chkN, isPg] at hf
    refine ⟨by omega, by omega, by omega, by omega, by omega, by omega, by omega, hf.2.2.1, hf.2.2.2, by omega⟩
  subst hLe hop hnxe
  unfold rdRec recB
  simp only [show hpv 2 = true from rfl, show hch 2 = true from rfl, show hbf 2 = true from rfl, show hnx 2 = false from rfl, show hck 2 = false from rfl, rdN, rdB, rdD, if_true, if_false, Bool.false_eq_true, List.append_nil, List.nil_append, List.append_assoc, List.length_nil, Int.toNat_natCast, tk_app 1 _ _ _ (numN_1 _), tk_app 8 _ _ _ (numN_8 _), tk_all 8 _ _ (numN_8 _), tk_app 2 _ _ _ (numN_2 _), tk_app _ _ _ _ hbe, tk_all _ _ _ (rfl : af.length = af.length), num_8 tx htx0 htx, num_1 2 (by decide) (by decide), num_8 pv hpv0 hpv1, num_2 pg hpg0 (by omega), num_2 off hoff0 hoff1, num_2 (af.length : Int) (by omega) (by omega)]
  rfl
set_option maxHeartbeats 1600000 in
theorem back_3 (tx pv pg off nx : Int) (bf af : List UInt8) (L : List (Int × Int)) (op : Bool) (htx0 : 0 ≤ tx) (htx : tx < 18446744073709551616) (hpv0 : 0 ≤ pv) (hpv1 : pv < 18446744073709551616) (hnx0 : 0 ≤ nx) (hnx1 : nx < 18446744073709551616) (hdl : ∀ e ∈ L, 0 ≤ e.2 ∧ e.2 < 18446744073709551616) (hf : formN 3 pv pg off nx af.length bf.length L.length L op = true) : rdRec (recB 3 tx pv pg off nx bf af L op, false) = (⟨3, tx, pv, pg, off, bf, af, nx, L, op⟩, ([], false)) := by
  obtain ⟨hpg0, hpg1, hn1, hno, hoff0, hoff1, hbe, hLe, hop⟩ : 0 ≤ pg ∧ pg < 4096 ∧ 1 ≤ af.length ∧ af.length ≤ 512 ∧ 0 ≤ off ∧ off < 65536 ∧ bf = [] ∧ L = [] ∧ op = false := by
    simp [formN, hok, hpv, hch, hbf, hnx, hck, chgN, chkN, isPg] at hf
    refine ⟨by omega, by omega, by omega, by omega, by omega, by omega, hf.1.2.2.1, hf.2.1, hf.2.2⟩
  subst hLe hop hbe
  unfold rdRec recB
  simp only [show hpv 3 = true from rfl, show hch 3 = true from rfl, show hbf 3 = false from rfl, show hnx 3 = true from rfl, show hck 3 = false from rfl, rdN, rdB, rdD, if_true, if_false, Bool.false_eq_true, List.append_nil, List.nil_append, List.append_assoc, List.length_nil, Int.toNat_natCast, tk_app 1 _ _ _ (numN_1 _), tk_app 8 _ _ _ (numN_8 _), tk_all 8 _ _ (numN_8 _), tk_app 2 _ _ _ (numN_2 _), tk_app _ _ _ _ (rfl : af.length = af.length), num_8 tx htx0 htx, num_1 3 (by decide) (by decide), num_8 pv hpv0 hpv1, num_2 pg hpg0 (by omega), num_2 off hoff0 hoff1, num_2 (af.length : Int) (by omega) (by omega), num_8 nx hnx0 hnx1]
  rfl
set_option maxHeartbeats 1600000 in
theorem back_4 (tx pv pg off nx : Int) (bf af : List UInt8) (L : List (Int × Int)) (op : Bool) (htx0 : 0 ≤ tx) (htx : tx < 18446744073709551616) (hpv0 : 0 ≤ pv) (hpv1 : pv < 18446744073709551616) (hnx0 : 0 ≤ nx) (hnx1 : nx < 18446744073709551616) (hdl : ∀ e ∈ L, 0 ≤ e.2 ∧ e.2 < 18446744073709551616) (hf : formN 4 pv pg off nx af.length bf.length L.length L op = true) : rdRec (recB 4 tx pv pg off nx bf af L op, false) = (⟨4, tx, pv, pg, off, bf, af, nx, L, op⟩, ([], false)) := by
  obtain ⟨hpe, hoe, hae, hbe, hnxe, hLe, hop⟩ : pg = 0 ∧ off = 0 ∧ af = [] ∧ bf = [] ∧ nx = 0 ∧ L = [] ∧ op = false := by
    simp [formN, hok, hpv, hch, hbf, hnx, hck, chgN, chkN, isPg] at hf
    exact ⟨hf.2.1.1, hf.2.1.2.1, hf.2.1.2.2.1, hf.2.1.2.2.2, hf.1, hf.2.2.1, hf.2.2.2⟩
  subst hpe hoe hae hbe hnxe hLe hop
  unfold rdRec recB
  simp only [show hpv 4 = true from rfl, show hch 4 = false from rfl, show hbf 4 = false from rfl, show hnx 4 = false from rfl, show hck 4 = false from rfl, rdN, rdB, rdD, if_true, if_false, Bool.false_eq_true, List.append_nil, List.nil_append, List.append_assoc, List.length_nil, Int.toNat_natCast, tk_app 1 _ _ _ (numN_1 _), tk_app 8 _ _ _ (numN_8 _), tk_all 8 _ _ (numN_8 _), num_8 tx htx0 htx, num_1 4 (by decide) (by decide), num_8 pv hpv0 hpv1]
  rfl
set_option maxHeartbeats 1600000 in
theorem back_5 (tx pv pg off nx : Int) (bf af : List UInt8) (L : List (Int × Int)) (op : Bool) (htx0 : 0 ≤ tx) (htx : tx < 18446744073709551616) (hpv0 : 0 ≤ pv) (hpv1 : pv < 18446744073709551616) (hnx0 : 0 ≤ nx) (hnx1 : nx < 18446744073709551616) (hdl : ∀ e ∈ L, 0 ≤ e.2 ∧ e.2 < 18446744073709551616) (hf : formN 5 pv pg off nx af.length bf.length L.length L op = true) : rdRec (recB 5 tx pv pg off nx bf af L op, false) = (⟨5, tx, pv, pg, off, bf, af, nx, L, op⟩, ([], false)) := by
  obtain ⟨hpe, hoe, hae, hbe, hnxe, hLe, hop⟩ : pg = 0 ∧ off = 0 ∧ af = [] ∧ bf = [] ∧ nx = 0 ∧ L = [] ∧ op = false := by
    simp [formN, hok, hpv, hch, hbf, hnx, hck, chgN, chkN, isPg] at hf
    exact ⟨hf.2.1.1, hf.2.1.2.1, hf.2.1.2.2.1, hf.2.1.2.2.2, hf.1, hf.2.2.1, hf.2.2.2⟩
  subst hpe hoe hae hbe hnxe hLe hop
  unfold rdRec recB
  simp only [show hpv 5 = true from rfl, show hch 5 = false from rfl, show hbf 5 = false from rfl, show hnx 5 = false from rfl, show hck 5 = false from rfl, rdN, rdB, rdD, if_true, if_false, Bool.false_eq_true, List.append_nil, List.nil_append, List.append_assoc, List.length_nil, Int.toNat_natCast, tk_app 1 _ _ _ (numN_1 _), tk_app 8 _ _ _ (numN_8 _), tk_all 8 _ _ (numN_8 _), num_8 tx htx0 htx, num_1 5 (by decide) (by decide), num_8 pv hpv0 hpv1]
  rfl
set_option maxHeartbeats 1600000 in
theorem back_6 (tx pv pg off nx : Int) (bf af : List UInt8) (L : List (Int × Int)) (op : Bool) (htx0 : 0 ≤ tx) (htx : tx < 18446744073709551616) (hpv0 : 0 ≤ pv) (hpv1 : pv < 18446744073709551616) (hnx0 : 0 ≤ nx) (hnx1 : nx < 18446744073709551616) (hdl : ∀ e ∈ L, 0 ≤ e.2 ∧ e.2 < 18446744073709551616) (hf : formN 6 pv pg off nx af.length bf.length L.length L op = true) : rdRec (recB 6 tx pv pg off nx bf af L op, false) = (⟨6, tx, pv, pg, off, bf, af, nx, L, op⟩, ([], false)) := by
  obtain ⟨hpe, hoe, hae, hbe, hnxe, hnd, hris⟩ : pg = 0 ∧ off = 0 ∧ af = [] ∧ bf = [] ∧ nx = 0 ∧ L.length ≤ 64 ∧ risB (-1) L = true := by
    simp [formN, hok, hpv, hch, hbf, hnx, hck, chgN, chkN, isPg] at hf
    exact ⟨hf.2.1.1, hf.2.1.2.1, hf.2.1.2.2.1, hf.2.1.2.2.2, hf.1, hf.2.2.1, hf.2.2.2⟩
  subst hpe hoe hae hbe hnxe
  have hcn : 0 ≤ cntN L.length op ∧ cntN L.length op < 256 := by unfold cntN; split <;> omega
  have hc1 : (cntN L.length op).toNat / 2 = L.length := by unfold cntN; split <;> omega
  have hc2 : (cntN L.length op % 2 == 1) = op := by unfold cntN; cases op <;> simp <;> omega
  have hde := dirR_enc L false (fun e he => ⟨risB_mem L (-1) (Int.le_refl _) hris e he, hdl e he⟩)
  unfold rdRec recB
  simp only [show hpv 6 = true from rfl, show hch 6 = false from rfl, show hbf 6 = false from rfl, show hnx 6 = false from rfl, show hck 6 = true from rfl, rdN, rdB, rdD, if_true, if_false, Bool.false_eq_true, List.append_nil, List.nil_append, List.append_assoc, List.length_nil, Int.toNat_natCast, tk_app 1 _ _ _ (numN_1 _), tk_app 8 _ _ _ (numN_8 _), tk_all 8 _ _ (numN_8 _), num_8 tx htx0 htx, num_1 6 (by decide) (by decide), num_8 pv hpv0 hpv1, num_1 _ hcn.1 hcn.2, hc1, hc2, hde]
end Go.Proofs.YthdahgekodcloaaDoor
namespace Go.Proofs.YthdahgekodcloaaDoor
open Go.RowKit

set_option maxRecDepth 20000 in
set_option maxHeartbeats 6400000 in
theorem encode_1 (tx pv pg off nx : Int) (A B D : Option Addr) (nb a na b' nd d : Nat) (op : Bool) (w : World) (bf af : List UInt8) (L : List (Int × Int)) (ht : Tab w) (hb0 : Rd w A bf) (ha0 : Rd w B af) (hr : RdD w D L) (hbn : bf.length = nb) (han : af.length = na) (hn : L.length = nd) (hnd : nd ≤ 140737488351232) (hna : na ≤ 140737488351232) (hnb : nb ≤ 140737488351232) (ho : -9223372036854775808 ≤ off) (ho2 : off < 9223372036854775808) (htx0 : 0 ≤ tx) (htx : tx < 18446744073709551616) (hpv0 : 0 ≤ pv) (hpv1 : pv < 18446744073709551616) (hnx0 : 0 ≤ nx) (hnx1 : nx < 18446744073709551616) (hdl : ∀ e ∈ L, 0 ≤ e.2 ∧ e.2 < 18446744073709551616) (hf : formN 1 pv pg off nx na nb nd L op = true) :
    Calls Tryd.prog 11 #[.agg #[.int .u8 1, .int .u64 tx, .int .u64 pv, .int .i64 pg, .int .i64 off, .slice A nb a, .slice B na b', .int .u64 nx, .slice D nd d, .bool op]] w (EncP w (fullB 1 tx pv pg off nx bf af L op)) := by
  have KF := hide (fun (W : World) (hW : Ext w W) => (show Calls Tryd.prog 9 #[.agg #[.int .u8 1, .int .u64 tx, .int .u64 pv, .int .i64 pg, .int .i64 off, .slice A nb a, .slice B na b', .int .u64 nx, .slice D nd d, .bool op]] W (RetB W true) from by have h := form_any 1 tx pv pg off nx A B D nb a na b' nd d op W L (hr.ext hW) hn hnd hna hnb ho ho2; rw [hf] at h; exact h))
  have KP := hide (fun (W : World) => (show Calls Tryd.prog 16 #[.int .u8 1] W (fun e w' => e = .returned (.tuple #[.agg #[.bool false, .bool false, .bool false, .bool false, .bool false], .bool true]) ∧ Ext W w') from partsOf_any 1 W))
  have HT := hide ht
  have HBF := hide hb0
  have HAF := hide ha0
  have HD := hide hr
  have HBN := hide hbn
  have HAN := hide han
  have HN := hide hn
  have HTX := hide (And.intro htx0 htx)
  have HPV := hide (And.intro hpv0 hpv1)
  have HNX := hide (And.intro hnx0 hnx1)
  clear ht hb0 ha0 hr hbn han hn htx0 htx hpv0 hpv1 hnx0 hnx1 hdl hf ho ho2
  go_enter Tryd.func11, Tryd.ntmps11
  go_upto_region 1 with fail
  obtain ⟨W1, hX1, hR1, hg⟩ : ∃ W1, Ext w W1 ∧ Rw W1 w.heap.size 26 [.int .u8 1, .int .u64 tx, .int .u64 pv, .int .i64 pg, .int .i64 off, .slice A nb a, .slice B na b', .int .u64 nx, .slice D nd d, .bool op] ∧ w.alloc (.cells #[.int .u8 1, .int .u64 tx, .int .u64 pv, .int .i64 pg, .int .i64 off, .slice A nb a, .slice B na b', .int .u64 nx, .slice D nd d, .bool op] 26) = W1 := ⟨_, Ext.alloc _ _, Rw.new _ _ _, rfl⟩
  rw [hg]
  obtain ⟨hb, HHB⟩ : ∃ hb, Hid (w.heap.size = hb) := ⟨_, hide rfl⟩
  rw [HHB.out] at hR1 ⊢
  have X1 := hide hX1
  have R1 := hide hR1
  have c0 := hR1.cell (i := 0) rfl
  have c1 := hR1.cell (i := 1) rfl
  have c2 := hR1.cell (i := 2) rfl
  have c3 := hR1.cell (i := 3) rfl
  have c4 := hR1.cell (i := 4) rfl
  have c5 := hR1.cell (i := 5) rfl
  have c6 := hR1.cell (i := 6) rfl
  have c7 := hR1.cell (i := 7) rfl
  have c8 := hR1.cell (i := 8) rfl
  have c9 := hR1.cell (i := 9) rfl
  clear hg hX1 hR1
  go_upto_region 3 with (go_at_call 9; (with_reducible refine (KF.out _ X1.out).mono ?_); rintro e w2 ⟨rfl, hx2⟩; have X2 := hide (X1.out.trans hx2); have R2 := hide (R1.out.ext hx2); clear hx2)
  clear c0 c1 c2 c3 c4 c5 c6 c7 c8 c9
  have c0 := R2.out.cell (i := 0) rfl
  go_upto_region 4 with (go_at_call 16; (with_reducible refine (KP.out _).mono ?_); rintro e w3 ⟨rfl, hx3⟩; have X3 := hide (X2.out.trans hx3); have R3 := hide (R2.out.ext hx3); clear hx3)
  clear c0
  obtain ⟨W4, hX4, hR4, hg⟩ : ∃ W4, Ext w3 W4 ∧ Rw W4 w3.heap.size 42 [.bool false, .bool false, .bool false, .bool false, .bool false] ∧ w3.alloc (.cells #[.bool false, .bool false, .bool false, .bool false, .bool false] 42) = W4 := ⟨_, Ext.alloc _ _, Rw.new _ _ _, rfl⟩
  rw [hg]
  obtain ⟨hq, HHQ⟩ : ∃ hq, Hid (w3.heap.size = hq) := ⟨_, hide rfl⟩
  rw [HHQ.out] at hR4 ⊢
  have R4 := hide (R3.out.ext hX4)
  have Q4 := hide hR4
  obtain ⟨BB, HBB⟩ : ∃ BB, Hid (W4.heap.size = BB) := ⟨_, hide rfl⟩
  have XW4 := hide (X3.out.trans hX4)
  have HB0 : Hid (w.heap.size ≤ BB) := hide (by rw [← HBB.out]; exact XW4.out.size)
  have Y4 : Hid (Below BB W4 W4) := hide (Below.refl _ _)
  have O4 : Hid (Own W4 BB (.slice none 0 0) []) := hide (Own.nil _ _)
  have HBW : Hid (BB ≤ W4.heap.size) := hide (by rw [HBB.out]; exact Nat.le_refl _)
  clear hg hX4 hR4 X1 X2 X3 R1 R2 R3 KF KP HHB HHQ
  have c0 := R4.out.cell (i := 0) rfl
  have c1 := R4.out.cell (i := 1) rfl
  have c2 := R4.out.cell (i := 2) rfl
  have c3 := R4.out.cell (i := 3) rfl
  have c4 := R4.out.cell (i := 4) rfl
  have c5 := R4.out.cell (i := 5) rfl
  have c6 := R4.out.cell (i := 6) rfl
  have c7 := R4.out.cell (i := 7) rfl
  have c8 := R4.out.cell (i := 8) rfl
  have c9 := R4.out.cell (i := 9) rfl
  have q0 := Q4.out.cell (i := 0) rfl
  have q1 := Q4.out.cell (i := 1) rfl
  have q2 := Q4.out.cell (i := 2) rfl
  have q3 := Q4.out.cell (i := 3) rfl
  have q4 := Q4.out.cell (i := 4) rfl
  have KA := hide (appendNumber_1 (.slice none 0 0) [] 1 BB W4 O4.out HBW.out (by omega) (by omega) (by simp))
  go_upto_region 5 with (go_at_call 19; (with_reducible refine KA.out.mono ?_); rintro e m0 ⟨z0, rfl, ho, hb2, hs2⟩; have Op0 := hide ho; have Yp0 : Hid (Below BB W4 m0) := hide (Y4.out.trans hb2); have Xp0 : Hid (Ext w m0) := hide (XW4.out.below HB0.out Yp0.out); have Rp0 := hide (hs2 hb _ _ (by decide) R4.out); have Qp0 := hide (hs2 hq _ _ (by decide) Q4.out); clear ho hb2 hs2)
  clear R4 Q4 O4 KA
  clear c0 c1 c2 c3 c4 c5 c6 c7 c8 c9 q0 q1 q2 q3 q4
  have c0 := Rp0.out.cell (i := 0) rfl
  have c1 := Rp0.out.cell (i := 1) rfl
  have c2 := Rp0.out.cell (i := 2) rfl
  have c3 := Rp0.out.cell (i := 3) rfl
  have c4 := Rp0.out.cell (i := 4) rfl
  have c5 := Rp0.out.cell (i := 5) rfl
  have c6 := Rp0.out.cell (i := 6) rfl
  have c7 := Rp0.out.cell (i := 7) rfl
  have c8 := Rp0.out.cell (i := 8) rfl
  have c9 := Rp0.out.cell (i := 9) rfl
  have q0 := Qp0.out.cell (i := 0) rfl
  have q1 := Qp0.out.cell (i := 1) rfl
  have q2 := Qp0.out.cell (i := 2) rfl
  have q3 := Qp0.out.cell (i := 3) rfl
  have q4 := Qp0.out.cell (i := 4) rfl
  obtain ⟨l0, HEp0⟩ : ∃ l, Hid ([] ++ numN 1 1 = l) := ⟨_, hide rfl⟩
  rw [HEp0.out] at Op0
  have HLp0 : Hid (l0.length ≤ 1) := hide (by rw [← HEp0.out, List.length_append, numN_length 1 _ (by decide)]; simp)
  have KA := hide (appendNumber_8 z0 l0 tx BB m0 Op0.out (Nat.le_trans HBW.out Yp0.out.size) HTX.out.1 HTX.out.2 (by have := HLp0.out; omega))
  go_upto_region 6 with (go_at_call 19; (with_reducible refine KA.out.mono ?_); rintro e m1 ⟨z1, rfl, ho, hb2, hs2⟩; have Op1 := hide ho; have Yp1 : Hid (Below BB W4 m1) := hide (Yp0.out.trans hb2); have Xp1 : Hid (Ext w m1) := hide (XW4.out.below HB0.out Yp1.out); have Rp1 := hide (hs2 hb _ _ (by decide) Rp0.out); have Qp1 := hide (hs2 hq _ _ (by decide) Qp0.out); clear ho hb2 hs2)
  clear Rp0 Qp0 Op0 KA
  clear c0 c1 c2 c3 c4 c5 c6 c7 c8 c9 q0 q1 q2 q3 q4
  have c0 := Rp1.out.cell (i := 0) rfl
  have c1 := Rp1.out.cell (i := 1) rfl
  have c2 := Rp1.out.cell (i := 2) rfl
  have c3 := Rp1.out.cell (i := 3) rfl
  have c4 := Rp1.out.cell (i := 4) rfl
  have c5 := Rp1.out.cell (i := 5) rfl
  have c6 := Rp1.out.cell (i := 6) rfl
  have c7 := Rp1.out.cell (i := 7) rfl
  have c8 := Rp1.out.cell (i := 8) rfl
  have c9 := Rp1.out.cell (i := 9) rfl
  have q0 := Qp1.out.cell (i := 0) rfl
  have q1 := Qp1.out.cell (i := 1) rfl
  have q2 := Qp1.out.cell (i := 2) rfl
  have q3 := Qp1.out.cell (i := 3) rfl
  have q4 := Qp1.out.cell (i := 4) rfl
  obtain ⟨l1, HEp1⟩ : ∃ l, Hid (l0 ++ numN 8 tx = l) := ⟨_, hide rfl⟩
  rw [HEp1.out] at Op1
  have HLp1 : Hid (l1.length ≤ 9) := hide (by rw [← HEp1.out, List.length_append, numN_length 8 _ (by decide)]; have := HLp0.out; omega)
  have HREC : Hid (recB 1 tx pv pg off nx bf af L op = l1) := hide (by
    rw [← HEp1.out, ← HEp0.out]
    simp [recB, hpv, hch, hnx, hck])
  obtain ⟨AZ, cz, hvz, hcz, hrz⟩ := Op1.out.bytes
  subst hvz
  obtain ⟨nz, HNZ⟩ : ∃ n, Hid (l1.length = n) := ⟨_, hide rfl⟩
  rw [HNZ.out] at Op1 ⊢
  have KS := hide (sumOf_any AZ l1 nz cz m1 hrz HNZ.out (by have := HNZ.out; have := HLp1.out; omega) (HT.out.ext Xp1.out))
  clear hcz hrz
  go_wp2_with (first
    | (go_at_call 21; (with_reducible refine KS.out.mono ?_); rintro e ws ⟨vs, rfl, hxs, hos⟩; obtain ⟨AS, cs, hvs, hcs, hrs⟩ := Own.bytes hos; subst hvs; have XS := hide hxs; have RS := hide hrs; clear hxs hrs hos hcs)
    | (refine wpList_catG rfl (.tmp 67) (.tmp 69) rfl BB (.slice AZ nz cz) l1 (sumB l1) AS _ cs rfl rfl rfl (Op1.out.ext XS.out) RS.out (Nat.le_trans (Nat.le_trans HBW.out Yp1.out.size) XS.out.size) (by rw [show (sumB l1).length = 4 from numN_length 4 _ (by decide)]; have := HLp1.out; omega) ?_; intro vf wf ho hb2 hs2))
  go_ret2
  refine ⟨vf, rfl, ?_, XW4.out.below HB0.out ((Yp1.out.trans (Below.mono XS.out (Nat.le_trans HBW.out Yp1.out.size))).trans hb2)⟩
  rw [fullB, HREC.out]
  exact own_mono ho HB0.out
end Go.Proofs.YthdahgekodcloaaDoor
namespace Go.Proofs.YthdahgekodcloaaDoor
open Go.RowKit

set_option maxRecDepth 20000 in
set_option maxHeartbeats 6400000 in
theorem encode_2 (tx pv pg off nx : Int) (A B D : Option Addr) (nb a na b' nd d : Nat) (op : Bool) (w : World) (bf af : List UInt8) (L : List (Int × Int)) (ht : Tab w) (hb0 : Rd w A bf) (ha0 : Rd w B af) (hr : RdD w D L) (hbn : bf.length = nb) (han : af.length = na) (hn : L.length = nd) (hnd : nd ≤ 140737488351232) (hna : na ≤ 140737488351232) (hnb : nb ≤ 140737488351232) (ho : -9223372036854775808 ≤ off) (ho2 : off < 9223372036854775808) (htx0 : 0 ≤ tx) (htx : tx < 18446744073709551616) (hpv0 : 0 ≤ pv) (hpv1 : pv < 18446744073709551616) (hnx0 : 0 ≤ nx) (hnx1 : nx < 18446744073709551616) (hdl : ∀ e ∈ L, 0 ≤ e.2 ∧ e.2 < 18446744073709551616) (hf : formN 2 pv pg off nx na nb nd L op = true) :
    Calls Tryd.prog 11 #[.agg #[.int .u8 2, .int .u64 tx, .int .u64 pv, .int .i64 pg, .int .i64 off, .slice A nb a, .slice B na b', .int .u64 nx, .slice D nd d, .bool op]] w (EncP w (fullB 2 tx pv pg off nx bf af L op)) := by
  have KF := hide (fun (W : World) (hW : Ext w W) => (show Calls Tryd.prog 9 #[.agg #[.int .u8 2, .int .u64 tx, .int .u64 pv, .int .i64 pg, .int .i64 off, .slice A nb a, .slice B na b', .int .u64 nx, .slice D nd d, .bool op]] W (RetB W true) from by have h := form_any 2 tx pv pg off nx A B D nb a na b' nd d op W L (hr.ext hW) hn hnd hna hnb ho ho2; rw [hf] at h; exact h))
  have KP := hide (fun (W : World) => (show Calls Tryd.prog 16 #[.int .u8 2] W (fun e w' => e = .returned (.tuple #[.agg #[.bool true, .bool true, .bool true, .bool false, .bool false], .bool true]) ∧ Ext W w') from partsOf_any 2 W))
  obtain ⟨hpg0, hpg1, hn1, hno, hoff0, hnbE⟩ : 0 ≤ pg ∧ pg < 4096 ∧ na ≤ 512 ∧ off ≤ 512 ∧ 0 ≤ off ∧ nb ≤ 512 := by
    simp [formN, hok, hpv, hch, hbf, hnx, hck, chgN, chkN, isPg] at hf
    omega
  have wpg : IntKind.u64.wrap pg = pg := by rw [IntKind.wrap_u64]; omega
  have woff : IntKind.u64.wrap off = off := by rw [IntKind.wrap_u64]; omega
  have wna : IntKind.u64.wrap (na : Int) = (na : Int) := by rw [IntKind.wrap_u64]; omega
  have HT := hide ht
  have HBF := hide hb0
  have HAF := hide ha0
  have HD := hide hr
  have HBN := hide hbn
  have HAN := hide han
  have HN := hide hn
  have HTX := hide (And.intro htx0 htx)
  have HPV := hide (And.intro hpv0 hpv1)
  have HNX := hide (And.intro hnx0 hnx1)
  clear ht hb0 ha0 hr hbn han hn htx0 htx hpv0 hpv1 hnx0 hnx1 hdl hf ho ho2
  go_enter Tryd.func11, Tryd.ntmps11
  go_upto_region 1 with fail
  obtain ⟨W1, hX1, hR1, hg⟩ : ∃ W1, Ext w W1 ∧ Rw W1 w.heap.size 26 [.int .u8 2, .int .u64 tx, .int .u64 pv, .int .i64 pg, .int .i64 off, .slice A nb a, .slice B na b', .int .u64 nx, .slice D nd d, .bool op] ∧ w.alloc (.cells #[.int .u8 2, .int .u64 tx, .int .u64 pv, .int .i64 pg, .int .i64 off, .slice A nb a, .slice B na b', .int .u64 nx, .slice D nd d, .bool op] 26) = W1 := ⟨_, Ext.alloc _ _, Rw.new _ _ _, rfl⟩
  rw [hg]
  obtain ⟨hb, HHB⟩ : ∃ hb, Hid (w.heap.size = hb) := ⟨_, hide rfl⟩
  rw [HHB.out] at hR1 ⊢
  have X1 := hide hX1
  have R1 := hide hR1
  have c0 := hR1.cell (i := 0) rfl
  have c1 := hR1.cell (i := 1) rfl
  have c2 := hR1.cell (i := 2) rfl
  have c3 := hR1.cell (i := 3) rfl
  have c4 := hR1.cell (i := 4) rfl
  have c5 := hR1.cell (i := 5) rfl
  have c6 := hR1.cell (i := 6) rfl
  have c7 := hR1.cell (i := 7) rfl
  have c8 := hR1.cell (i := 8) rfl
  have c9 := hR1.cell (i := 9) rfl
  clear hg hX1 hR1
  go_upto_region 3 with (go_at_call 9; (with_reducible refine (KF.out _ X1.out).mono ?_); rintro e w2 ⟨rfl, hx2⟩; have X2 := hide (X1.out.trans hx2); have R2 := hide (R1.out.ext hx2); clear hx2)
  clear c0 c1 c2 c3 c4 c5 c6 c7 c8 c9
  have c0 := R2.out.cell (i := 0) rfl
  go_upto_region 4 with (go_at_call 16; (with_reducible refine (KP.out _).mono ?_); rintro e w3 ⟨rfl, hx3⟩; have X3 := hide (X2.out.trans hx3); have R3 := hide (R2.out.ext hx3); clear hx3)
  clear c0
  obtain ⟨W4, hX4, hR4, hg⟩ : ∃ W4, Ext w3 W4 ∧ Rw W4 w3.heap.size 42 [.bool true, .bool true, .bool true, .bool false, .bool false] ∧ w3.alloc (.cells #[.bool true, .bool true, .bool true, .bool false, .bool false] 42) = W4 := ⟨_, Ext.alloc _ _, Rw.new _ _ _, rfl⟩
  rw [hg]
  obtain ⟨hq, HHQ⟩ : ∃ hq, Hid (w3.heap.size = hq) := ⟨_, hide rfl⟩
  rw [HHQ.out] at hR4 ⊢
  have R4 := hide (R3.out.ext hX4)
  have Q4 := hide hR4
  obtain ⟨BB, HBB⟩ : ∃ BB, Hid (W4.heap.size = BB) := ⟨_, hide rfl⟩
  have XW4 := hide (X3.out.trans hX4)
  have HB0 : Hid (w.heap.size ≤ BB) := hide (by rw [← HBB.out]; exact XW4.out.size)
  have Y4 : Hid (Below BB W4 W4) := hide (Below.refl _ _)
  have O4 : Hid (Own W4 BB (.slice none 0 0) []) := hide (Own.nil _ _)
  have HBW : Hid (BB ≤ W4.heap.size) := hide (by rw [HBB.out]; exact Nat.le_refl _)
  clear hg hX4 hR4 X1 X2 X3 R1 R2 R3 KF KP HHB HHQ
  have c0 := R4.out.cell (i := 0) rfl
  have c1 := R4.out.cell (i := 1) rfl
  have c2 := R4.out.cell (i := 2) rfl
  have c3 := R4.out.cell (i := 3) rfl
  have c4 := R4.out.cell (i := 4) rfl
  have c5 := R4.out.cell (i := 5) rfl
  have c6 := R4.out.cell (i := 6) rfl
  have c7 := R4.out.cell (i := 7) rfl
  have c8 := R4.out.cell (i := 8) rfl
  have c9 := R4.out.cell (i := 9) rfl
  have q0 := Q4.out.cell (i := 0) rfl
  have q1 := Q4.out.cell (i := 1) rfl
  have q2 := Q4.out.cell (i := 2) rfl
  have q3 := Q4.out.cell (i := 3) rfl
  have q4 := Q4.out.cell (i := 4) rfl
  have KA := hide (appendNumber_1 (.slice none 0 0) [] 2 BB W4 O4.out HBW.out (by omega) (by omega) (by simp))
  go_upto_region 5 with (go_at_call 19; (with_reducible refine KA.out.mono ?_); rintro e m0 ⟨z0, rfl, ho, hb2, hs2⟩; have Op0 := hide ho; have Yp0 : Hid (Below BB W4 m0) := hide (Y4.out.trans hb2); have Xp0 : Hid (Ext w m0) := hide (XW4.out.below HB0.out Yp0.out); have Rp0 := hide (hs2 hb _ _ (by decide) R4.out); have Qp0 := hide (hs2 hq _ _ (by decide) Q4.out); clear ho hb2 hs2)
  clear R4 Q4 O4 KA
  clear c0 c1 c2 c3 c4 c5 c6 c7 c8 c9 q0 q1 q2 q3 q4
  have c0 := Rp0.out.cell (i := 0) rfl
  have c1 := Rp0.out.cell (i := 1) rfl
  have c2 := Rp0.out.cell (i := 2) rfl
  have c3 := Rp0.out.cell (i := 3) rfl
  have c4 := Rp0.out.cell (i := 4) rfl
  have c5 := Rp0.out.cell (i := 5) rfl
  have c6 := Rp0.out.cell (i := 6) rfl
  have c7 := Rp0.out.cell (i := 7) rfl
  have c8 := Rp0.out.cell (i := 8) rfl
  have c9 := Rp0.out.cell (i := 9) rfl
  have q0 := Qp0.out.cell (i := 0) rfl
  have q1 := Qp0.out.cell (i := 1) rfl
  have q2 := Qp0.out.cell (i := 2) rfl
  have q3 := Qp0.out.cell (i := 3) rfl
  have q4 := Qp0.out.cell (i := 4) rfl
  obtain ⟨l0, HEp0⟩ : ∃ l, Hid ([] ++ numN 1 2 = l) := ⟨_, hide rfl⟩
  rw [HEp0.out] at Op0
  have HLp0 : Hid (l0.length ≤ 1) := hide (by rw [← HEp0.out, List.length_append, numN_length 1 _ (by decide)]; simp)
  have KA := hide (appendNumber_8 z0 l0 tx BB m0 Op0.out (Nat.le_trans HBW.out Yp0.out.size) HTX.out.1 HTX.out.2 (by have := HLp0.out; omega))
  go_upto_region 6 with (go_at_call 19; (with_reducible refine KA.out.mono ?_); rintro e m1 ⟨z1, rfl, ho, hb2, hs2⟩; have Op1 := hide ho; have Yp1 : Hid (Below BB W4 m1) := hide (Yp0.out.trans hb2); have Xp1 : Hid (Ext w m1) := hide (XW4.out.below HB0.out Yp1.out); have Rp1 := hide (hs2 hb _ _ (by decide) Rp0.out); have Qp1 := hide (hs2 hq _ _ (by decide) Qp0.out); clear ho hb2 hs2)
  clear Rp0 Qp0 Op0 KA
  clear c0 c1 c2 c3 c4 c5 c6 c7 c8 c9 q0 q1 q2 q3 q4
  have c0 := Rp1.out.cell (i := 0) rfl
  have c1 := Rp1.out.cell (i := 1) rfl
  have c2 := Rp1.out.cell (i := 2) rfl
  have c3 := Rp1.out.cell (i := 3) rfl
  have c4 := Rp1.out.cell (i := 4) rfl
  have c5 := Rp1.out.cell (i := 5) rfl
  have c6 := Rp1.out.cell (i := 6) rfl
  have c7 := Rp1.out.cell (i := 7) rfl
  have c8 := Rp1.out.cell (i := 8) rfl
  have c9 := Rp1.out.cell (i := 9) rfl
  have q0 := Qp1.out.cell (i := 0) rfl
  have q1 := Qp1.out.cell (i := 1) rfl
  have q2 := Qp1.out.cell (i := 2) rfl
  have q3 := Qp1.out.cell (i := 3) rfl
  have q4 := Qp1.out.cell (i := 4) rfl
  obtain ⟨l1, HEp1⟩ : ∃ l, Hid (l0 ++ numN 8 tx = l) := ⟨_, hide rfl⟩
  rw [HEp1.out] at Op1
  have HLp1 : Hid (l1.length ≤ 9) := hide (by rw [← HEp1.out, List.length_append, numN_length 8 _ (by decide)]; have := HLp0.out; omega)
  have KA := hide (appendNumber_8 z1 l1 pv BB m1 Op1.out (Nat.le_trans HBW.out Yp1.out.size) HPV.out.1 HPV.out.2 (by have := HLp1.out; omega))
  go_upto_region 8 with (go_at_call 19; (with_reducible refine KA.out.mono ?_); rintro e m2 ⟨z2, rfl, ho, hb2, hs2⟩; have Op2 := hide ho; have Yp2 : Hid (Below BB W4 m2) := hide (Yp1.out.trans hb2); have Xp2 : Hid (Ext w m2) := hide (XW4.out.below HB0.out Yp2.out); have Rp2 := hide (hs2 hb _ _ (by decide) Rp1.out); have Qp2 := hide (hs2 hq _ _ (by decide) Qp1.out); clear ho hb2 hs2)
  clear Rp1 Qp1 Op1 KA
  clear c0 c1 c2 c3 c4 c5 c6 c7 c8 c9 q0 q1 q2 q3 q4
  have c0 := Rp2.out.cell (i := 0) rfl
  have c1 := Rp2.out.cell (i := 1) rfl
  have c2 := Rp2.out.cell (i := 2) rfl
  have c3 := Rp2.out.cell (i := 3) rfl
  have c4 := Rp2.out.cell (i := 4) rfl
  have c5 := Rp2.out.cell (i := 5) rfl
  have c6 := Rp2.out.cell (i := 6) rfl
  have c7 := Rp2.out.cell (i := 7) rfl
  have c8 := Rp2.out.cell (i := 8) rfl
  have c9 := Rp2.out.cell (i := 9) rfl
  have q0 := Qp2.out.cell (i := 0) rfl
  have q1 := Qp2.out.cell (i := 1) rfl
  have q2 := Qp2.out.cell (i := 2) rfl
  have q3 := Qp2.out.cell (i := 3) rfl
  have q4 := Qp2.out.cell (i := 4) rfl
  obtain ⟨l2, HEp2⟩ : ∃ l, Hid (l1 ++ numN 8 pv = l) := ⟨_, hide rfl⟩
  rw [HEp2.out] at Op2
  have HLp2 : Hid (l2.length ≤ 17) := hide (by rw [← HEp2.out, List.length_append, numN_length 8 _ (by decide)]; have := HLp1.out; omega)
  have KA := hide (appendNumber_2 z2 l2 pg BB m2 Op2.out (Nat.le_trans HBW.out Yp2.out.size) (by omega) (by omega) (by have := HLp2.out; omega))
  go_upto_region 10 with (go_at_call 19; (with_reducible refine KA.out.mono ?_); rintro e m3 ⟨z3, rfl, ho, hb2, hs2⟩; have Op3 := hide ho; have Yp3 : Hid (Below BB W4 m3) := hide (Yp2.out.trans hb2); have Xp3 : Hid (Ext w m3) := hide (XW4.out.below HB0.out Yp3.out); have Rp3 := hide (hs2 hb _ _ (by decide) Rp2.out); have Qp3 := hide (hs2 hq _ _ (by decide) Qp2.out); clear ho hb2 hs2)
  clear Rp2 Qp2 Op2 KA
  clear c0 c1 c2 c3 c4 c5 c6 c7 c8 c9 q0 q1 q2 q3 q4
  have c0 := Rp3.out.cell (i := 0) rfl
  have c1 := Rp3.out.cell (i := 1) rfl
  have c2 := Rp3.out.cell (i := 2) rfl
  have c3 := Rp3.out.cell (i := 3) rfl
  have c4 := Rp3.out.cell (i := 4) rfl
  have c5 := Rp3.out.cell (i := 5) rfl
  have c6 := Rp3.out.cell (i := 6) rfl
  have c7 := Rp3.out.cell (i := 7) rfl
  have c8 := Rp3.out.cell (i := 8) rfl
  have c9 := Rp3.out.cell (i := 9) rfl
  have q0 := Qp3.out.cell (i := 0) rfl
  have q1 := Qp3.out.cell (i := 1) rfl
  have q2 := Qp3.out.cell (i := 2) rfl
  have q3 := Qp3.out.cell (i := 3) rfl
  have q4 := Qp3.out.cell (i := 4) rfl
  obtain ⟨l3, HEp3⟩ : ∃ l, Hid (l2 ++ numN 2 pg = l) := ⟨_, hide rfl⟩
  rw [HEp3.out] at Op3
  have HLp3 : Hid (l3.length ≤ 19) := hide (by rw [← HEp3.out, List.length_append, numN_length 2 _ (by decide)]; have := HLp2.out; omega)
  have KA := hide (appendNumber_2 z3 l3 off BB m3 Op3.out (Nat.le_trans HBW.out Yp3.out.size) (by omega) (by omega) (by have := HLp3.out; omega))
  go_upto_region 11 with (go_at_call 19; (with_reducible refine KA.out.mono ?_); rintro e m4 ⟨z4, rfl, ho, hb2, hs2⟩; have Op4 := hide ho; have Yp4 : Hid (Below BB W4 m4) := hide (Yp3.out.trans hb2); have Xp4 : Hid (Ext w m4) := hide (XW4.out.below HB0.out Yp4.out); have Rp4 := hide (hs2 hb _ _ (by decide) Rp3.out); have Qp4 := hide (hs2 hq _ _ (by decide) Qp3.out); clear ho hb2 hs2)
  clear Rp3 Qp3 Op3 KA
  clear c0 c1 c2 c3 c4 c5 c6 c7 c8 c9 q0 q1 q2 q3 q4
  have c0 := Rp4.out.cell (i := 0) rfl
  have c1 := Rp4.out.cell (i := 1) rfl
  have c2 := Rp4.out.cell (i := 2) rfl
  have c3 := Rp4.out.cell (i := 3) rfl
  have c4 := Rp4.out.cell (i := 4) rfl
  have c5 := Rp4.out.cell (i := 5) rfl
  have c6 := Rp4.out.cell (i := 6) rfl
  have c7 := Rp4.out.cell (i := 7) rfl
  have c8 := Rp4.out.cell (i := 8) rfl
  have c9 := Rp4.out.cell (i := 9) rfl
  have q0 := Qp4.out.cell (i := 0) rfl
  have q1 := Qp4.out.cell (i := 1) rfl
  have q2 := Qp4.out.cell (i := 2) rfl
  have q3 := Qp4.out.cell (i := 3) rfl
  have q4 := Qp4.out.cell (i := 4) rfl
  obtain ⟨l4, HEp4⟩ : ∃ l, Hid (l3 ++ numN 2 off = l) := ⟨_, hide rfl⟩
  rw [HEp4.out] at Op4
  have HLp4 : Hid (l4.length ≤ 21) := hide (by rw [← HEp4.out, List.length_append, numN_length 2 _ (by decide)]; have := HLp3.out; omega)
  have KA := hide (appendNumber_2 z4 l4 (na : Int) BB m4 Op4.out (Nat.le_trans HBW.out Yp4.out.size) (by omega) (by omega) (by have := HLp4.out; omega))
  go_upto_region 12 with (go_at_call 19; (with_reducible refine KA.out.mono ?_); rintro e m5 ⟨z5, rfl, ho, hb2, hs2⟩; have Op5 := hide ho; have Yp5 : Hid (Below BB W4 m5) := hide (Yp4.out.trans hb2); have Xp5 : Hid (Ext w m5) := hide (XW4.out.below HB0.out Yp5.out); have Rp5 := hide (hs2 hb _ _ (by decide) Rp4.out); have Qp5 := hide (hs2 hq _ _ (by decide) Qp4.out); clear ho hb2 hs2)
  clear Rp4 Qp4 Op4 KA
  clear c0 c1 c2 c3 c4 c5 c6 c7 c8 c9 q0 q1 q2 q3 q4
  have c0 := Rp5.out.cell (i := 0) rfl
  have c1 := Rp5.out.cell (i := 1) rfl
  have c2 := Rp5.out.cell (i := 2) rfl
  have c3 := Rp5.out.cell (i := 3) rfl
  have c4 := Rp5.out.cell (i := 4) rfl
  have c5 := Rp5.out.cell (i := 5) rfl
  have c6 := Rp5.out.cell (i := 6) rfl
  have c7 := Rp5.out.cell (i := 7) rfl
  have c8 := Rp5.out.cell (i := 8) rfl
  have c9 := Rp5.out.cell (i := 9) rfl
  have q0 := Qp5.out.cell (i := 0) rfl
  have q1 := Qp5.out.cell (i := 1) rfl
  have q2 := Qp5.out.cell (i := 2) rfl
  have q3 := Qp5.out.cell (i := 3) rfl
  have q4 := Qp5.out.cell (i := 4) rfl
  obtain ⟨l5, HEp5⟩ : ∃ l, Hid (l4 ++ numN 2 (na : Int) = l) := ⟨_, hide rfl⟩
  rw [HEp5.out] at Op5
  have HLp5 : Hid (l5.length ≤ 23) := hide (by rw [← HEp5.out, List.length_append, numN_length 2 _ (by decide)]; have := HLp4.out; omega)
  go_upto_region 13 with (refine wpList_catG rfl (.tmp 48) (.tmp 50) rfl BB z5 l5 bf A nb a rfl rfl HBN.out.symm Op5.out (HBF.out.ext Xp5.out) (Nat.le_trans HBW.out Yp5.out.size) (by rw [HBN.out]; have := HLp5.out; omega) ?_; intro z6 m6 ho hb2 hs2; have Op6 := hide ho; have Yp6 : Hid (Below BB W4 m6) := hide (Yp5.out.trans hb2); have Xp6 : Hid (Ext w m6) := hide (XW4.out.below HB0.out Yp6.out); have Rp6 := hide (hs2 hb _ _ (by decide) Rp5.out); have Qp6 := hide (hs2 hq _ _ (by decide) Qp5.out); clear ho hb2 hs2)
  clear Rp5 Qp5 Op5 
  clear c0 c1 c2 c3 c4 c5 c6 c7 c8 c9 q0 q1 q2 q3 q4
  have c0 := Rp6.out.cell (i := 0) rfl
  have c1 := Rp6.out.cell (i := 1) rfl
  have c2 := Rp6.out.cell (i := 2) rfl
  have c3 := Rp6.out.cell (i := 3) rfl
  have c4 := Rp6.out.cell (i := 4) rfl
  have c5 := Rp6.out.cell (i := 5) rfl
  have c6 := Rp6.out.cell (i := 6) rfl
  have c7 := Rp6.out.cell (i := 7) rfl
  have c8 := Rp6.out.cell (i := 8) rfl
  have c9 := Rp6.out.cell (i := 9) rfl
  have q0 := Qp6.out.cell (i := 0) rfl
  have q1 := Qp6.out.cell (i := 1) rfl
  have q2 := Qp6.out.cell (i := 2) rfl
  have q3 := Qp6.out.cell (i := 3) rfl
  have q4 := Qp6.out.cell (i := 4) rfl
  obtain ⟨l6, HEp6⟩ : ∃ l, Hid (l5 ++ bf = l) := ⟨_, hide rfl⟩
  rw [HEp6.out] at Op6
  have HLp6 : Hid (l6.length ≤ 535) := hide (by rw [← HEp6.out, List.length_append, HBN.out]; have := HLp5.out; omega)
  go_upto_region 14 with (refine wpList_catG rfl (.tmp 52) (.tmp 54) rfl BB z6 l6 af B na b' rfl rfl HAN.out.symm Op6.out (HAF.out.ext Xp6.out) (Nat.le_trans HBW.out Yp6.out.size) (by rw [HAN.out]; have := HLp6.out; omega) ?_; intro z7 m7 ho hb2 hs2; have Op7 := hide ho; have Yp7 : Hid (Below BB W4 m7) := hide (Yp6.out.trans hb2); have Xp7 : Hid (Ext w m7) := hide (XW4.out.below HB0.out Yp7.out); have Rp7 := hide (hs2 hb _ _ (by decide) Rp6.out); have Qp7 := hide (hs2 hq _ _ (by decide) Qp6.out); clear ho hb2 hs2)
  clear Rp6 Qp6 Op6 
  clear c0 c1 c2 c3 c4 c5 c6 c7 c8 c9 q0 q1 q2 q3 q4
  have c0 := Rp7.out.cell (i := 0) rfl
  have c1 := Rp7.out.cell (i := 1) rfl
  have c2 := Rp7.out.cell (i := 2) rfl
  have c3 := Rp7.out.cell (i := 3) rfl
  have c4 := Rp7.out.cell (i := 4) rfl
  have c5 := Rp7.out.cell (i := 5) rfl
  have c6 := Rp7.out.cell (i := 6) rfl
  have c7 := Rp7.out.cell (i := 7) rfl
  have c8 := Rp7.out.cell (i := 8) rfl
  have c9 := Rp7.out.cell (i := 9) rfl
  have q0 := Qp7.out.cell (i := 0) rfl
  have q1 := Qp7.out.cell (i := 1) rfl
  have q2 := Qp7.out.cell (i := 2) rfl
  have q3 := Qp7.out.cell (i := 3) rfl
  have q4 := Qp7.out.cell (i := 4) rfl
  obtain ⟨l7, HEp7⟩ : ∃ l, Hid (l6 ++ af = l) := ⟨_, hide rfl⟩
  rw [HEp7.out] at Op7
  have HLp7 : Hid (l7.length ≤ 1047) := hide (by rw [← HEp7.out, List.length_append, HAN.out]; have := HLp6.out; omega)
  have HREC : Hid (recB 2 tx pv pg off nx bf af L op = l7) := hide (by
    rw [← HEp7.out, ← HEp6.out, ← HEp5.out, ← HEp4.out, ← HEp3.out, ← HEp2.out, ← HEp1.out, ← HEp0.out]
    simp [recB, hpv, hch, hnx, hck, HAN.out])
  obtain ⟨AZ, cz, hvz, hcz, hrz⟩ := Op7.out.bytes
  subst hvz
  obtain ⟨nz, HNZ⟩ : ∃ n, Hid (l7.length = n) := ⟨_, hide rfl⟩
  rw [HNZ.out] at Op7 ⊢
  have KS := hide (sumOf_any AZ l7 nz cz m7 hrz HNZ.out (by have := HNZ.out; have := HLp7.out; omega) (HT.out.ext Xp7.out))
  clear hcz hrz
  go_wp2_with (first
    | (go_at_call 21; (with_reducible refine KS.out.mono ?_); rintro e ws ⟨vs, rfl, hxs, hos⟩; obtain ⟨AS, cs, hvs, hcs, hrs⟩ := Own.bytes hos; subst hvs; have XS := hide hxs; have RS := hide hrs; clear hxs hrs hos hcs)
    | (refine wpList_catG rfl (.tmp 67) (.tmp 69) rfl BB (.slice AZ nz cz) l7 (sumB l7) AS _ cs rfl rfl rfl (Op7.out.ext XS.out) RS.out (Nat.le_trans (Nat.le_trans HBW.out Yp7.out.size) XS.out.size) (by rw [show (sumB l7).length = 4 from numN_length 4 _ (by decide)]; have := HLp7.out; omega) ?_; intro vf wf ho hb2 hs2))
  go_ret2
  refine ⟨vf, rfl, ?_, XW4.out.below HB0.out ((Yp7.out.trans (Below.mono XS.out (Nat.le_trans HBW.out Yp7.out.size))).trans hb2)⟩
  rw [fullB, HREC.out]
  exact own_mono ho HB0.out
end Go.Proofs.YthdahgekodcloaaDoor
namespace Go.Proofs.YthdahgekodcloaaDoor
open Go.RowKit

set_option maxRecDepth 20000 in
set_option maxHeartbeats 6400000 in
theorem encode_3 (tx pv pg off nx : Int) (A B D : Option Addr) (nb a na b' nd d : Nat) (op : Bool) (w : World) (bf af : List UInt8) (L : List (Int × Int)) (ht : Tab w) (hb0 : Rd w A bf) (ha0 : Rd w B af) (hr : RdD w D L) (hbn : bf.length = nb) (han : af.length = na) (hn : L.length = nd) (hnd : nd ≤ 140737488351232) (hna : na ≤ 140737488351232) (hnb : nb ≤ 140737488351232) (ho : -9223372036854775808 ≤ off) (ho2 : off < 9223372036854775808) (htx0 : 0 ≤ tx) (htx : tx < 18446744073709551616) (hpv0 : 0 ≤ pv) (hpv1 : pv < 18446744073709551616) (hnx0 : 0 ≤ nx) (hnx1 : nx < 18446744073709551616) (hdl : ∀ e ∈ L, 0 ≤ e.2 ∧ e.2 < 18446744073709551616) (hf : formN 3 pv pg off nx na nb nd L op = true) :
    Calls Tryd.prog 11 #[.agg #[.int .u8 3, .int .u64 tx, .int .u64 pv, .int .i64 pg, .int .i64 off, .slice A nb a, .slice B na b', .int .u64 nx, .slice D nd d, .bool op]] w (EncP w (fullB 3 tx pv pg off nx bf af L op)) := by
  have KF := hide (fun (W : World) (hW : Ext w W) => (show Calls Tryd.prog 9 #[.agg #[.int .u8 3, .int .u64 tx, .int .u64 pv, .int .i64 pg, .int .i64 off, .slice A nb a, .slice B na b', .int .u64 nx, .slice D nd d, .bool op]] W (RetB W true) from by have h := form_any 3 tx pv pg off nx A B D nb a na b' nd d op W L (hr.ext hW) hn hnd hna hnb ho ho2; rw [hf] at h; exact h))
  have KP := hide (fun (W : World) => (show Calls Tryd.prog 16 #[.int .u8 3] W (fun e w' => e = .returned (.tuple #[.agg #[.bool true, .bool true, .bool false, .bool true, .bool false], .bool true]) ∧ Ext W w') from partsOf_any 3 W))
  obtain ⟨hpg0, hpg1, hn1, hno, hoff0, hnbE⟩ : 0 ≤ pg ∧ pg < 4096 ∧ na ≤ 512 ∧ off ≤ 512 ∧ 0 ≤ off ∧ nb ≤ 512 := by
    simp [formN, hok, hpv, hch, hbf, hnx, hck, chgN, chkN, isPg] at hf
    omega
  have wpg : IntKind.u64.wrap pg = pg := by rw [IntKind.wrap_u64]; omega
  have woff : IntKind.u64.wrap off = off := by rw [IntKind.wrap_u64]; omega
  have wna : IntKind.u64.wrap (na : Int) = (na : Int) := by rw [IntKind.wrap_u64]; omega
  have HT := hide ht
  have HBF := hide hb0
  have HAF := hide ha0
  have HD := hide hr
  have HBN := hide hbn
  have HAN := hide han
  have HN := hide hn
  have HTX := hide (And.intro htx0 htx)
  have HPV := hide (And.intro hpv0 hpv1)
  have HNX := hide (And.intro hnx0 hnx1)
  clear ht hb0 ha0 hr hbn han hn htx0 htx hpv0 hpv1 hnx0 hnx1 hdl hf ho ho2
  go_enter Tryd.func11, Tryd.ntmps11
  go_upto_region 1 with fail
  obtain ⟨W1, hX1, hR1, hg⟩ : ∃ W1, Ext w W1 ∧ Rw W1 w.heap.size 26 [.int .u8 3, .int .u64 tx, .int .u64 pv, .int .i64 pg, .int .i64 off, .slice A nb a, .slice B na b', .int .u64 nx, .slice D nd d, .bool op] ∧ w.alloc (.cells #[.int .u8 3, .int .u64 tx, .int .u64 pv, .int .i64 pg, .int .i64 off, .slice A nb a, .slice B na b', .int .u64 nx, .slice D nd d, .bool op] 26) = W1 := ⟨_, Ext.alloc _ _, Rw.new _ _ _, rfl⟩
  rw [hg]
  obtain ⟨hb, HHB⟩ : ∃ hb, Hid (w.heap.size = hb) := ⟨_, hide rfl⟩
  rw [HHB.out] at hR1 ⊢
  have X1 := hide hX1
  have R1 := hide hR1
  have c0 := hR1.cell (i := 0) rfl
  have c1 := hR1.cell (i := 1) rfl
  have c2 := hR1.cell (i := 2) rfl
  have c3 := hR1.cell (i := 3) rfl
  have c4 := hR1.cell (i := 4) rfl
  have c5 := hR1.cell (i := 5) rfl
  have c6 := hR1.cell (i := 6) rfl
  have c7 := hR1.cell (i := 7) rfl
  have c8 := hR1.cell (i := 8) rfl
  have c9 := hR1.cell (i := 9) rfl
  clear hg hX1 hR1
  go_upto_region 3 with (go_at_call 9; (with_reducible refine (KF.out _ X1.out).mono ?_); rintro e w2 ⟨rfl, hx2⟩; have X2 := hide (X1.out.trans hx2); have R2 := hide (R1.out.ext hx2); clear hx2)
  clear c0 c1 c2 c3 c4 c5 c6 c7 c8 c9
  have c0 := R2.out.cell (i := 0) rfl
  go_upto_region 4 with (go_at_call 16; (with_reducible refine (KP.out _).mono ?_); rintro e w3 ⟨rfl, hx3⟩; have X3 := hide (X2.out.trans hx3); have R3 := hide (R2.out.ext hx3); clear hx3)
  clear c0
  obtain ⟨W4, hX4, hR4, hg⟩ : ∃ W4, Ext w3 W4 ∧ Rw W4 w3.heap.size 42 [.bool true, .bool true, .bool false, .bool true, .bool false] ∧ w3.alloc (.cells #[.bool true, .bool true, .bool false, .bool true, .bool false] 42) = W4 := ⟨_, Ext.alloc _ _, Rw.new _ _ _, rfl⟩
  rw [hg]
  obtain ⟨hq, HHQ⟩ : ∃ hq, Hid (w3.heap.size = hq) := ⟨_, hide rfl⟩
  rw [HHQ.out] at hR4 ⊢
  have R4 := hide (R3.out.ext hX4)
  have Q4 := hide hR4
  obtain ⟨BB, HBB⟩ : ∃ BB, Hid (W4.heap.size = BB) := ⟨_, hide rfl⟩
  have XW4 := hide (X3.out.trans hX4)
  have HB0 : Hid (w.heap.size ≤ BB) := hide (by rw [← HBB.out]; exact XW4.out.size)
  have Y4 : Hid (Below BB W4 W4) := hide (Below.refl _ _)
  have O4 : Hid (Own W4 BB (.slice none 0 0) []) := hide (Own.nil _ _)
  have HBW : Hid (BB ≤ W4.heap.size) := hide (by rw [HBB.out]; exact Nat.le_refl _)
  clear hg hX4 hR4 X1 X2 X3 R1 R2 R3 KF KP HHB HHQ
  have c0 := R4.out.cell (i := 0) rfl
  have c1 := R4.out.cell (i := 1) rfl
  have c2 := R4.out.cell (i := 2) rfl
  have c3 := R4.out.cell (i := 3) rfl
  have c4 := R4.out.cell (i := 4) rfl
  have c5 := R4.out.cell (i := 5) rfl
  have c6 := R4.out.cell (i := 6) rfl
  have c7 := R4.out.cell (i := 7) rfl
  have c8 := R4.out.cell (i := 8) rfl
  have c9 := R4.out.cell (i := 9) rfl
  have q0 := Q4.out.cell (i := 0) rfl
  have q1 := Q4.out.cell (i := 1) rfl
  have q2 := Q4.out.cell (i := 2) rfl
  have q3 := Q4.out.cell (i := 3) rfl
  have q4 := Q4.out.cell (i := 4) rfl
  have KA := hide (appendNumber_1 (.slice none 0 0) [] 3 BB W4 O4.out HBW.out (by omega) (by omega) (by simp))
  go_upto_region 5 with (go_at_call 19; (with_reducible refine KA.out.mono ?_); rintro e m0 ⟨z0, rfl, ho, hb2, hs2⟩; have Op0 := hide ho; have Yp0 : Hid (Below BB W4 m0) := hide (Y4.out.trans hb2); have Xp0 : Hid (Ext w m0) := hide (XW4.out.below HB0.out Yp0.out); have Rp0 := hide (hs2 hb _ _ (by decide) R4.out); have Qp0 := hide (hs2 hq _ _ (by decide) Q4.out); clear ho hb2 hs2)
  clear R4 Q4 O4 KA
  clear c0 c1 c2 c3 c4 c5 c6 c7 c8 c9 q0 q1 q2 q3 q4
  have c0 := Rp0.out.cell (i := 0) rfl
  have c1 := Rp0.out.cell (i := 1) rfl
  have c2 := Rp0.out.cell (i := 2) rfl
  have c3 := Rp0.out.cell (i := 3) rfl
  have c4 := Rp0.out.cell (i := 4) rfl
  have c5 := Rp0.out.cell (i := 5) rfl
  have c6 := Rp0.out.cell (i := 6) rfl
  have c7 := Rp0.out.cell (i := 7) rfl
  have c8 := Rp0.out.cell (i := 8) rfl
  have c9 := Rp0.out.cell (i := 9) rfl
  have q0 := Qp0.out.cell (i := 0) rfl
  have q1 := Qp0.out.cell (i := 1) rfl
  have q2 := Qp0.out.cell (i := 2) rfl
  have q3 := Qp0.out.cell (i := 3) rfl
  have q4 := Qp0.out.cell (i := 4) rfl
  obtain ⟨l0, HEp0⟩ : ∃ l, Hid ([] ++ numN 1 3 = l) := ⟨_, hide rfl⟩
  rw [HEp0.out] at Op0
  have HLp0 : Hid (l0.length ≤ 1) := hide (by rw [← HEp0.out, List.length_append, numN_length 1 _ (by decide)]; simp)
  have KA := hide (appendNumber_8 z0 l0 tx BB m0 Op0.out (Nat.le_trans HBW.out Yp0.out.size) HTX.out.1 HTX.out.2 (by have := HLp0.out; omega))
  go_upto_region 6 with (go_at_call 19; (with_reducible refine KA.out.mono ?_); rintro e m1 ⟨z1, rfl, ho, hb2, hs2⟩; have Op1 := hide ho; have Yp1 : Hid (Below BB W4 m1) := hide (Yp0.out.trans hb2); have Xp1 : Hid (Ext w m1) := hide (XW4.out.below HB0.out Yp1.out); have Rp1 := hide (hs2 hb _ _ (by decide) Rp0.out); have Qp1 := hide (hs2 hq _ _ (by decide) Qp0.out); clear ho hb2 hs2)
  clear Rp0 Qp0 Op0 KA
  clear c0 c1 c2 c3 c4 c5 c6 c7 c8 c9 q0 q1 q2 q3 q4
  have c0 := Rp1.out.cell (i := 0) rfl
  have c1 := Rp1.out.cell (i := 1) rfl
  have c2 := Rp1.out.cell (i := 2) rfl
  have c3 := Rp1.out.cell (i := 3) rfl
  have c4 := Rp1.out.cell (i := 4) rfl
  have c5 := Rp1.out.cell (i := 5) rfl
  have c6 := Rp1.out.cell (i := 6) rfl
  have c7 := Rp1.out.cell (i := 7) rfl
  have c8 := Rp1.out.cell (i := 8) rfl
  have c9 := Rp1.out.cell (i := 9) rfl
  have q0 := Qp1.out.cell (i := 0) rfl
  have q1 := Qp1.out.cell (i := 1) rfl
  have q2 := Qp1.out.cell (i := 2) rfl
  have q3 := Qp1.out.cell (i := 3) rfl
  have q4 := Qp1.out.cell (i := 4) rfl
  obtain ⟨l1, HEp1⟩ : ∃ l, Hid (l0 ++ numN 8 tx = l) := ⟨_, hide rfl⟩
  rw [HEp1.out] at Op1
  have HLp1 : Hid (l1.length ≤ 9) := hide (by rw [← HEp1.out, List.length_append, numN_length 8 _ (by decide)]; have := HLp0.out; omega)
  have KA := hide (appendNumber_8 z1 l1 pv BB m1 Op1.out (Nat.le_trans HBW.out Yp1.out.size) HPV.out.1 HPV.out.2 (by have := HLp1.out; omega))
  go_upto_region 8 with (go_at_call 19; (with_reducible refine KA.out.mono ?_); rintro e m2 ⟨z2, rfl, ho, hb2, hs2⟩; have Op2 := hide ho; have Yp2 : Hid (Below BB W4 m2) := hide (Yp1.out.trans hb2); have Xp2 : Hid (Ext w m2) := hide (XW4.out.below HB0.out Yp2.out); have Rp2 := hide (hs2 hb _ _ (by decide) Rp1.out); have Qp2 := hide (hs2 hq _ _ (by decide) Qp1.out); clear ho hb2 hs2)
  clear Rp1 Qp1 Op1 KA
  clear c0 c1 c2 c3 c4 c5 c6 c7 c8 c9 q0 q1 q2 q3 q4
  have c0 := Rp2.out.cell (i := 0) rfl
  have c1 := Rp2.out.cell (i := 1) rfl
  have c2 := Rp2.out.cell (i := 2) rfl
  have c3 := Rp2.out.cell (i := 3) rfl
  have c4 := Rp2.out.cell (i := 4) rfl
  have c5 := Rp2.out.cell (i := 5) rfl
  have c6 := Rp2.out.cell (i := 6) rfl
  have c7 := Rp2.out.cell (i := 7) rfl
  have c8 := Rp2.out.cell (i := 8) rfl
  have c9 := Rp2.out.cell (i := 9) rfl
  have q0 := Qp2.out.cell (i := 0) rfl
  have q1 := Qp2.out.cell (i := 1) rfl
  have q2 := Qp2.out.cell (i := 2) rfl
  have q3 := Qp2.out.cell (i := 3) rfl
  have q4 := Qp2.out.cell (i := 4) rfl
  obtain ⟨l2, HEp2⟩ : ∃ l, Hid (l1 ++ numN 8 pv = l) := ⟨_, hide rfl⟩
  rw [HEp2.out] at Op2
  have HLp2 : Hid (l2.length ≤ 17) := hide (by rw [← HEp2.out, List.length_append, numN_length 8 _ (by decide)]; have := HLp1.out; omega)
  have KA := hide (appendNumber_2 z2 l2 pg BB m2 Op2.out (Nat.le_trans HBW.out Yp2.out.size) (by omega) (by omega) (by have := HLp2.out; omega))
  go_upto_region 10 with (go_at_call 19; (with_reducible refine KA.out.mono ?_); rintro e m3 ⟨z3, rfl, ho, hb2, hs2⟩; have Op3 := hide ho; have Yp3 : Hid (Below BB W4 m3) := hide (Yp2.out.trans hb2); have Xp3 : Hid (Ext w m3) := hide (XW4.out.below HB0.out Yp3.out); have Rp3 := hide (hs2 hb _ _ (by decide) Rp2.out); have Qp3 := hide (hs2 hq _ _ (by decide) Qp2.out); clear ho hb2 hs2)
  clear Rp2 Qp2 Op2 KA
  clear c0 c1 c2 c3 c4 c5 c6 c7 c8 c9 q0 q1 q2 q3 q4
  have c0 := Rp3.out.cell (i := 0) rfl
  have c1 := Rp3.out.cell (i := 1) rfl
  have c2 := Rp3.out.cell (i := 2) rfl
  have c3 := Rp3.out.cell (i := 3) rfl
  have c4 := Rp3.out.cell (i := 4) rfl
  have c5 := Rp3.out.cell (i := 5) rfl
  have c6 := Rp3.out.cell (i := 6) rfl
  have c7 := Rp3.out.cell (i := 7) rfl
  have c8 := Rp3.out.cell (i := 8) rfl
  have c9 := Rp3.out.cell (i := 9) rfl
  have q0 := Qp3.out.cell (i := 0) rfl
  have q1 := Qp3.out.cell (i := 1) rfl
  have q2 := Qp3.out.cell (i := 2) rfl
  have q3 := Qp3.out.cell (i := 3) rfl
  have q4 := Qp3.out.cell (i := 4) rfl
  obtain ⟨l3, HEp3⟩ : ∃ l, Hid (l2 ++ numN 2 pg = l) := ⟨_, hide rfl⟩
  rw [HEp3.out] at Op3
  have HLp3 : Hid (l3.length ≤ 19) := hide (by rw [← HEp3.out, List.length_append, numN_length 2 _ (by decide)]; have := HLp2.out; omega)
  have KA := hide (appendNumber_2 z3 l3 off BB m3 Op3.out (Nat.le_trans HBW.out Yp3.out.size) (by omega) (by omega) (by have := HLp3.out; omega))
  go_upto_region 11 with (go_at_call 19; (with_reducible refine KA.out.mono ?_); rintro e m4 ⟨z4, rfl, ho, hb2, hs2⟩; have Op4 := hide ho; have Yp4 : Hid (Below BB W4 m4) := hide (Yp3.out.trans hb2); have Xp4 : Hid (Ext w m4) := hide (XW4.out.below HB0.out Yp4.out); have Rp4 := hide (hs2 hb _ _ (by decide) Rp3.out); have Qp4 := hide (hs2 hq _ _ (by decide) Qp3.out); clear ho hb2 hs2)
  clear Rp3 Qp3 Op3 KA
  clear c0 c1 c2 c3 c4 c5 c6 c7 c8 c9 q0 q1 q2 q3 q4
  have c0 := Rp4.out.cell (i := 0) rfl
  have c1 := Rp4.out.cell (i := 1) rfl
  have c2 := Rp4.out.cell (i := 2) rfl
  have c3 := Rp4.out.cell (i := 3) rfl
  have c4 := Rp4.out.cell (i := 4) rfl
  have c5 := Rp4.out.cell (i := 5) rfl
  have c6 := Rp4.out.cell (i := 6) rfl
  have c7 := Rp4.out.cell (i := 7) rfl
  have c8 := Rp4.out.cell (i := 8) rfl
  have c9 := Rp4.out.cell (i := 9) rfl
  have q0 := Qp4.out.cell (i := 0) rfl
  have q1 := Qp4.out.cell (i := 1) rfl
  have q2 := Qp4.out.cell (i := 2) rfl
  have q3 := Qp4.out.cell (i := 3) rfl
  have q4 := Qp4.out.cell (i := 4) rfl
  obtain ⟨l4, HEp4⟩ : ∃ l, Hid (l3 ++ numN 2 off = l) := ⟨_, hide rfl⟩
  rw [HEp4.out] at Op4
  have HLp4 : Hid (l4.length ≤ 21) := hide (by rw [← HEp4.out, List.length_append, numN_length 2 _ (by decide)]; have := HLp3.out; omega)
  have KA := hide (appendNumber_2 z4 l4 (na : Int) BB m4 Op4.out (Nat.le_trans HBW.out Yp4.out.size) (by omega) (by omega) (by have := HLp4.out; omega))
  go_upto_region 12 with (go_at_call 19; (with_reducible refine KA.out.mono ?_); rintro e m5 ⟨z5, rfl, ho, hb2, hs2⟩; have Op5 := hide ho; have Yp5 : Hid (Below BB W4 m5) := hide (Yp4.out.trans hb2); have Xp5 : Hid (Ext w m5) := hide (XW4.out.below HB0.out Yp5.out); have Rp5 := hide (hs2 hb _ _ (by decide) Rp4.out); have Qp5 := hide (hs2 hq _ _ (by decide) Qp4.out); clear ho hb2 hs2)
  clear Rp4 Qp4 Op4 KA
  clear c0 c1 c2 c3 c4 c5 c6 c7 c8 c9 q0 q1 q2 q3 q4
  have c0 := Rp5.out.cell (i := 0) rfl
  have c1 := Rp5.out.cell (i := 1) rfl
  have c2 := Rp5.out.cell (i := 2) rfl
  have c3 := Rp5.out.cell (i := 3) rfl
  have c4 := Rp5.out.cell (i := 4) rfl
  have c5 := Rp5.out.cell (i := 5) rfl
  have c6 := Rp5.out.cell (i := 6) rfl
  have c7 := Rp5.out.cell (i := 7) rfl
  have c8 := Rp5.out.cell (i := 8) rfl
  have c9 := Rp5.out.cell (i := 9) rfl
  have q0 := Qp5.out.cell (i := 0) rfl
  have q1 := Qp5.out.cell (i := 1) rfl
  have q2 := Qp5.out.cell (i := 2) rfl
  have q3 := Qp5.out.cell (i := 3) rfl
  have q4 := Qp5.out.cell (i := 4) rfl
  obtain ⟨l5, HEp5⟩ : ∃ l, Hid (l4 ++ numN 2 (na : Int) = l) := ⟨_, hide rfl⟩
  rw [HEp5.out] at Op5
  have HLp5 : Hid (l5.length ≤ 23) := hide (by rw [← HEp5.out, List.length_append, numN_length 2 _ (by decide)]; have := HLp4.out; omega)
  go_upto_region 13 with (refine wpList_catG rfl (.tmp 48) (.tmp 50) rfl BB z5 l5 bf A nb a rfl rfl HBN.out.symm Op5.out (HBF.out.ext Xp5.out) (Nat.le_trans HBW.out Yp5.out.size) (by rw [HBN.out]; have := HLp5.out; omega) ?_; intro z6 m6 ho hb2 hs2; have Op6 := hide ho; have Yp6 : Hid (Below BB W4 m6) := hide (Yp5.out.trans hb2); have Xp6 : Hid (Ext w m6) := hide (XW4.out.below HB0.out Yp6.out); have Rp6 := hide (hs2 hb _ _ (by decide) Rp5.out); have Qp6 := hide (hs2 hq _ _ (by decide) Qp5.out); clear ho hb2 hs2)
  clear Rp5 Qp5 Op5 
  clear c0 c1 c2 c3 c4 c5 c6 c7 c8 c9 q0 q1 q2 q3 q4
  have c0 := Rp6.out.cell (i := 0) rfl
  have c1 := Rp6.out.cell (i := 1) rfl
  have c2 := Rp6.out.cell (i := 2) rfl
  have c3 := Rp6.out.cell (i := 3) rfl
  have c4 := Rp6.out.cell (i := 4) rfl
  have c5 := Rp6.out.cell (i := 5) rfl
  have c6 := Rp6.out.cell (i := 6) rfl
  have c7 := Rp6.out.cell (i := 7) rfl
  have c8 := Rp6.out.cell (i := 8) rfl
  have c9 := Rp6.out.cell (i := 9) rfl
  have q0 := Qp6.out.cell (i := 0) rfl
  have q1 := Qp6.out.cell (i := 1) rfl
  have q2 := Qp6.out.cell (i := 2) rfl
  have q3 := Qp6.out.cell (i := 3) rfl
  have q4 := Qp6.out.cell (i := 4) rfl
  obtain ⟨l6, HEp6⟩ : ∃ l, Hid (l5 ++ bf = l) := ⟨_, hide rfl⟩
  rw [HEp6.out] at Op6
  have HLp6 : Hid (l6.length ≤ 535) := hide (by rw [← HEp6.out, List.length_append, HBN.out]; have := HLp5.out; omega)
  go_upto_region 14 with (refine wpList_catG rfl (.tmp 52) (.tmp 54) rfl BB z6 l6 af B na b' rfl rfl HAN.out.symm Op6.out (HAF.out.ext Xp6.out) (Nat.le_trans HBW.out Yp6.out.size) (by rw [HAN.out]; have := HLp6.out; omega) ?_; intro z7 m7 ho hb2 hs2; have Op7 := hide ho; have Yp7 : Hid (Below BB W4 m7) := hide (Yp6.out.trans hb2); have Xp7 : Hid (Ext w m7) := hide (XW4.out.below HB0.out Yp7.out); have Rp7 := hide (hs2 hb _ _ (by decide) Rp6.out); have Qp7 := hide (hs2 hq _ _ (by decide) Qp6.out); clear ho hb2 hs2)
  clear Rp6 Qp6 Op6 
  clear c0 c1 c2 c3 c4 c5 c6 c7 c8 c9 q0 q1 q2 q3 q4
  have c0 := Rp7.out.cell (i := 0) rfl
  have c1 := Rp7.out.cell (i := 1) rfl
  have c2 := Rp7.out.cell (i := 2) rfl
  have c3 := Rp7.out.cell (i := 3) rfl
  have c4 := Rp7.out.cell (i := 4) rfl
  have c5 := Rp7.out.cell (i := 5) rfl
  have c6 := Rp7.out.cell (i := 6) rfl
  have c7 := Rp7.out.cell (i := 7) rfl
  have c8 := Rp7.out.cell (i := 8) rfl
  have c9 := Rp7.out.cell (i := 9) rfl
  have q0 := Qp7.out.cell (i := 0) rfl
  have q1 := Qp7.out.cell (i := 1) rfl
  have q2 := Qp7.out.cell (i := 2) rfl
  have q3 := Qp7.out.cell (i := 3) rfl
  have q4 := Qp7.out.cell (i := 4) rfl
  obtain ⟨l7, HEp7⟩ : ∃ l, Hid (l6 ++ af = l) := ⟨_, hide rfl⟩
  rw [HEp7.out] at Op7
  have HLp7 : Hid (l7.length ≤ 1047) := hide (by rw [← HEp7.out, List.length_append, HAN.out]; have := HLp6.out; omega)
  have KA := hide (appendNumber_8 z7 l7 nx BB m7 Op7.out (Nat.le_trans HBW.out Yp7.out.size) HNX.out.1 HNX.out.2 (by have := HLp7.out; omega))
  go_upto_region 16 with (go_at_call 19; (with_reducible refine KA.out.mono ?_); rintro e m8 ⟨z8, rfl, ho, hb2, hs2⟩; have Op8 := hide ho; have Yp8 : Hid (Below BB W4 m8) := hide (Yp7.out.trans hb2); have Xp8 : Hid (Ext w m8) := hide (XW4.out.below HB0.out Yp8.out); have Rp8 := hide (hs2 hb _ _ (by decide) Rp7.out); have Qp8 := hide (hs2 hq _ _ (by decide) Qp7.out); clear ho hb2 hs2)
  clear Rp7 Qp7 Op7 KA
  clear c0 c1 c2 c3 c4 c5 c6 c7 c8 c9 q0 q1 q2 q3 q4
  have c0 := Rp8.out.cell (i := 0) rfl
  have c1 := Rp8.out.cell (i := 1) rfl
  have c2 := Rp8.out.cell (i := 2) rfl
  have c3 := Rp8.out.cell (i := 3) rfl
  have c4 := Rp8.out.cell (i := 4) rfl
  have c5 := Rp8.out.cell (i := 5) rfl
  have c6 := Rp8.out.cell (i := 6) rfl
  have c7 := Rp8.out.cell (i := 7) rfl
  have c8 := Rp8.out.cell (i := 8) rfl
  have c9 := Rp8.out.cell (i := 9) rfl
  have q0 := Qp8.out.cell (i := 0) rfl
  have q1 := Qp8.out.cell (i := 1) rfl
  have q2 := Qp8.out.cell (i := 2) rfl
  have q3 := Qp8.out.cell (i := 3) rfl
  have q4 := Qp8.out.cell (i := 4) rfl
  obtain ⟨l8, HEp8⟩ : ∃ l, Hid (l7 ++ numN 8 nx = l) := ⟨_, hide rfl⟩
  rw [HEp8.out] at Op8
  have HLp8 : Hid (l8.length ≤ 1055) := hide (by rw [← HEp8.out, List.length_append, numN_length 8 _ (by decide)]; have := HLp7.out; omega)
  have HREC : Hid (recB 3 tx pv pg off nx bf af L op = l8) := hide (by
    rw [← HEp8.out, ← HEp7.out, ← HEp6.out, ← HEp5.out, ← HEp4.out, ← HEp3.out, ← HEp2.out, ← HEp1.out, ← HEp0.out]
    simp [recB, hpv, hch, hnx, hck, HAN.out])
  obtain ⟨AZ, cz, hvz, hcz, hrz⟩ := Op8.out.bytes
  subst hvz
  obtain ⟨nz, HNZ⟩ : ∃ n, Hid (l8.length = n) := ⟨_, hide rfl⟩
  rw [HNZ.out] at Op8 ⊢
  have KS := hide (sumOf_any AZ l8 nz cz m8 hrz HNZ.out (by have := HNZ.out; have := HLp8.out; omega) (HT.out.ext Xp8.out))
  clear hcz hrz
  go_wp2_with (first
    | (go_at_call 21; (with_reducible refine KS.out.mono ?_); rintro e ws ⟨vs, rfl, hxs, hos⟩; obtain ⟨AS, cs, hvs, hcs, hrs⟩ := Own.bytes hos; subst hvs; have XS := hide hxs; have RS := hide hrs; clear hxs hrs hos hcs)
    | (refine wpList_catG rfl (.tmp 67) (.tmp 69) rfl BB (.slice AZ nz cz) l8 (sumB l8) AS _ cs rfl rfl rfl (Op8.out.ext XS.out) RS.out (Nat.le_trans (Nat.le_trans HBW.out Yp8.out.size) XS.out.size) (by rw [show (sumB l8).length = 4 from numN_length 4 _ (by decide)]; have := HLp8.out; omega) ?_; intro vf wf ho hb2 hs2))
  go_ret2
  refine ⟨vf, rfl, ?_, XW4.out.below HB0.out ((Yp8.out.trans (Below.mono XS.out (Nat.le_trans HBW.out Yp8.out.size))).trans hb2)⟩
  rw [fullB, HREC.out]
  exact own_mono ho HB0.out
end Go.Proofs.YthdahgekodcloaaDoor
