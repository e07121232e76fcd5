/-
  Values of many cells read within a region that draws its order.
  The walk of CodecStands.
-/
import Derived.Deep.CutRange
import Derived.RegionTactic
import Derived.Deep.RegionLaw
import Derived.Test.YtakmifnageepbaaDoorPkCardCdStands1
import Derived.Test.YtakmifnageepbaaDoorPkCardCdStands2
set_option linter.unusedVariables false
set_option linter.unusedSimpArgs false

namespace Go.Proofs.YtakmifnageepbaaDoor
open Go.RowKit

theorem run_loadVar_at {P : Program} (w : World) (g off : Nat) (ty : TypeId) (vs : List Value) (n : Nat) (ha : (isAgg ty).run P w = .ok true w) (hi : (P.info? ty).map (·.size) = some n) (hn : n = vs.length)
    (hc : ∀ j v, vs[j]? = some v → w.cell? ⟨g, off + j, none⟩ = some v) : (loadVar ty ⟨g, off, none⟩).run P w = .ok (.agg vs.toArray) w := by
  have hl : (loadCells ⟨g, off, none⟩ vs.length).run P w = .ok vs.toArray w :=
    run_loadCells_list (P := P) w ⟨g, off, none⟩ vs (fun j v hv => by rw [add_flat]; exact hc j v hv)
  cases hq : P.info? ty with
  | none => simp [hq] at hi
  | some i =>
    have hs : i.size = vs.length := by simp [hq] at hi; omega
    simp [loadVar, Sem.run_bind, ha, sizeOf, typeInfo, hq, hs, hl]
theorem agg_struct {P : Program} {ty : Nat} {fs : Array Field} (hu : P.underlying ty = some (.struct fs)) (w : World) : (isAgg ty).run P w = .ok true w := by
  unfold isAgg
  rw [Sem.run_bind, run_underlying hu w]
  simp
theorem gives_load_at {P : Program} {o : Oper} {a : Act} {w : World} {R : Value → World → Prop} (ty : TypeId) (x : Operand) (ho : o.op = .load ty x) (g off : Nat) (hx : a.eval x = .pointer (some ⟨g, off, none⟩)) (vs : List Value) (n : Nat) (ha : (isAgg ty).run P w = .ok true w) (hi : (P.info? ty).map (·.size) = some n) (hn : n = vs.length)
    (hc : ∀ j v, vs[j]? = some v → w.cell? ⟨g, off + j, none⟩ = some v) (hR : R (.agg vs.toArray) w) : gives P o a w R := by
  unfold gives execOp
  simp only [ho, hx, Instr.loadAt, Instr.sureAddr, Sem.run_bind, Sem.run_pure, Result.andThen_ok, run_loadVar_at w g off ty vs n ha hi hn hc]
  exact hR
end Go.Proofs.YtakmifnageepbaaDoor
namespace Go.Proofs.YtakmifnageepbaaDoor
open Go.RowKit

theorem step_givesW {P : Program} {ops : Array Oper} {o : Oper} {a : Act} {w w' : World} {x : Value} {K : Act → World → Prop} {Q : Exit → Act → World → Prop} {E : Prop} (hgd : Region.wanted o (yielded ops a.tmps) = true) (h : gives P o a w fun v w2 => v = x ∧ w2 = w') (hK : K (a.put o.dst x) w') :
    if Region.wanted o (yielded ops a.tmps) = true then o.wp P a w K Q else E := by
  rw [if_pos hgd]
  exact wp_of_gives h fun v w2 ⟨hv, hw⟩ => by subst hv hw; exact hK
theorem str_of {w : World} {A : Option Addr} {l : List UInt8} {n c : Nat} (h : Bytes l w (.slice A n c)) : (convert 27 9 (.slice A n c)).run Tryd.prog w = .ok (.string ⟨l.toArray⟩) w := by
  obtain ⟨A', c', hv, _, hr⟩ := h
  injection hv with h1 h2 h3
  subst h1 h2 h3
  exact Rd.str (P := Tryd.prog) (w := w) hr 27 9 5 c Tryd.underlying27 Tryd.underlying5 Tryd.underlying9
set_option maxRecDepth 20000 in
set_option maxHeartbeats 3200000 in
theorem stands_no_a (k n : Int) (s : ByteArray) (k' n' : Int) (s' : ByteArray) (X Y : Option Addr) (c d : Nat) (x y : List UInt8) (w : World) (ia : VlIn (k, n, s)) (ib : VlIn (k', n', s')) (hX : Rd w X x) (hY : Rd w Y y) (hxl : x.length ≤ 140737488351232) (hyl : y.length ≤ 140737488351232) (hT : Tabs w) (hva : vOk (k, n, s) = false) :
    Calls Tryd.prog 7 #[.agg #[.int .u8 k, .int .i64 n, .string s], .agg #[.int .u8 k', .int .i64 n', .string s'], .slice X x.length c, .slice Y y.length d] w (RetB w true) := by
  have KA := hide (fun (W : World) (hW : Ext w W) => awake_any W (hT.ext hW))
  have KFA := hide (fun (W : World) (hW : Ext w W) => rform_any (k, n, s) W ia (hT.ext hW))
  have KFB := hide (fun (W : World) (hW : Ext w W) => rform_any (k', n', s') W ib (hT.ext hW))
  obtain ⟨W2, hX2, hA2, hB2, hgg⟩ : ∃ W2, Ext w W2 ∧ Rw W2 w.heap.size 26 [.int .u8 k, .int .i64 n, .string s] ∧ Rw W2 (w.heap.size + 1) 26 [.int .u8 k', .int .i64 n', .string s'] ∧ (w.alloc (.cells #[.int .u8 k, .int .i64 n, .string s] 26)).alloc (.cells #[.int .u8 k', .int .i64 n', .string s'] 26) = W2 := ⟨_, (Ext.alloc _ _).trans (Ext.alloc _ _), (Rw.new w 26 [.int .u8 k, .int .i64 n, .string s]).ext (Ext.alloc _ _), (by have h := Rw.new (w.alloc (.cells #[.int .u8 k, .int .i64 n, .string s] 26)) 26 [.int .u8 k', .int .i64 n', .string s']; rwa [show (w.alloc (.cells #[.int .u8 k, .int .i64 n, .string s] 26)).heap.size = w.heap.size + 1 by simp] at h), rfl⟩
  have X2 := hide hX2
  have A2 := hide hA2
  have B2 := hide hB2
  clear hX2 hA2 hB2
  rw [hva] at KFA
  clear hX hY hT ia ib
  go_enter Tryd.func7, Tryd.ntmps7
  go_upto_region 1 with fail
  clear hgg
  have a0 := A2.out.cell (i := 0) rfl
  have a1 := A2.out.cell (i := 1) rfl
  have a2 := A2.out.cell (i := 2) rfl
  have b0 := B2.out.cell (i := 0) rfl
  have b1 := B2.out.cell (i := 1) rfl
  have b2 := B2.out.cell (i := 2) rfl
  go_upto_region 2 with (first
    | (go_at_call 11; (with_reducible refine (KA.out _ X2.out).mono ?_); rintro e w3 ⟨rfl, hx3⟩; have X3 := hide (X2.out.trans hx3); have A3 := A2.out.ext hx3; have e0 := A3.cell (i := 0) rfl; have e1 := A3.cell (i := 1) rfl; have e2 := A3.cell (i := 2) rfl; have B3 := B2.out.ext hx3)
    | (go_at_call 13; (with_reducible refine (KFA.out _ X3.out).mono ?_); rintro e w4 ⟨rfl, hx4⟩; have X4 := hide (X3.out.trans hx4); have A4 := A3.ext hx4; have B4 := B3.ext hx4; have f0 := B4.cell (i := 0) rfl; have f1 := B4.cell (i := 1) rfl; have f2 := B4.cell (i := 2) rfl))
  go_wp2_with (go_at_call 11; (with_reducible refine (KA.out _ X4.out).mono ?_); rintro e w9 ⟨rfl, hx9⟩; have X9 := hide (X4.out.trans hx9))
  go_ret
  exact ⟨rfl, X9.out⟩
set_option maxRecDepth 20000 in
set_option maxHeartbeats 3200000 in
theorem stands_no_b (k n : Int) (s : ByteArray) (k' n' : Int) (s' : ByteArray) (X Y : Option Addr) (c d : Nat) (x y : List UInt8) (w : World) (ia : VlIn (k, n, s)) (ib : VlIn (k', n', s')) (hX : Rd w X x) (hY : Rd w Y y) (hxl : x.length ≤ 140737488351232) (hyl : y.length ≤ 140737488351232) (hT : Tabs w) (hva : vOk (k, n, s) = true) (hvb : vOk (k', n', s') = false) :
    Calls Tryd.prog 7 #[.agg #[.int .u8 k, .int .i64 n, .string s], .agg #[.int .u8 k', .int .i64 n', .string s'], .slice X x.length c, .slice Y y.length d] w (RetB w true) := by
  have KA := hide (fun (W : World) (hW : Ext w W) => awake_any W (hT.ext hW))
  have KFA := hide (fun (W : World) (hW : Ext w W) => rform_any (k, n, s) W ia (hT.ext hW))
  have KFB := hide (fun (W : World) (hW : Ext w W) => rform_any (k', n', s') W ib (hT.ext hW))
  obtain ⟨W2, hX2, hA2, hB2, hgg⟩ : ∃ W2, Ext w W2 ∧ Rw W2 w.heap.size 26 [.int .u8 k, .int .i64 n, .string s] ∧ Rw W2 (w.heap.size + 1) 26 [.int .u8 k', .int .i64 n', .string s'] ∧ (w.alloc (.cells #[.int .u8 k, .int .i64 n, .string s] 26)).alloc (.cells #[.int .u8 k', .int .i64 n', .string s'] 26) = W2 := ⟨_, (Ext.alloc _ _).trans (Ext.alloc _ _), (Rw.new w 26 [.int .u8 k, .int .i64 n, .string s]).ext (Ext.alloc _ _), (by have h := Rw.new (w.alloc (.cells #[.int .u8 k, .int .i64 n, .string s] 26)) 26 [.int .u8 k', .int .i64 n', .string s']; rwa [show (w.alloc (.cells #[.int .u8 k, .int .i64 n, .string s] 26)).heap.size = w.heap.size + 1 by simp] at h), rfl⟩
  have X2 := hide hX2
  have A2 := hide hA2
  have B2 := hide hB2
  clear hX2 hA2 hB2
  rw [hva] at KFA
  rw [hvb] at KFB
  clear hX hY hT ia ib
  go_enter Tryd.func7, Tryd.ntmps7
  go_upto_region 1 with fail
  clear hgg
  have a0 := A2.out.cell (i := 0) rfl
  have a1 := A2.out.cell (i := 1) rfl
  have a2 := A2.out.cell (i := 2) rfl
  have b0 := B2.out.cell (i := 0) rfl
  have b1 := B2.out.cell (i := 1) rfl
  have b2 := B2.out.cell (i := 2) rfl
  go_upto_region 2 with (first
    | (go_at_call 11; (with_reducible refine (KA.out _ X2.out).mono ?_); rintro e w3 ⟨rfl, hx3⟩; have X3 := hide (X2.out.trans hx3); have A3 := A2.out.ext hx3; have e0 := A3.cell (i := 0) rfl; have e1 := A3.cell (i := 1) rfl; have e2 := A3.cell (i := 2) rfl; have B3 := B2.out.ext hx3)
    | (go_at_call 13; (with_reducible refine (KFA.out _ X3.out).mono ?_); rintro e w4 ⟨rfl, hx4⟩; have X4 := hide (X3.out.trans hx4); have A4 := A3.ext hx4; have B4 := B3.ext hx4; have f0 := B4.cell (i := 0) rfl; have f1 := B4.cell (i := 1) rfl; have f2 := B4.cell (i := 2) rfl)
    | (go_at_call 13; (with_reducible refine (KFB.out _ X4.out).mono ?_); rintro e w5 ⟨rfl, hx5⟩; have X5 := hide (X4.out.trans hx5); have A5 := A4.ext hx5; have B5 := B4.ext hx5; have g0 := A5.cell (i := 0) rfl; have g1 := A5.cell (i := 1) rfl; have g2 := A5.cell (i := 2) rfl; have h0 := B5.cell (i := 0) rfl; have h1 := B5.cell (i := 1) rfl; have h2 := B5.cell (i := 2) rfl))
  go_wp2_with (go_at_call 11; (with_reducible refine (KA.out _ X5.out).mono ?_); rintro e w9 ⟨rfl, hx9⟩; have X9 := hide (X5.out.trans hx9))
  go_ret
  exact ⟨rfl, X9.out⟩
set_option maxRecDepth 20000 in
set_option maxHeartbeats 3200000 in
theorem stands_same (k n : Int) (s : ByteArray)  (X Y : Option Addr) (c d : Nat) (x y : List UInt8) (w : World) (ia : VlIn (k, n, s)) (ib : VlIn (k, n, s)) (hX : Rd w X x) (hY : Rd w Y y) (hxl : x.length ≤ 140737488351232) (hyl : y.length ≤ 140737488351232) (hT : Tabs w) (hva : vOk (k, n, s) = true) :
    Calls Tryd.prog 7 #[.agg #[.int .u8 k, .int .i64 n, .string s], .agg #[.int .u8 k, .int .i64 n, .string s], .slice X x.length c, .slice Y y.length d] w (RetB w true) := by
  have KA := hide (fun (W : World) (hW : Ext w W) => awake_any W (hT.ext hW))
  have KFA := hide (fun (W : World) (hW : Ext w W) => rform_any (k, n, s) W ia (hT.ext hW))
  have KFB := hide (fun (W : World) (hW : Ext w W) => rform_any (k, n, s) W ib (hT.ext hW))
  obtain ⟨W2, hX2, hA2, hB2, hgg⟩ : ∃ W2, Ext w W2 ∧ Rw W2 w.heap.size 26 [.int .u8 k, .int .i64 n, .string s] ∧ Rw W2 (w.heap.size + 1) 26 [.int .u8 k, .int .i64 n, .string s] ∧ (w.alloc (.cells #[.int .u8 k, .int .i64 n, .string s] 26)).alloc (.cells #[.int .u8 k, .int .i64 n, .string s] 26) = W2 := ⟨_, (Ext.alloc _ _).trans (Ext.alloc _ _), (Rw.new w 26 [.int .u8 k, .int .i64 n, .string s]).ext (Ext.alloc _ _), (by have h := Rw.new (w.alloc (.cells #[.int .u8 k, .int .i64 n, .string s] 26)) 26 [.int .u8 k, .int .i64 n, .string s]; rwa [show (w.alloc (.cells #[.int .u8 k, .int .i64 n, .string s] 26)).heap.size = w.heap.size + 1 by simp] at h), rfl⟩
  have X2 := hide hX2
  have A2 := hide hA2
  have B2 := hide hB2
  clear hX2 hA2 hB2
  rw [hva] at KFA KFB
  clear hX hY hT ia ib
  go_enter Tryd.func7, Tryd.ntmps7
  go_upto_region 1 with fail
  clear hgg
  have a0 := A2.out.cell (i := 0) rfl
  have a1 := A2.out.cell (i := 1) rfl
  have a2 := A2.out.cell (i := 2) rfl
  have b0 := B2.out.cell (i := 0) rfl
  have b1 := B2.out.cell (i := 1) rfl
  have b2 := B2.out.cell (i := 2) rfl
  go_upto_region 2 with (first
    | (go_at_call 11; (with_reducible refine (KA.out _ X2.out).mono ?_); rintro e w3 ⟨rfl, hx3⟩; have X3 := hide (X2.out.trans hx3); have A3 := A2.out.ext hx3; have e0 := A3.cell (i := 0) rfl; have e1 := A3.cell (i := 1) rfl; have e2 := A3.cell (i := 2) rfl; have B3 := B2.out.ext hx3)
    | (go_at_call 13; (with_reducible refine (KFA.out _ X3.out).mono ?_); rintro e w4 ⟨rfl, hx4⟩; have X4 := hide (X3.out.trans hx4); have A4 := A3.ext hx4; have B4 := B3.ext hx4; have f0 := B4.cell (i := 0) rfl; have f1 := B4.cell (i := 1) rfl; have f2 := B4.cell (i := 2) rfl)
    | (go_at_call 13; (with_reducible refine (KFB.out _ X4.out).mono ?_); rintro e w5 ⟨rfl, hx5⟩; have X5 := hide (X4.out.trans hx5); have A5 := A4.ext hx5; have B5 := B4.ext hx5; have g0 := A5.cell (i := 0) rfl; have g1 := A5.cell (i := 1) rfl; have g2 := A5.cell (i := 2) rfl; have h0 := B5.cell (i := 0) rfl; have h1 := B5.cell (i := 1) rfl; have h2 := B5.cell (i := 2) rfl))
  go_wp2_with (go_at_call 11; (with_reducible refine (KA.out _ X5.out).mono ?_); rintro e w9 ⟨rfl, hx9⟩; have X9 := hide (X5.out.trans hx9))
  go_ret
  exact ⟨rfl, X9.out⟩
set_option maxRecDepth 20000 in
set_option maxHeartbeats 3200000 in
theorem stands_k (k n : Int) (s : ByteArray) (k' n' : Int) (s' : ByteArray) (X Y : Option Addr) (c d : Nat) (x y : List UInt8) (w : World) (ia : VlIn (k, n, s)) (ib : VlIn (k', n', s')) (hX : Rd w X x) (hY : Rd w Y y) (hxl : x.length ≤ 140737488351232) (hyl : y.length ≤ 140737488351232) (hT : Tabs w) (hva : vOk (k, n, s) = true) (hvb : vOk (k', n', s') = true) (hk : k ≠ k') :
    Calls Tryd.prog 7 #[.agg #[.int .u8 k, .int .i64 n, .string s], .agg #[.int .u8 k', .int .i64 n', .string s'], .slice X x.length c, .slice Y y.length d] w (RetB w true) := by
  have KA := hide (fun (W : World) (hW : Ext w W) => awake_any W (hT.ext hW))
  have KFA := hide (fun (W : World) (hW : Ext w W) => rform_any (k, n, s) W ia (hT.ext hW))
  have KFB := hide (fun (W : World) (hW : Ext w W) => rform_any (k', n', s') W ib (hT.ext hW))
  obtain ⟨W2, hX2, hA2, hB2, hgg⟩ : ∃ W2, Ext w W2 ∧ Rw W2 w.heap.size 26 [.int .u8 k, .int .i64 n, .string s] ∧ Rw W2 (w.heap.size + 1) 26 [.int .u8 k', .int .i64 n', .string s'] ∧ (w.alloc (.cells #[.int .u8 k, .int .i64 n, .string s] 26)).alloc (.cells #[.int .u8 k', .int .i64 n', .string s'] 26) = W2 := ⟨_, (Ext.alloc _ _).trans (Ext.alloc _ _), (Rw.new w 26 [.int .u8 k, .int .i64 n, .string s]).ext (Ext.alloc _ _), (by have h := Rw.new (w.alloc (.cells #[.int .u8 k, .int .i64 n, .string s] 26)) 26 [.int .u8 k', .int .i64 n', .string s']; rwa [show (w.alloc (.cells #[.int .u8 k, .int .i64 n, .string s] 26)).heap.size = w.heap.size + 1 by simp] at h), rfl⟩
  have X2 := hide hX2
  have A2 := hide hA2
  have B2 := hide hB2
  clear hX2 hA2 hB2
  have hkb : (k == k') = false := by simpa using hk
  obtain ⟨p, HP⟩ : ∃ p, Hid (keyV (k, n, s) = p) := ⟨_, hide rfl⟩
  obtain ⟨q, HQ⟩ : ∃ q, Hid (keyV (k', n', s') = q) := ⟨_, hide rfl⟩
  obtain ⟨_, _, _, hpl, _⟩ := meant_key (k, n, s) ia hva
  obtain ⟨_, _, _, hql, _⟩ := meant_key (k', n', s') ib hvb
  rw [HP.out] at hpl
  rw [HQ.out] at hql
  obtain ⟨lb, HLB⟩ : ∃ u, Hid (lessV (k, n, s) (k', n', s') = u) := ⟨_, hide rfl⟩
  have HORD := hide (key_order (k, n, s) (k', n', s') x y hva hvb ia ib (fun e => hk (congrArg Prod.fst e)))
  rw [HP.out, HQ.out, HLB.out] at HORD
  have k'A := hide (fun (W : World) (hW : Ext w W) => key_yes (k, n, s) W ia (hT.ext hW) hva)
  have k'B := hide (fun (W : World) (hW : Ext w W) => key_yes (k', n', s') W ib (hT.ext hW) hvb)
  have KL := hide (fun (W : World) => less_any (k, n, s) (k', n', s') W)
  rw [HP.out] at k'A
  rw [HQ.out] at k'B
  rw [HLB.out] at KL
  rw [hva] at KFA
  rw [hvb] at KFB
  clear hT ia ib hva hvb
  go_enter Tryd.func7, Tryd.ntmps7
  go_upto_region 1 with fail
  clear hgg
  have a0 := A2.out.cell (i := 0) rfl
  have a1 := A2.out.cell (i := 1) rfl
  have a2 := A2.out.cell (i := 2) rfl
  have b0 := B2.out.cell (i := 0) rfl
  have b1 := B2.out.cell (i := 1) rfl
  have b2 := B2.out.cell (i := 2) rfl
  go_upto_region 3 with (first
    | (go_at_call 11; (with_reducible refine (KA.out _ X2.out).mono ?_); rintro e w3 ⟨rfl, hx3⟩; have X3 := hide (X2.out.trans hx3); have A3 := A2.out.ext hx3; have e0 := A3.cell (i := 0) rfl; have e1 := A3.cell (i := 1) rfl; have e2 := A3.cell (i := 2) rfl; have B3 := B2.out.ext hx3)
    | (go_at_call 13; (with_reducible refine (KFA.out _ X3.out).mono ?_); rintro e w4 ⟨rfl, hx4⟩; have X4 := hide (X3.out.trans hx4); have A4 := A3.ext hx4; have B4 := B3.ext hx4; have f0 := B4.cell (i := 0) rfl; have f1 := B4.cell (i := 1) rfl; have f2 := B4.cell (i := 2) rfl)
    | (go_at_call 13; (with_reducible refine (KFB.out _ X4.out).mono ?_); rintro e w5 ⟨rfl, hx5⟩; have X5 := hide (X4.out.trans hx5); have A5 := A4.ext hx5; have B5 := B4.ext hx5; have g0 := A5.cell (i := 0) rfl; have g1 := A5.cell (i := 1) rfl; have g2 := A5.cell (i := 2) rfl; have h0 := B5.cell (i := 0) rfl; have h1 := B5.cell (i := 1) rfl; have h2 := B5.cell (i := 2) rfl))
  obtain ⟨W5, HW5⟩ : ∃ W, W = w5 := ⟨_, rfl⟩
  subst HW5
  have A5h := hide A5
  have B5h := hide B5
  clear A2 B2 A3 B3 A4 B4 A5 B5 hx3 hx4 hx5 a0 a1 a2 b0 b1 b2 e0 e1 e2 f0 f1 f2 h0 h1 h2 X2 X3 X4 KFA KFB KA
  go_upto_region 4 with (go_at_call 19; (with_reducible refine (k'A.out _ X5.out).mono ?_); rintro e w6 ⟨hx6, v6, rfl, A6, c6, rfl, hc6, hr6⟩; have X6 := hide (X5.out.trans hx6); have A6h := hide (A5h.out.ext hx6); have B6h := hide (B5h.out.ext hx6); have R6 := hide hr6; clear hx6 hr6)
  clear g0 g1 g2 A5h B5h
  have b0 := B6h.out.cell (i := 0) rfl
  have b1 := B6h.out.cell (i := 1) rfl
  have b2 := B6h.out.cell (i := 2) rfl
  go_upto_region 5 with (go_at_call 19; (with_reducible refine (k'B.out _ X6.out).mono ?_); rintro e w7 ⟨hx7, v7, rfl, A7, c7, rfl, hc7, hr7⟩; have X7 := hide (X6.out.trans hx7); have A7h := hide (A6h.out.ext hx7); have B7h := hide (B6h.out.ext hx7); have R6b := hide (R6.out.ext hx7); have R7 := hide hr7; clear hx7 hr7)
  clear b0 b1 b2 A6h B6h R6
  go_upto_region 10 with (first
    | (at_builtin; refine wpList_cat rfl (.tmp 43) (.tmp 44) rfl w7.heap.size _ _ p _ _ _ rfl rfl rfl (Own.nil _ _) R6b.out (Nat.le_refl _) (by simp; omega) ?_; intro v8 w8 ho8 hb8; rw [List.nil_append] at ho8; have Y8 : Ext w7 w8 := hb8; have R7b := R7.out.ext Y8; have A8h := A7h.out.ext Y8; have B8h := B7h.out.ext Y8)
    | (at_builtin; refine wpList_cat rfl (.tmp 46) (.tmp 47) rfl w7.heap.size _ _ x _ _ _ rfl rfl rfl ho8 (hX.ext (X7.out.trans Y8)) Y8.size (by omega) ?_; intro v9 w9 ho9 hb9; have Y9 : Ext w7 w9 := Below.trans Y8 hb9; have R9 := R7.out.ext Y9; have X9 := hide (X7.out.trans Y9); have A9h := hide (A7h.out.ext Y9); have B9h := hide (B7h.out.ext Y9); have P9 := hide ho9.bytes)
    | (at_builtin; refine wpList_cat rfl (.tmp 49) (.tmp 50) rfl w9.heap.size _ _ q _ _ _ rfl rfl rfl (Own.nil _ _) R9 (Nat.le_refl _) (by simp; omega) ?_; intro v10 w10 ho10 hb10; rw [List.nil_append] at ho10; have Y10 : Ext w9 w10 := hb10)
    | (at_builtin; refine wpList_cat rfl (.tmp 52) (.tmp 53) rfl w9.heap.size _ _ y _ _ _ rfl rfl rfl ho10 (hY.ext (X9.out.trans Y10)) Y10.size (by omega) ?_; intro v11 w11 ho11 hb11; have Y11 : Ext w9 w11 := Below.trans Y10 hb11; have X11 := hide (X9.out.trans Y11); have A11 := hide (A9h.out.ext Y11); have B11 := hide (B9h.out.ext Y11); have P11 := hide (P9.out.ext Y11); have Q11 := hide ho11.bytes))
  obtain ⟨pl, HPL⟩ : ∃ u, Hid (p ++ x = u) := ⟨_, hide rfl⟩
  obtain ⟨ql, HQL⟩ : ∃ u, Hid (q ++ y = u) := ⟨_, hide rfl⟩
  rw [HPL.out] at P11
  rw [HQL.out] at Q11
  rw [HPL.out, HQL.out] at HORD
  clear hX hY hpl hql A7h B7h R6b R7 ho8 hb8 Y8 R7b A8h B8h ho9 hb9 Y9 R9 A9h B9h P9 ho10 hb10 Y10 ho11 hb11 Y11 X5 X6 X7 X9 k'A k'B
  obtain ⟨AP, cp, hvp, hcp, hrp⟩ := P11.out
  obtain ⟨AQ, cq, hvq, hcq, hrq⟩ := Q11.out
  subst hvp hvq
  have RP := hide hrp
  have RQ := hide hrq
  clear hrp hrq P11 Q11
  have HOL : Hid ((lb == Op.bytesLess pl ql) = true) := hide (by have h := HORD.out; rw [h, beq_self_eq_true])
  clear HORD
  rename_i hK
  refine wp_region_sp X11.out.size [
      Sp.is (.int .i64 0),
      Sp.is (.bool true),
      Sp.is (.bool true),
      Sp.is (.int .i64 0),
      Sp.is (.bool true),
      Sp.is (.bool true),
      Sp.is (.bool true),
      Sp.is (.agg #[.int .u8 k, .int .i64 n, .string s]),
      Sp.is (.agg #[.int .u8 k', .int .i64 n', .string s']),
      Sp.is (.bool lb),
      Sp.bytes pl,
      Sp.is (.string ⟨(pl).toArray⟩),
      Sp.bytes ql,
      Sp.is (.string ⟨(ql).toArray⟩),
      Sp.is (.bool (Op.bytesLess (pl) (ql))),
      Sp.is (.bool true),
      Sp.is (.bool true),
      Sp.is (.bool true)] (by kernel_rfl) (by kernel_rfl) ?_ ?_
  · refine ⟨?_, ?_, ?_, ?_, ?_, ?_, ?_, ?_, ?_, ?_, ?_, ?_, ?_, ?_, ?_, ?_, ?_, ?_, trivial⟩
    · intro az wz hx hB hk H
      refine .inl ⟨wanted_none rfl, ?_⟩
      refine gives_move rfl ?_
      rw [(ev (show az.tmps[10]? = some (.int .i64 0) from hk 10 rfl))]
      exact ⟨Grw.refl _ _, rfl⟩
    · intro az wz hx hB hk H
      obtain ⟨v55, h55, s55⟩ := H 0 rfl _ rfl 55 rfl
      refine .inl ⟨wanted_none rfl, ?_⟩
      refine gives_eql_int (k := .i64) (0) (0) rfl ?_ ?_ ⟨Grw.refl _ _, congrArg Value.bool (by simp)⟩
      · rw [(ev h55)]
        exact s55
      · rfl
    · intro az wz hx hB hk H
      obtain ⟨v56, h56, s56⟩ := H 1 rfl _ rfl 56 rfl
      refine .inl ⟨wanted_none rfl, ?_⟩
      refine gives_move rfl ?_
      rw [(ev h56)]
      exact ⟨Grw.refl _ _, s56⟩
    · intro az wz hx hB hk H
      obtain ⟨v57, h57, s57⟩ := H 2 rfl _ rfl 57 rfl
      have g0 : az.tmps[57]? = some (.bool true) := by rw [h57]; exact congrArg some s57
      refine .inl ⟨wanted_yes _ rfl rfl rfl g0, ?_⟩
      refine gives_move rfl ?_
      rw [(ev (show az.tmps[12]? = some (.int .i64 0) from hk 12 rfl))]
      exact ⟨Grw.refl _ _, rfl⟩
    · intro az wz hx hB hk H
      obtain ⟨v57, h57, s57⟩ := H 2 rfl _ rfl 57 rfl
      obtain ⟨v58, h58, s58⟩ := H 3 rfl _ rfl 58 rfl
      have g0 : az.tmps[57]? = some (.bool true) := by rw [h57]; exact congrArg some s57
      refine .inl ⟨wanted_yes _ rfl rfl rfl g0, ?_⟩
      refine gives_eql_int (k := .i64) (0) (0) rfl ?_ ?_ ⟨Grw.refl _ _, congrArg Value.bool (by simp)⟩
      · rw [(ev h58)]
        exact s58
      · rfl
    · intro az wz hx hB hk H
      obtain ⟨v57, h57, s57⟩ := H 2 rfl _ rfl 57 rfl
      obtain ⟨v59, h59, s59⟩ := H 4 rfl _ rfl 59 rfl
      refine .inl ⟨wanted_none rfl, ?_⟩
      refine gives_pick true rfl ?_ ?_
      · rw [(ev h57)]
        exact s57
      · show Grw _ _ _ ∧ _
        rw [if_pos rfl, (ev h59)]
        exact ⟨Grw.refl _ _, s59⟩
    · intro az wz hx hB hk H
      obtain ⟨v60, h60, s60⟩ := H 5 rfl _ rfl 60 rfl
      refine .inl ⟨wanted_none rfl, ?_⟩
      refine gives_move rfl ?_
      rw [(ev h60)]
      exact ⟨Grw.refl _ _, s60⟩
    · intro az wz hx hB hk H
      obtain ⟨v61, h61, s61⟩ := H 6 rfl _ rfl 61 rfl
      have g0 : az.tmps[61]? = some (.bool true) := by rw [h61]; exact congrArg some s61
      refine .inl ⟨wanted_yes _ rfl rfl rfl g0, ?_⟩
      refine gives_load_at 26 (.tmp 4) rfl (w.heap.size) 0 (by rw [(ev (show az.tmps[4]? = some (.pointer (some ⟨w.heap.size, 0, none⟩)) from hk 4 rfl))]) [.int .u8 k, .int .i64 n, .string s] 3 (agg_struct Tryd.underlying26 wz) (by kernel_rfl) rfl (fun j v hj => by rw [Nat.zero_add]; exact hx.keeps.cell (A11.out.cell hj)) ⟨Grw.refl _ _, rfl⟩
    · intro az wz hx hB hk H
      obtain ⟨v61, h61, s61⟩ := H 6 rfl _ rfl 61 rfl
      have g0 : az.tmps[61]? = some (.bool true) := by rw [h61]; exact congrArg some s61
      refine .inl ⟨wanted_yes _ rfl rfl rfl g0, ?_⟩
      refine gives_load_at 26 (.tmp 5) rfl (w.heap.size + 1) 0 (by rw [(ev (show az.tmps[5]? = some (.pointer (some ⟨w.heap.size + 1, 0, none⟩)) from hk 5 rfl))]) [.int .u8 k', .int .i64 n', .string s'] 3 (agg_struct Tryd.underlying26 wz) (by kernel_rfl) rfl (fun j v hj => by rw [Nat.zero_add]; exact hx.keeps.cell (B11.out.cell hj)) ⟨Grw.refl _ _, rfl⟩
    · intro az wz hx hB hk H
      obtain ⟨v61, h61, s61⟩ := H 6 rfl _ rfl 61 rfl
      obtain ⟨v62, h62, s62⟩ := H 7 rfl _ rfl 62 rfl
      obtain ⟨v63, h63, s63⟩ := H 8 rfl _ rfl 63 rfl
      have g0 : az.tmps[61]? = some (.bool true) := by rw [h61]; exact congrArg some s61
      refine .inl ⟨wanted_yes _ rfl rfl rfl g0, ?_⟩
      refine gives_call rfl Tryd.call23 (by simp only [List.map_toArray, List.map_cons, List.map_nil, ev h62, ev h63]; rw [s62, s63]) ?_
      exact (KL.out wz).mono fun e w' ⟨he, hx'⟩ => Ret.grw (⟨_, he, hx', rfl⟩ : Ret wz (Is (.bool lb)) e w') hB
    · intro az wz hx hB hk H
      obtain ⟨v61, h61, s61⟩ := H 6 rfl _ rfl 61 rfl
      have g0 : az.tmps[61]? = some (.bool true) := by rw [h61]; exact congrArg some s61
      refine .inl ⟨wanted_yes _ rfl rfl rfl g0, ?_⟩
      refine gives_move rfl ?_
      rw [(ev (show az.tmps[13]? = some (.slice AP pl.length cp) from hk 13 rfl))]
      exact ⟨Grw.refl _ _, ⟨AP, cp, rfl, hcp, RP.out.keep hx.keeps⟩⟩
    · intro az wz hx hB hk H
      obtain ⟨v61, h61, s61⟩ := H 6 rfl _ rfl 61 rfl
      obtain ⟨v65, h65, s65⟩ := H 10 rfl _ rfl 65 rfl
      have g0 : az.tmps[61]? = some (.bool true) := by rw [h61]; exact congrArg some s61
      refine .inl ⟨wanted_yes _ rfl rfl rfl g0, ?_⟩
      refine gives_str (pl) rfl Tryd.underlying27 Tryd.underlying5 Tryd.underlying9 ?_ ⟨Grw.refl _ _, rfl⟩
      rw [(ev h65)]
      exact s65
    · intro az wz hx hB hk H
      obtain ⟨v61, h61, s61⟩ := H 6 rfl _ rfl 61 rfl
      have g0 : az.tmps[61]? = some (.bool true) := by rw [h61]; exact congrArg some s61
      refine .inl ⟨wanted_yes _ rfl rfl rfl g0, ?_⟩
      refine gives_move rfl ?_
      rw [(ev (show az.tmps[14]? = some (.slice AQ ql.length cq) from hk 14 rfl))]
      exact ⟨Grw.refl _ _, ⟨AQ, cq, rfl, hcq, RQ.out.keep hx.keeps⟩⟩
    · intro az wz hx hB hk H
      obtain ⟨v61, h61, s61⟩ := H 6 rfl _ rfl 61 rfl
      obtain ⟨v67, h67, s67⟩ := H 12 rfl _ rfl 67 rfl
      have g0 : az.tmps[61]? = some (.bool true) := by rw [h61]; exact congrArg some s61
      refine .inl ⟨wanted_yes _ rfl rfl rfl g0, ?_⟩
      refine gives_str (ql) rfl Tryd.underlying27 Tryd.underlying5 Tryd.underlying9 ?_ ⟨Grw.refl _ _, rfl⟩
      rw [(ev h67)]
      exact s67
    · intro az wz hx hB hk H
      obtain ⟨v61, h61, s61⟩ := H 6 rfl _ rfl 61 rfl
      obtain ⟨v66, h66, s66⟩ := H 11 rfl _ rfl 66 rfl
      obtain ⟨v68, h68, s68⟩ := H 13 rfl _ rfl 68 rfl
      have g0 : az.tmps[61]? = some (.bool true) := by rw [h61]; exact congrArg some s61
      refine .inl ⟨wanted_yes _ rfl rfl rfl g0, ?_⟩
      refine gives_lss_str (pl) (ql) rfl ?_ ?_ ⟨Grw.refl _ _, rfl⟩
      · rw [(ev h66)]
        exact s66
      · rw [(ev h68)]
        exact s68
    · intro az wz hx hB hk H
      obtain ⟨v61, h61, s61⟩ := H 6 rfl _ rfl 61 rfl
      obtain ⟨v64, h64, s64⟩ := H 9 rfl _ rfl 64 rfl
      obtain ⟨v69, h69, s69⟩ := H 14 rfl _ rfl 69 rfl
      have g0 : az.tmps[61]? = some (.bool true) := by rw [h61]; exact congrArg some s61
      refine .inl ⟨wanted_yes _ rfl rfl rfl g0, ?_⟩
      refine gives_eql_bool (lb) ((Op.bytesLess (pl) (ql))) Tryd.underlying4 rfl ?_ ?_ ⟨Grw.refl _ _, congrArg Value.bool (HOL.out)⟩
      · rw [(ev h64)]
        exact s64
      · rw [(ev h69)]
        exact s69
    · intro az wz hx hB hk H
      obtain ⟨v61, h61, s61⟩ := H 6 rfl _ rfl 61 rfl
      obtain ⟨v70, h70, s70⟩ := H 15 rfl _ rfl 70 rfl
      refine .inl ⟨wanted_none rfl, ?_⟩
      refine gives_pick true rfl ?_ ?_
      · rw [(ev h61)]
        exact s61
      · show Grw _ _ _ ∧ _
        rw [if_pos rfl, (ev h70)]
        exact ⟨Grw.refl _ _, s70⟩
    · intro az wz hx hB hk H
      obtain ⟨v71, h71, s71⟩ := H 16 rfl _ rfl 71 rfl
      refine .inl ⟨wanted_none rfl, ?_⟩
      refine gives_assign rfl ?_
      rw [(ev h71)]
      exact ⟨Grw.refl _ _, s71⟩
  · intro az wz hx hd hs hv hsame
    obtain ⟨v, hv4, s4⟩ := hv 17 _ 8 rfl rfl
    obtain rfl : v = .bool true := s4
    refine hK _ _ ?_
    refine wp_ret ?_
    refine bodyPost_ret (results_tmp rfl _ _ _) hd ?_
    refine ⟨?_, X11.out.grw hx⟩
    simp [hv4]
set_option maxRecDepth 20000 in
set_option maxHeartbeats 3200000 in
theorem stands_n (k n : Int) (s : ByteArray) (n' : Int) (s' : ByteArray) (X Y : Option Addr) (c d : Nat) (x y : List UInt8) (w : World) (ia : VlIn (k, n, s)) (ib : VlIn (k, n', s')) (hX : Rd w X x) (hY : Rd w Y y) (hxl : x.length ≤ 140737488351232) (hyl : y.length ≤ 140737488351232) (hT : Tabs w) (hva : vOk (k, n, s) = true) (hvb : vOk (k, n', s') = true) (hn : n ≠ n') :
    Calls Tryd.prog 7 #[.agg #[.int .u8 k, .int .i64 n, .string s], .agg #[.int .u8 k, .int .i64 n', .string s'], .slice X x.length c, .slice Y y.length d] w (RetB w true) := by
  have KA := hide (fun (W : World) (hW : Ext w W) => awake_any W (hT.ext hW))
  have KFA := hide (fun (W : World) (hW : Ext w W) => rform_any (k, n, s) W ia (hT.ext hW))
  have KFB := hide (fun (W : World) (hW : Ext w W) => rform_any (k, n', s') W ib (hT.ext hW))
  obtain ⟨W2, hX2, hA2, hB2, hgg⟩ : ∃ W2, Ext w W2 ∧ Rw W2 w.heap.size 26 [.int .u8 k, .int .i64 n, .string s] ∧ Rw W2 (w.heap.size + 1) 26 [.int .u8 k, .int .i64 n', .string s'] ∧ (w.alloc (.cells #[.int .u8 k, .int .i64 n, .string s] 26)).alloc (.cells #[.int .u8 k, .int .i64 n', .string s'] 26) = W2 := ⟨_, (Ext.alloc _ _).trans (Ext.alloc _ _), (Rw.new w 26 [.int .u8 k, .int .i64 n, .string s]).ext (Ext.alloc _ _), (by have h := Rw.new (w.alloc (.cells #[.int .u8 k, .int .i64 n, .string s] 26)) 26 [.int .u8 k, .int .i64 n', .string s']; rwa [show (w.alloc (.cells #[.int .u8 k, .int .i64 n, .string s] 26)).heap.size = w.heap.size + 1 by simp] at h), rfl⟩
  have X2 := hide hX2
  have A2 := hide hA2
  have B2 := hide hB2
  clear hX2 hA2 hB2
  have hnb : (n == n') = false := by simpa using hn
  obtain ⟨p, HP⟩ : ∃ p, Hid (keyV (k, n, s) = p) := ⟨_, hide rfl⟩
  obtain ⟨q, HQ⟩ : ∃ q, Hid (keyV (k, n', s') = q) := ⟨_, hide rfl⟩
  obtain ⟨_, _, _, hpl, _⟩ := meant_key (k, n, s) ia hva
  obtain ⟨_, _, _, hql, _⟩ := meant_key (k, n', s') ib hvb
  rw [HP.out] at hpl
  rw [HQ.out] at hql
  obtain ⟨lb, HLB⟩ : ∃ u, Hid (lessV (k, n, s) (k, n', s') = u) := ⟨_, hide rfl⟩
  have HORD := hide (key_order (k, n, s) (k, n', s') x y hva hvb ia ib (fun e => hn (congrArg (fun z => z.2.1) e)))
  rw [HP.out, HQ.out, HLB.out] at HORD
  have kA := hide (fun (W : World) (hW : Ext w W) => key_yes (k, n, s) W ia (hT.ext hW) hva)
  have kB := hide (fun (W : World) (hW : Ext w W) => key_yes (k, n', s') W ib (hT.ext hW) hvb)
  have KL := hide (fun (W : World) => less_any (k, n, s) (k, n', s') W)
  rw [HP.out] at kA
  rw [HQ.out] at kB
  rw [HLB.out] at KL
  rw [hva] at KFA
  rw [hvb] at KFB
  clear hT ia ib hva hvb
  go_enter Tryd.func7, Tryd.ntmps7
  go_upto_region 1 with fail
  clear hgg
  have a0 := A2.out.cell (i := 0) rfl
  have a1 := A2.out.cell (i := 1) rfl
  have a2 := A2.out.cell (i := 2) rfl
  have b0 := B2.out.cell (i := 0) rfl
  have b1 := B2.out.cell (i := 1) rfl
  have b2 := B2.out.cell (i := 2) rfl
  go_upto_region 3 with (first
    | (go_at_call 11; (with_reducible refine (KA.out _ X2.out).mono ?_); rintro e w3 ⟨rfl, hx3⟩; have X3 := hide (X2.out.trans hx3); have A3 := A2.out.ext hx3; have e0 := A3.cell (i := 0) rfl; have e1 := A3.cell (i := 1) rfl; have e2 := A3.cell (i := 2) rfl; have B3 := B2.out.ext hx3)
    | (go_at_call 13; (with_reducible refine (KFA.out _ X3.out).mono ?_); rintro e w4 ⟨rfl, hx4⟩; have X4 := hide (X3.out.trans hx4); have A4 := A3.ext hx4; have B4 := B3.ext hx4; have f0 := B4.cell (i := 0) rfl; have f1 := B4.cell (i := 1) rfl; have f2 := B4.cell (i := 2) rfl)
    | (go_at_call 13; (with_reducible refine (KFB.out _ X4.out).mono ?_); rintro e w5 ⟨rfl, hx5⟩; have X5 := hide (X4.out.trans hx5); have A5 := A4.ext hx5; have B5 := B4.ext hx5; have g0 := A5.cell (i := 0) rfl; have g1 := A5.cell (i := 1) rfl; have g2 := A5.cell (i := 2) rfl; have h0 := B5.cell (i := 0) rfl; have h1 := B5.cell (i := 1) rfl; have h2 := B5.cell (i := 2) rfl))
  obtain ⟨W5, HW5⟩ : ∃ W, W = w5 := ⟨_, rfl⟩
  subst HW5
  have A5h := hide A5
  have B5h := hide B5
  clear A2 B2 A3 B3 A4 B4 A5 B5 hx3 hx4 hx5 a0 a1 a2 b0 b1 b2 e0 e1 e2 f0 f1 f2 h0 h1 h2 X2 X3 X4 KFA KFB KA
  go_upto_region 4 with (go_at_call 19; (with_reducible refine (kA.out _ X5.out).mono ?_); rintro e w6 ⟨hx6, v6, rfl, A6, c6, rfl, hc6, hr6⟩; have X6 := hide (X5.out.trans hx6); have A6h := hide (A5h.out.ext hx6); have B6h := hide (B5h.out.ext hx6); have R6 := hide hr6; clear hx6 hr6)
  clear g0 g1 g2 A5h B5h
  have b0 := B6h.out.cell (i := 0) rfl
  have b1 := B6h.out.cell (i := 1) rfl
  have b2 := B6h.out.cell (i := 2) rfl
  go_upto_region 5 with (go_at_call 19; (with_reducible refine (kB.out _ X6.out).mono ?_); rintro e w7 ⟨hx7, v7, rfl, A7, c7, rfl, hc7, hr7⟩; have X7 := hide (X6.out.trans hx7); have A7h := hide (A6h.out.ext hx7); have B7h := hide (B6h.out.ext hx7); have R6b := hide (R6.out.ext hx7); have R7 := hide hr7; clear hx7 hr7)
  clear b0 b1 b2 A6h B6h R6
  go_upto_region 10 with (first
    | (at_builtin; refine wpList_cat rfl (.tmp 43) (.tmp 44) rfl w7.heap.size _ _ p _ _ _ rfl rfl rfl (Own.nil _ _) R6b.out (Nat.le_refl _) (by simp; omega) ?_; intro v8 w8 ho8 hb8; rw [List.nil_append] at ho8; have Y8 : Ext w7 w8 := hb8; have R7b := R7.out.ext Y8; have A8h := A7h.out.ext Y8; have B8h := B7h.out.ext Y8)
    | (at_builtin; refine wpList_cat rfl (.tmp 46) (.tmp 47) rfl w7.heap.size _ _ x _ _ _ rfl rfl rfl ho8 (hX.ext (X7.out.trans Y8)) Y8.size (by omega) ?_; intro v9 w9 ho9 hb9; have Y9 : Ext w7 w9 := Below.trans Y8 hb9; have R9 := R7.out.ext Y9; have X9 := hide (X7.out.trans Y9); have A9h := hide (A7h.out.ext Y9); have B9h := hide (B7h.out.ext Y9); have P9 := hide ho9.bytes)
    | (at_builtin; refine wpList_cat rfl (.tmp 49) (.tmp 50) rfl w9.heap.size _ _ q _ _ _ rfl rfl rfl (Own.nil _ _) R9 (Nat.le_refl _) (by simp; omega) ?_; intro v10 w10 ho10 hb10; rw [List.nil_append] at ho10; have Y10 : Ext w9 w10 := hb10)
    | (at_builtin; refine wpList_cat rfl (.tmp 52) (.tmp 53) rfl w9.heap.size _ _ y _ _ _ rfl rfl rfl ho10 (hY.ext (X9.out.trans Y10)) Y10.size (by omega) ?_; intro v11 w11 ho11 hb11; have Y11 : Ext w9 w11 := Below.trans Y10 hb11; have X11 := hide (X9.out.trans Y11); have A11 := hide (A9h.out.ext Y11); have B11 := hide (B9h.out.ext Y11); have P11 := hide (P9.out.ext Y11); have Q11 := hide ho11.bytes))
  obtain ⟨pl, HPL⟩ : ∃ u, Hid (p ++ x = u) := ⟨_, hide rfl⟩
  obtain ⟨ql, HQL⟩ : ∃ u, Hid (q ++ y = u) := ⟨_, hide rfl⟩
  rw [HPL.out] at P11
  rw [HQL.out] at Q11
  rw [HPL.out, HQL.out] at HORD
  clear hX hY hpl hql A7h B7h R6b R7 ho8 hb8 Y8 R7b A8h B8h ho9 hb9 Y9 R9 A9h B9h P9 ho10 hb10 Y10 ho11 hb11 Y11 X5 X6 X7 X9 kA kB
  obtain ⟨AP, cp, hvp, hcp, hrp⟩ := P11.out
  obtain ⟨AQ, cq, hvq, hcq, hrq⟩ := Q11.out
  subst hvp hvq
  have RP := hide hrp
  have RQ := hide hrq
  clear hrp hrq P11 Q11
  have HOL : Hid ((lb == Op.bytesLess pl ql) = true) := hide (by have h := HORD.out; rw [h, beq_self_eq_true])
  clear HORD
  rename_i hK
  refine wp_region_sp X11.out.size [
      Sp.is (.int .i64 0),
      Sp.is (.bool true),
      Sp.is (.bool true),
      Sp.is (.int .i64 0),
      Sp.is (.bool true),
      Sp.is (.bool true),
      Sp.is (.bool true),
      Sp.is (.agg #[.int .u8 k, .int .i64 n, .string s]),
      Sp.is (.agg #[.int .u8 k, .int .i64 n', .string s']),
      Sp.is (.bool lb),
      Sp.bytes pl,
      Sp.is (.string ⟨(pl).toArray⟩),
      Sp.bytes ql,
      Sp.is (.string ⟨(ql).toArray⟩),
      Sp.is (.bool (Op.bytesLess (pl) (ql))),
      Sp.is (.bool true),
      Sp.is (.bool true),
      Sp.is (.bool true)] (by kernel_rfl) (by kernel_rfl) ?_ ?_
  · refine ⟨?_, ?_, ?_, ?_, ?_, ?_, ?_, ?_, ?_, ?_, ?_, ?_, ?_, ?_, ?_, ?_, ?_, ?_, trivial⟩
    · intro az wz hx hB hk H
      refine .inl ⟨wanted_none rfl, ?_⟩
      refine gives_move rfl ?_
      rw [(ev (show az.tmps[10]? = some (.int .i64 0) from hk 10 rfl))]
      exact ⟨Grw.refl _ _, rfl⟩
    · intro az wz hx hB hk H
      obtain ⟨v55, h55, s55⟩ := H 0 rfl _ rfl 55 rfl
      refine .inl ⟨wanted_none rfl, ?_⟩
      refine gives_eql_int (k := .i64) (0) (0) rfl ?_ ?_ ⟨Grw.refl _ _, congrArg Value.bool (by simp)⟩
      · rw [(ev h55)]
        exact s55
      · rfl
    · intro az wz hx hB hk H
      obtain ⟨v56, h56, s56⟩ := H 1 rfl _ rfl 56 rfl
      refine .inl ⟨wanted_none rfl, ?_⟩
      refine gives_move rfl ?_
      rw [(ev h56)]
      exact ⟨Grw.refl _ _, s56⟩
    · intro az wz hx hB hk H
      obtain ⟨v57, h57, s57⟩ := H 2 rfl _ rfl 57 rfl
      have g0 : az.tmps[57]? = some (.bool true) := by rw [h57]; exact congrArg some s57
      refine .inl ⟨wanted_yes _ rfl rfl rfl g0, ?_⟩
      refine gives_move rfl ?_
      rw [(ev (show az.tmps[12]? = some (.int .i64 0) from hk 12 rfl))]
      exact ⟨Grw.refl _ _, rfl⟩
    · intro az wz hx hB hk H
      obtain ⟨v57, h57, s57⟩ := H 2 rfl _ rfl 57 rfl
      obtain ⟨v58, h58, s58⟩ := H 3 rfl _ rfl 58 rfl
      have g0 : az.tmps[57]? = some (.bool true) := by rw [h57]; exact congrArg some s57
      refine .inl ⟨wanted_yes _ rfl rfl rfl g0, ?_⟩
      refine gives_eql_int (k := .i64) (0) (0) rfl ?_ ?_ ⟨Grw.refl _ _, congrArg Value.bool (by simp)⟩
      · rw [(ev h58)]
        exact s58
      · rfl
    · intro az wz hx hB hk H
      obtain ⟨v57, h57, s57⟩ := H 2 rfl _ rfl 57 rfl
      obtain ⟨v59, h59, s59⟩ := H 4 rfl _ rfl 59 rfl
      refine .inl ⟨wanted_none rfl, ?_⟩
      refine gives_pick true rfl ?_ ?_
      · rw [(ev h57)]
        exact s57
      · show Grw _ _ _ ∧ _
        rw [if_pos rfl, (ev h59)]
        exact ⟨Grw.refl _ _, s59⟩
    · intro az wz hx hB hk H
      obtain ⟨v60, h60, s60⟩ := H 5 rfl _ rfl 60 rfl
      refine .inl ⟨wanted_none rfl, ?_⟩
      refine gives_move rfl ?_
      rw [(ev h60)]
      exact ⟨Grw.refl _ _, s60⟩
    · intro az wz hx hB hk H
      obtain ⟨v61, h61, s61⟩ := H 6 rfl _ rfl 61 rfl
      have g0 : az.tmps[61]? = some (.bool true) := by rw [h61]; exact congrArg some s61
      refine .inl ⟨wanted_yes _ rfl rfl rfl g0, ?_⟩
      refine gives_load_at 26 (.tmp 4) rfl (w.heap.size) 0 (by rw [(ev (show az.tmps[4]? = some (.pointer (some ⟨w.heap.size, 0, none⟩)) from hk 4 rfl))]) [.int .u8 k, .int .i64 n, .string s] 3 (agg_struct Tryd.underlying26 wz) (by kernel_rfl) rfl (fun j v hj => by rw [Nat.zero_add]; exact hx.keeps.cell (A11.out.cell hj)) ⟨Grw.refl _ _, rfl⟩
    · intro az wz hx hB hk H
      obtain ⟨v61, h61, s61⟩ := H 6 rfl _ rfl 61 rfl
      have g0 : az.tmps[61]? = some (.bool true) := by rw [h61]; exact congrArg some s61
      refine .inl ⟨wanted_yes _ rfl rfl rfl g0, ?_⟩
      refine gives_load_at 26 (.tmp 5) rfl (w.heap.size + 1) 0 (by rw [(ev (show az.tmps[5]? = some (.pointer (some ⟨w.heap.size + 1, 0, none⟩)) from hk 5 rfl))]) [.int .u8 k, .int .i64 n', .string s'] 3 (agg_struct Tryd.underlying26 wz) (by kernel_rfl) rfl (fun j v hj => by rw [Nat.zero_add]; exact hx.keeps.cell (B11.out.cell hj)) ⟨Grw.refl _ _, rfl⟩
    · intro az wz hx hB hk H
      obtain ⟨v61, h61, s61⟩ := H 6 rfl _ rfl 61 rfl
      obtain ⟨v62, h62, s62⟩ := H 7 rfl _ rfl 62 rfl
      obtain ⟨v63, h63, s63⟩ := H 8 rfl _ rfl 63 rfl
      have g0 : az.tmps[61]? = some (.bool true) := by rw [h61]; exact congrArg some s61
      refine .inl ⟨wanted_yes _ rfl rfl rfl g0, ?_⟩
      refine gives_call rfl Tryd.call23 (by simp only [List.map_toArray, List.map_cons, List.map_nil, ev h62, ev h63]; rw [s62, s63]) ?_
      exact (KL.out wz).mono fun e w' ⟨he, hx'⟩ => Ret.grw (⟨_, he, hx', rfl⟩ : Ret wz (Is (.bool lb)) e w') hB
    · intro az wz hx hB hk H
      obtain ⟨v61, h61, s61⟩ := H 6 rfl _ rfl 61 rfl
      have g0 : az.tmps[61]? = some (.bool true) := by rw [h61]; exact congrArg some s61
      refine .inl ⟨wanted_yes _ rfl rfl rfl g0, ?_⟩
      refine gives_move rfl ?_
      rw [(ev (show az.tmps[13]? = some (.slice AP pl.length cp) from hk 13 rfl))]
      exact ⟨Grw.refl _ _, ⟨AP, cp, rfl, hcp, RP.out.keep hx.keeps⟩⟩
    · intro az wz hx hB hk H
      obtain ⟨v61, h61, s61⟩ := H 6 rfl _ rfl 61 rfl
      obtain ⟨v65, h65, s65⟩ := H 10 rfl _ rfl 65 rfl
      have g0 : az.tmps[61]? = some (.bool true) := by rw [h61]; exact congrArg some s61
      refine .inl ⟨wanted_yes _ rfl rfl rfl g0, ?_⟩
      refine gives_str (pl) rfl Tryd.underlying27 Tryd.underlying5 Tryd.underlying9 ?_ ⟨Grw.refl _ _, rfl⟩
      rw [(ev h65)]
      exact s65
    · intro az wz hx hB hk H
      obtain ⟨v61, h61, s61⟩ := H 6 rfl _ rfl 61 rfl
      have g0 : az.tmps[61]? = some (.bool true) := by rw [h61]; exact congrArg some s61
      refine .inl ⟨wanted_yes _ rfl rfl rfl g0, ?_⟩
      refine gives_move rfl ?_
      rw [(ev (show az.tmps[14]? = some (.slice AQ ql.length cq) from hk 14 rfl))]
      exact ⟨Grw.refl _ _, ⟨AQ, cq, rfl, hcq, RQ.out.keep hx.keeps⟩⟩
    · intro az wz hx hB hk H
      obtain ⟨v61, h61, s61⟩ := H 6 rfl _ rfl 61 rfl
      obtain ⟨v67, h67, s67⟩ := H 12 rfl _ rfl 67 rfl
      have g0 : az.tmps[61]? = some (.bool true) := by rw [h61]; exact congrArg some s61
      refine .inl ⟨wanted_yes _ rfl rfl rfl g0, ?_⟩
      refine gives_str (ql) rfl Tryd.underlying27 Tryd.underlying5 Tryd.underlying9 ?_ ⟨Grw.refl _ _, rfl⟩
      rw [(ev h67)]
      exact s67
    · intro az wz hx hB hk H
      obtain ⟨v61, h61, s61⟩ := H 6 rfl _ rfl 61 rfl
      obtain ⟨v66, h66, s66⟩ := H 11 rfl _ rfl 66 rfl
      obtain ⟨v68, h68, s68⟩ := H 13 rfl _ rfl 68 rfl
      have g0 : az.tmps[61]? = some (.bool true) := by rw [h61]; exact congrArg some s61
      refine .inl ⟨wanted_yes _ rfl rfl rfl g0, ?_⟩
      refine gives_lss_str (pl) (ql) rfl ?_ ?_ ⟨Grw.refl _ _, rfl⟩
      · rw [(ev h66)]
        exact s66
      · rw [(ev h68)]
        exact s68
    · intro az wz hx hB hk H
      obtain ⟨v61, h61, s61⟩ := H 6 rfl _ rfl 61 rfl
      obtain ⟨v64, h64, s64⟩ := H 9 rfl _ rfl 64 rfl
      obtain ⟨v69, h69, s69⟩ := H 14 rfl _ rfl 69 rfl
      have g0 : az.tmps[61]? = some (.bool true) := by rw [h61]; exact congrArg some s61
      refine .inl ⟨wanted_yes _ rfl rfl rfl g0, ?_⟩
      refine gives_eql_bool (lb) ((Op.bytesLess (pl) (ql))) Tryd.underlying4 rfl ?_ ?_ ⟨Grw.refl _ _, congrArg Value.bool (HOL.out)⟩
      · rw [(ev h64)]
        exact s64
      · rw [(ev h69)]
        exact s69
    · intro az wz hx hB hk H
      obtain ⟨v61, h61, s61⟩ := H 6 rfl _ rfl 61 rfl
      obtain ⟨v70, h70, s70⟩ := H 15 rfl _ rfl 70 rfl
      refine .inl ⟨wanted_none rfl, ?_⟩
      refine gives_pick true rfl ?_ ?_
      · rw [(ev h61)]
        exact s61
      · show Grw _ _ _ ∧ _
        rw [if_pos rfl, (ev h70)]
        exact ⟨Grw.refl _ _, s70⟩
    · intro az wz hx hB hk H
      obtain ⟨v71, h71, s71⟩ := H 16 rfl _ rfl 71 rfl
      refine .inl ⟨wanted_none rfl, ?_⟩
      refine gives_assign rfl ?_
      rw [(ev h71)]
      exact ⟨Grw.refl _ _, s71⟩
  · intro az wz hx hd hs hv hsame
    obtain ⟨v, hv4, s4⟩ := hv 17 _ 8 rfl rfl
    obtain rfl : v = .bool true := s4
    refine hK _ _ ?_
    refine wp_ret ?_
    refine bodyPost_ret (results_tmp rfl _ _ _) hd ?_
    refine ⟨?_, X11.out.grw hx⟩
    simp [hv4]
set_option maxRecDepth 20000 in
set_option maxHeartbeats 3200000 in
theorem stands_s (k n : Int) (s : ByteArray) (s' : ByteArray) (X Y : Option Addr) (c d : Nat) (x y : List UInt8) (w : World) (ia : VlIn (k, n, s)) (ib : VlIn (k, n, s')) (hX : Rd w X x) (hY : Rd w Y y) (hxl : x.length ≤ 140737488351232) (hyl : y.length ≤ 140737488351232) (hT : Tabs w) (hva : vOk (k, n, s) = true) (hvb : vOk (k, n, s') = true) (hs : s ≠ s') :
    Calls Tryd.prog 7 #[.agg #[.int .u8 k, .int .i64 n, .string s], .agg #[.int .u8 k, .int .i64 n, .string s'], .slice X x.length c, .slice Y y.length d] w (RetB w true) := by
  have KA := hide (fun (W : World) (hW : Ext w W) => awake_any W (hT.ext hW))
  have KFA := hide (fun (W : World) (hW : Ext w W) => rform_any (k, n, s) W ia (hT.ext hW))
  have KFB := hide (fun (W : World) (hW : Ext w W) => rform_any (k, n, s') W ib (hT.ext hW))
  obtain ⟨W2, hX2, hA2, hB2, hgg⟩ : ∃ W2, Ext w W2 ∧ Rw W2 w.heap.size 26 [.int .u8 k, .int .i64 n, .string s] ∧ Rw W2 (w.heap.size + 1) 26 [.int .u8 k, .int .i64 n, .string s'] ∧ (w.alloc (.cells #[.int .u8 k, .int .i64 n, .string s] 26)).alloc (.cells #[.int .u8 k, .int .i64 n, .string s'] 26) = W2 := ⟨_, (Ext.alloc _ _).trans (Ext.alloc _ _), (Rw.new w 26 [.int .u8 k, .int .i64 n, .string s]).ext (Ext.alloc _ _), (by have h := Rw.new (w.alloc (.cells #[.int .u8 k, .int .i64 n, .string s] 26)) 26 [.int .u8 k, .int .i64 n, .string s']; rwa [show (w.alloc (.cells #[.int .u8 k, .int .i64 n, .string s] 26)).heap.size = w.heap.size + 1 by simp] at h), rfl⟩
  have X2 := hide hX2
  have A2 := hide hA2
  have B2 := hide hB2
  clear hX2 hA2 hB2
  have hsb : (s.toList == s'.toList) = false := by
    rw [ByteArray.toList_eq, ByteArray.toList_eq]
    exact beq_eq_false_iff_ne.2 (fun e => hs (by cases s; cases s'; have e := Array.toList_inj.1 e; simp only at e; rw [e]))
  obtain ⟨p, HP⟩ : ∃ p, Hid (keyV (k, n, s) = p) := ⟨_, hide rfl⟩
  obtain ⟨q, HQ⟩ : ∃ q, Hid (keyV (k, n, s') = q) := ⟨_, hide rfl⟩
  obtain ⟨_, _, _, hpl, _⟩ := meant_key (k, n, s) ia hva
  obtain ⟨_, _, _, hql, _⟩ := meant_key (k, n, s') ib hvb
  rw [HP.out] at hpl
  rw [HQ.out] at hql
  obtain ⟨lb, HLB⟩ : ∃ u, Hid (lessV (k, n, s) (k, n, s') = u) := ⟨_, hide rfl⟩
  have HORD := hide (key_order (k, n, s) (k, n, s') x y hva hvb ia ib (fun e => hs (congrArg (fun z => z.2.2) e)))
  rw [HP.out, HQ.out, HLB.out] at HORD
  have kA := hide (fun (W : World) (hW : Ext w W) => key_yes (k, n, s) W ia (hT.ext hW) hva)
  have kB := hide (fun (W : World) (hW : Ext w W) => key_yes (k, n, s') W ib (hT.ext hW) hvb)
  have KL := hide (fun (W : World) => less_any (k, n, s) (k, n, s') W)
  rw [HP.out] at kA
  rw [HQ.out] at kB
  rw [HLB.out] at KL
  rw [hva] at KFA
  rw [hvb] at KFB
  clear hT ia ib hva hvb
  go_enter Tryd.func7, Tryd.ntmps7
  go_upto_region 1 with fail
  clear hgg
  have a0 := A2.out.cell (i := 0) rfl
  have a1 := A2.out.cell (i := 1) rfl
  have a2 := A2.out.cell (i := 2) rfl
  have b0 := B2.out.cell (i := 0) rfl
  have b1 := B2.out.cell (i := 1) rfl
  have b2 := B2.out.cell (i := 2) rfl
  go_upto_region 3 with (first
    | (go_at_call 11; (with_reducible refine (KA.out _ X2.out).mono ?_); rintro e w3 ⟨rfl, hx3⟩; have X3 := hide (X2.out.trans hx3); have A3 := A2.out.ext hx3; have e0 := A3.cell (i := 0) rfl; have e1 := A3.cell (i := 1) rfl; have e2 := A3.cell (i := 2) rfl; have B3 := B2.out.ext hx3)
    | (go_at_call 13; (with_reducible refine (KFA.out _ X3.out).mono ?_); rintro e w4 ⟨rfl, hx4⟩; have X4 := hide (X3.out.trans hx4); have A4 := A3.ext hx4; have B4 := B3.ext hx4; have f0 := B4.cell (i := 0) rfl; have f1 := B4.cell (i := 1) rfl; have f2 := B4.cell (i := 2) rfl)
    | (go_at_call 13; (with_reducible refine (KFB.out _ X4.out).mono ?_); rintro e w5 ⟨rfl, hx5⟩; have X5 := hide (X4.out.trans hx5); have A5 := A4.ext hx5; have B5 := B4.ext hx5; have g0 := A5.cell (i := 0) rfl; have g1 := A5.cell (i := 1) rfl; have g2 := A5.cell (i := 2) rfl; have h0 := B5.cell (i := 0) rfl; have h1 := B5.cell (i := 1) rfl; have h2 := B5.cell (i := 2) rfl))
  obtain ⟨W5, HW5⟩ : ∃ W, W = w5 := ⟨_, rfl⟩
  subst HW5
  have A5h := hide A5
  have B5h := hide B5
  clear A2 B2 A3 B3 A4 B4 A5 B5 hx3 hx4 hx5 a0 a1 a2 b0 b1 b2 e0 e1 e2 f0 f1 f2 h0 h1 h2 X2 X3 X4 KFA KFB KA
  go_upto_region 4 with (go_at_call 19; (with_reducible refine (kA.out _ X5.out).mono ?_); rintro e w6 ⟨hx6, v6, rfl, A6, c6, rfl, hc6, hr6⟩; have X6 := hide (X5.out.trans hx6); have A6h := hide (A5h.out.ext hx6); have B6h := hide (B5h.out.ext hx6); have R6 := hide hr6; clear hx6 hr6)
  clear g0 g1 g2 A5h B5h
  have b0 := B6h.out.cell (i := 0) rfl
  have b1 := B6h.out.cell (i := 1) rfl
  have b2 := B6h.out.cell (i := 2) rfl
  go_upto_region 5 with (go_at_call 19; (with_reducible refine (kB.out _ X6.out).mono ?_); rintro e w7 ⟨hx7, v7, rfl, A7, c7, rfl, hc7, hr7⟩; have X7 := hide (X6.out.trans hx7); have A7h := hide (A6h.out.ext hx7); have B7h := hide (B6h.out.ext hx7); have R6b := hide (R6.out.ext hx7); have R7 := hide hr7; clear hx7 hr7)
  clear b0 b1 b2 A6h B6h R6
  go_upto_region 10 with (first
    | (at_builtin; refine wpList_cat rfl (.tmp 43) (.tmp 44) rfl w7.heap.size _ _ p _ _ _ rfl rfl rfl (Own.nil _ _) R6b.out (Nat.le_refl _) (by simp; omega) ?_; intro v8 w8 ho8 hb8; rw [List.nil_append] at ho8; have Y8 : Ext w7 w8 := hb8; have R7b := R7.out.ext Y8; have A8h := A7h.out.ext Y8; have B8h := B7h.out.ext Y8)
    | (at_builtin; refine wpList_cat rfl (.tmp 46) (.tmp 47) rfl w7.heap.size _ _ x _ _ _ rfl rfl rfl ho8 (hX.ext (X7.out.trans Y8)) Y8.size (by omega) ?_; intro v9 w9 ho9 hb9; have Y9 : Ext w7 w9 := Below.trans Y8 hb9; have R9 := R7.out.ext Y9; have X9 := hide (X7.out.trans Y9); have A9h := hide (A7h.out.ext Y9); have B9h := hide (B7h.out.ext Y9); have P9 := hide ho9.bytes)
    | (at_builtin; refine wpList_cat rfl (.tmp 49) (.tmp 50) rfl w9.heap.size _ _ q _ _ _ rfl rfl rfl (Own.nil _ _) R9 (Nat.le_refl _) (by simp; omega) ?_; intro v10 w10 ho10 hb10; rw [List.nil_append] at ho10; have Y10 : Ext w9 w10 := hb10)
    | (at_builtin; refine wpList_cat rfl (.tmp 52) (.tmp 53) rfl w9.heap.size _ _ y _ _ _ rfl rfl rfl ho10 (hY.ext (X9.out.trans Y10)) Y10.size (by omega) ?_; intro v11 w11 ho11 hb11; have Y11 : Ext w9 w11 := Below.trans Y10 hb11; have X11 := hide (X9.out.trans Y11); have A11 := hide (A9h.out.ext Y11); have B11 := hide (B9h.out.ext Y11); have P11 := hide (P9.out.ext Y11); have Q11 := hide ho11.bytes))
  obtain ⟨pl, HPL⟩ : ∃ u, Hid (p ++ x = u) := ⟨_, hide rfl⟩
  obtain ⟨ql, HQL⟩ : ∃ u, Hid (q ++ y = u) := ⟨_, hide rfl⟩
  rw [HPL.out] at P11
  rw [HQL.out] at Q11
  rw [HPL.out, HQL.out] at HORD
  clear hX hY hpl hql A7h B7h R6b R7 ho8 hb8 Y8 R7b A8h B8h ho9 hb9 Y9 R9 A9h B9h P9 ho10 hb10 Y10 ho11 hb11 Y11 X5 X6 X7 X9 kA kB
  obtain ⟨AP, cp, hvp, hcp, hrp⟩ := P11.out
  obtain ⟨AQ, cq, hvq, hcq, hrq⟩ := Q11.out
  subst hvp hvq
  have RP := hide hrp
  have RQ := hide hrq
  clear hrp hrq P11 Q11
  have HOL : Hid ((lb == Op.bytesLess pl ql) = true) := hide (by have h := HORD.out; rw [h, beq_self_eq_true])
  clear HORD
  rename_i hK
  refine wp_region_sp X11.out.size [
      Sp.is (.int .i64 0),
      Sp.is (.bool true),
      Sp.is (.bool true),
      Sp.is (.int .i64 0),
      Sp.is (.bool true),
      Sp.is (.bool true),
      Sp.is (.bool true),
      Sp.is (.agg #[.int .u8 k, .int .i64 n, .string s]),
      Sp.is (.agg #[.int .u8 k, .int .i64 n, .string s']),
      Sp.is (.bool lb),
      Sp.bytes pl,
      Sp.is (.string ⟨(pl).toArray⟩),
      Sp.bytes ql,
      Sp.is (.string ⟨(ql).toArray⟩),
      Sp.is (.bool (Op.bytesLess (pl) (ql))),
      Sp.is (.bool true),
      Sp.is (.bool true),
      Sp.is (.bool true)] (by kernel_rfl) (by kernel_rfl) ?_ ?_
  · refine ⟨?_, ?_, ?_, ?_, ?_, ?_, ?_, ?_, ?_, ?_, ?_, ?_, ?_, ?_, ?_, ?_, ?_, ?_, trivial⟩
    · intro az wz hx hB hk H
      refine .inl ⟨wanted_none rfl, ?_⟩
      refine gives_move rfl ?_
      rw [(ev (show az.tmps[10]? = some (.int .i64 0) from hk 10 rfl))]
      exact ⟨Grw.refl _ _, rfl⟩
    · intro az wz hx hB hk H
      obtain ⟨v55, h55, s55⟩ := H 0 rfl _ rfl 55 rfl
      refine .inl ⟨wanted_none rfl, ?_⟩
      refine gives_eql_int (k := .i64) (0) (0) rfl ?_ ?_ ⟨Grw.refl _ _, congrArg Value.bool (by simp)⟩
      · rw [(ev h55)]
        exact s55
      · rfl
    · intro az wz hx hB hk H
      obtain ⟨v56, h56, s56⟩ := H 1 rfl _ rfl 56 rfl
      refine .inl ⟨wanted_none rfl, ?_⟩
      refine gives_move rfl ?_
      rw [(ev h56)]
      exact ⟨Grw.refl _ _, s56⟩
    · intro az wz hx hB hk H
      obtain ⟨v57, h57, s57⟩ := H 2 rfl _ rfl 57 rfl
      have g0 : az.tmps[57]? = some (.bool true) := by rw [h57]; exact congrArg some s57
      refine .inl ⟨wanted_yes _ rfl rfl rfl g0, ?_⟩
      refine gives_move rfl ?_
      rw [(ev (show az.tmps[12]? = some (.int .i64 0) from hk 12 rfl))]
      exact ⟨Grw.refl _ _, rfl⟩
    · intro az wz hx hB hk H
      obtain ⟨v57, h57, s57⟩ := H 2 rfl _ rfl 57 rfl
      obtain ⟨v58, h58, s58⟩ := H 3 rfl _ rfl 58 rfl
      have g0 : az.tmps[57]? = some (.bool true) := by rw [h57]; exact congrArg some s57
      refine .inl ⟨wanted_yes _ rfl rfl rfl g0, ?_⟩
      refine gives_eql_int (k := .i64) (0) (0) rfl ?_ ?_ ⟨Grw.refl _ _, congrArg Value.bool (by simp)⟩
      · rw [(ev h58)]
        exact s58
      · rfl
    · intro az wz hx hB hk H
      obtain ⟨v57, h57, s57⟩ := H 2 rfl _ rfl 57 rfl
      obtain ⟨v59, h59, s59⟩ := H 4 rfl _ rfl 59 rfl
      refine .inl ⟨wanted_none rfl, ?_⟩
      refine gives_pick true rfl ?_ ?_
      · rw [(ev h57)]
        exact s57
      · show Grw _ _ _ ∧ _
        rw [if_pos rfl, (ev h59)]
        exact ⟨Grw.refl _ _, s59⟩
    · intro az wz hx hB hk H
      obtain ⟨v60, h60, s60⟩ := H 5 rfl _ rfl 60 rfl
      refine .inl ⟨wanted_none rfl, ?_⟩
      refine gives_move rfl ?_
      rw [(ev h60)]
      exact ⟨Grw.refl _ _, s60⟩
    · intro az wz hx hB hk H
      obtain ⟨v61, h61, s61⟩ := H 6 rfl _ rfl 61 rfl
      have g0 : az.tmps[61]? = some (.bool true) := by rw [h61]; exact congrArg some s61
      refine .inl ⟨wanted_yes _ rfl rfl rfl g0, ?_⟩
      refine gives_load_at 26 (.tmp 4) rfl (w.heap.size) 0 (by rw [(ev (show az.tmps[4]? = some (.pointer (some ⟨w.heap.size, 0, none⟩)) from hk 4 rfl))]) [.int .u8 k, .int .i64 n, .string s] 3 (agg_struct Tryd.underlying26 wz) (by kernel_rfl) rfl (fun j v hj => by rw [Nat.zero_add]; exact hx.keeps.cell (A11.out.cell hj)) ⟨Grw.refl _ _, rfl⟩
    · intro az wz hx hB hk H
      obtain ⟨v61, h61, s61⟩ := H 6 rfl _ rfl 61 rfl
      have g0 : az.tmps[61]? = some (.bool true) := by rw [h61]; exact congrArg some s61
      refine .inl ⟨wanted_yes _ rfl rfl rfl g0, ?_⟩
      refine gives_load_at 26 (.tmp 5) rfl (w.heap.size + 1) 0 (by rw [(ev (show az.tmps[5]? = some (.pointer (some ⟨w.heap.size + 1, 0, none⟩)) from hk 5 rfl))]) [.int .u8 k, .int .i64 n, .string s'] 3 (agg_struct Tryd.underlying26 wz) (by kernel_rfl) rfl (fun j v hj => by rw [Nat.zero_add]; exact hx.keeps.cell (B11.out.cell hj)) ⟨Grw.refl _ _, rfl⟩
    · intro az wz hx hB hk H
      obtain ⟨v61, h61, s61⟩ := H 6 rfl _ rfl 61 rfl
      obtain ⟨v62, h62, s62⟩ := H 7 rfl _ rfl 62 rfl
      obtain ⟨v63, h63, s63⟩ := H 8 rfl _ rfl 63 rfl
      have g0 : az.tmps[61]? = some (.bool true) := by rw [h61]; exact congrArg some s61
      refine .inl ⟨wanted_yes _ rfl rfl rfl g0, ?_⟩
      refine gives_call rfl Tryd.call23 (by simp only [List.map_toArray, List.map_cons, List.map_nil, ev h62, ev h63]; rw [s62, s63]) ?_
      exact (KL.out wz).mono fun e w' ⟨he, hx'⟩ => Ret.grw (⟨_, he, hx', rfl⟩ : Ret wz (Is (.bool lb)) e w') hB
    · intro az wz hx hB hk H
      obtain ⟨v61, h61, s61⟩ := H 6 rfl _ rfl 61 rfl
      have g0 : az.tmps[61]? = some (.bool true) := by rw [h61]; exact congrArg some s61
      refine .inl ⟨wanted_yes _ rfl rfl rfl g0, ?_⟩
      refine gives_move rfl ?_
      rw [(ev (show az.tmps[13]? = some (.slice AP pl.length cp) from hk 13 rfl))]
      exact ⟨Grw.refl _ _, ⟨AP, cp, rfl, hcp, RP.out.keep hx.keeps⟩⟩
    · intro az wz hx hB hk H
      obtain ⟨v61, h61, s61⟩ := H 6 rfl _ rfl 61 rfl
      obtain ⟨v65, h65, s65⟩ := H 10 rfl _ rfl 65 rfl
      have g0 : az.tmps[61]? = some (.bool true) := by rw [h61]; exact congrArg some s61
      refine .inl ⟨wanted_yes _ rfl rfl rfl g0, ?_⟩
      refine gives_str (pl) rfl Tryd.underlying27 Tryd.underlying5 Tryd.underlying9 ?_ ⟨Grw.refl _ _, rfl⟩
      rw [(ev h65)]
      exact s65
    · intro az wz hx hB hk H
      obtain ⟨v61, h61, s61⟩ := H 6 rfl _ rfl 61 rfl
      have g0 : az.tmps[61]? = some (.bool true) := by rw [h61]; exact congrArg some s61
      refine .inl ⟨wanted_yes _ rfl rfl rfl g0, ?_⟩
      refine gives_move rfl ?_
      rw [(ev (show az.tmps[14]? = some (.slice AQ ql.length cq) from hk 14 rfl))]
      exact ⟨Grw.refl _ _, ⟨AQ, cq, rfl, hcq, RQ.out.keep hx.keeps⟩⟩
    · intro az wz hx hB hk H
      obtain ⟨v61, h61, s61⟩ := H 6 rfl _ rfl 61 rfl
      obtain ⟨v67, h67, s67⟩ := H 12 rfl _ rfl 67 rfl
      have g0 : az.tmps[61]? = some (.bool true) := by rw [h61]; exact congrArg some s61
      refine .inl ⟨wanted_yes _ rfl rfl rfl g0, ?_⟩
      refine gives_str (ql) rfl Tryd.underlying27 Tryd.underlying5 Tryd.underlying9 ?_ ⟨Grw.refl _ _, rfl⟩
      rw [(ev h67)]
      exact s67
    · intro az wz hx hB hk H
      obtain ⟨v61, h61, s61⟩ := H 6 rfl _ rfl 61 rfl
      obtain ⟨v66, h66, s66⟩ := H 11 rfl _ rfl 66 rfl
      obtain ⟨v68, h68, s68⟩ := H 13 rfl _ rfl 68 rfl
      have g0 : az.tmps[61]? = some (.bool true) := by rw [h61]; exact congrArg some s61
      refine .inl ⟨wanted_yes _ rfl rfl rfl g0, ?_⟩
      refine gives_lss_str (pl) (ql) rfl ?_ ?_ ⟨Grw.refl _ _, rfl⟩
      · rw [(ev h66)]
        exact s66
      · rw [(ev h68)]
        exact s68
    · intro az wz hx hB hk H
      obtain ⟨v61, h61, s61⟩ := H 6 rfl _ rfl 61 rfl
      obtain ⟨v64, h64, s64⟩ := H 9 rfl _ rfl 64 rfl
      obtain ⟨v69, h69, s69⟩ := H 14 rfl _ rfl 69 rfl
      have g0 : az.tmps[61]? = some (.bool true) := by rw [h61]; exact congrArg some s61
      refine .inl ⟨wanted_yes _ rfl rfl rfl g0, ?_⟩
      refine gives_eql_bool (lb) ((Op.bytesLess (pl) (ql))) Tryd.underlying4 rfl ?_ ?_ ⟨Grw.refl _ _, congrArg Value.bool (HOL.out)⟩
      · rw [(ev h64)]
        exact s64
      · rw [(ev h69)]
        exact s69
    · intro az wz hx hB hk H
      obtain ⟨v61, h61, s61⟩ := H 6 rfl _ rfl 61 rfl
      obtain ⟨v70, h70, s70⟩ := H 15 rfl _ rfl 70 rfl
      refine .inl ⟨wanted_none rfl, ?_⟩
      refine gives_pick true rfl ?_ ?_
      · rw [(ev h61)]
        exact s61
      · show Grw _ _ _ ∧ _
        rw [if_pos rfl, (ev h70)]
        exact ⟨Grw.refl _ _, s70⟩
    · intro az wz hx hB hk H
      obtain ⟨v71, h71, s71⟩ := H 16 rfl _ rfl 71 rfl
      refine .inl ⟨wanted_none rfl, ?_⟩
      refine gives_assign rfl ?_
      rw [(ev h71)]
      exact ⟨Grw.refl _ _, s71⟩
  · intro az wz hx hd hs hv hsame
    obtain ⟨v, hv4, s4⟩ := hv 17 _ 8 rfl rfl
    obtain rfl : v = .bool true := s4
    refine hK _ _ ?_
    refine wp_ret ?_
    refine bodyPost_ret (results_tmp rfl _ _ _) hd ?_
    refine ⟨?_, X11.out.grw hx⟩
    simp [hv4]
theorem codecStands_walk (k n k' n' : Int) (s s' : ByteArray) (X Y : Option Addr) (c d : Nat) (x y : List UInt8) (w : World) (ia : VlIn (k, n, s)) (ib : VlIn (k', n', s')) (hX : Rd w X x) (hY : Rd w Y y) (hxl : x.length ≤ 140737488351232) (hyl : y.length ≤ 140737488351232) (hT : Tabs w) :
    Calls Tryd.prog 7 #[.agg #[.int .u8 k, .int .i64 n, .string s], .agg #[.int .u8 k', .int .i64 n', .string s'], .slice X x.length c, .slice Y y.length d] w (RetB w true) := by
  cases hva : vOk (k, n, s) with
  | false => exact stands_no_a k n s k' n' s' X Y c d x y w ia ib hX hY hxl hyl hT hva
  | true =>
    cases hvb : vOk (k', n', s') with
    | false => exact stands_no_b k n s k' n' s' X Y c d x y w ia ib hX hY hxl hyl hT hva hvb
    | true =>
      by_cases hk : k = k'
      · subst hk
        by_cases hn : n = n'
        · subst hn
          by_cases hs : s = s'
          · subst hs
            exact stands_same k n s X Y c d x y w ia ib hX hY hxl hyl hT hva
          · exact stands_s k n s s' X Y c d x y w ia ib hX hY hxl hyl hT hva hvb hs
        · exact stands_n k n s n' s' X Y c d x y w ia ib hX hY hxl hyl hT hva hvb hn
      · exact stands_k k n s k' n' s' X Y c d x y w ia ib hX hY hxl hyl hT hva hvb hk
end Go.Proofs.YtakmifnageepbaaDoor
