/-
  The walk of PageFits.
-/
import Derived.Test.YtmamhinpkioogaaPgQ
import Derived.Test.YtmamhinpkioogaaPgCe
import Derived.Test.YtmamhinpkioogaaGive
namespace Go.Proofs.Ytmamhinpkioogaa
open Go.RowKit

theorem gives_loadI {P : Program} {o : Oper} {a : Act} {w : World} {R : Value → World → Prop} {x : Operand} {ty : TypeId} {ad : Addr} {v : Value} {k : IntKind} (h : o.op = .load ty x) (hx : a.eval x = .pointer (some ad)) (hu : P.underlying ty = some (.int k)) (hc : w.cell? ad = some v) (hR : R v w) : gives P o a w R := by
  have hl : (loadVar ty ad).run P w = .ok v w := by simp [loadVar, isAgg, run_underlying hu, go_sem, hc]
  unfold gives execOp
  simp only [h, hx, Instr.loadAt, Instr.sureAddr, Sem.run_bind, Sem.run_pure, Result.andThen_ok, hl]
  exact hR
theorem gives_build {P : Program} {o : Oper} {a : Act} {w : World} {R : Value → World → Prop} {t : TypeId} {parts : Array (Nat × Operand)} (h : o.op = .build t parts) (cells : Array Value) (vs : List (Nat × Value)) (hv : parts.toList.map (fun x => (x.1, a.eval x.2)) = vs) (hb : P.built t vs = some cells) (hR : R (.agg cells) w) : gives P o a w R := by
  refine gives_of_run (w' := w) (v := .agg cells) ?_ hR
  have hb2 : P.built t (parts.map fun (i, x) => (i, a.eval x)).toList = some cells := by
    rw [← hb, ← hv, Array.toList_map]
  unfold execOp
  simp only [h, Sem.run_bind, run_build w t _ cells hb2, Result.andThen_ok, Sem.run_pure]
theorem built_page (k : Int) (A : Option Addr) (n c : Nat) : Try.prog.built 24 [(0, .int .u8 k), (2, .slice A n c)] = some #[.int .u8 k, .int .i64 0, .slice A n c] := by kernel_rfl
theorem run_fieldG (g : Nat) (w : World) : (Instr.fieldAt 24 (.pointer (some ⟨g, 0, none⟩)) 0).run Try.prog w = .ok (.pointer (some ⟨g, 0, none⟩)) w := by
  simp [go_sem]
set_option maxRecDepth 20000 in
set_option maxHeartbeats 6400000 in
theorem pageFits_long (A A1 A2 : Option Addr) (kind next : Int) (n c n1 n2 c1 c2 : Nat) (L : List Cl) (w : World) (hr : RdC w A L) (hn : L.length = n) (hS : Small L) (h : 300 < n) :
    Calls Try.prog 7 #[.agg #[.int .u8 kind, .int .i64 next, .slice A n c], .agg #[.slice A1 n1 c1, .slice A2 n2 c2]] w (Ret w (Is (.bool true))) := by
  have KA := hide awake_any
  have hli : (300 : Int) < (n : Int) := by omega
  clear h
  clear hr hn hS
  go_enter Try.func7, Try.ntmps7
  go_upto_region 1 with fail
  obtain ⟨W1, hX1, hR1, hP1, hg⟩ : ∃ W1, Ext w W1 ∧ Rw W1 (w.heap.size + 1) 40 [.slice A1 n1 c1, .slice A2 n2 c2] ∧ Rw W1 w.heap.size 24 [.int .u8 kind, .int .i64 next, .slice A n c] ∧ (w.alloc (.cells #[.int .u8 kind, .int .i64 next, .slice A n c] 24)).alloc (.cells #[.slice A1 n1 c1, .slice A2 n2 c2] 40) = W1 := ⟨_, (Ext.alloc _ _).trans (Ext.alloc _ _), rw_new2 _ _ _ _, (Rw.new w 24 [.int .u8 kind, .int .i64 next, .slice A n c]).ext (Ext.alloc _ _), rfl⟩
  rw [hg]
  obtain ⟨hp, HHP⟩ : ∃ hp, Hid (w.heap.size = hp) := ⟨_, hide rfl⟩
  obtain ⟨hb, HHB⟩ : ∃ hb, Hid (w.heap.size + 1 = hb) := ⟨_, hide rfl⟩
  rw [HHB.out] at hR1 ⊢
  rw [HHP.out] at hP1 ⊢
  have X0 := hide hX1
  have R0 := hide hR1
  have P0 := hide hP1
  clear hg hX1 hR1 hP1
  go_upto_region 2 with (go_at_call 11; (with_reducible refine (KA.out _).mono ?_); rintro e w1 ⟨rfl, hx1⟩; have X1 := hide (X0.out.trans hx1); have R1 := hide (R0.out.ext hx1); have P1 := hide (P0.out.ext hx1); have z0 := P1.out.cell (i := 0) rfl; have z1 := P1.out.cell (i := 1) rfl; have z2 := P1.out.cell (i := 2) rfl; clear hx1)
  go_wp2_with (go_at_call 11; (with_reducible refine (KA.out _).mono ?_); rintro e w5 ⟨rfl, hx5⟩; have X5 := hide (X1.out.trans hx5); clear hx5)
  go_ret
  exact Ret.mk X5.out rfl
set_option maxRecDepth 20000 in
set_option maxHeartbeats 6400000 in
theorem pageFits_no (A A1 A2 : Option Addr) (kind next : Int) (n c n1 n2 c1 c2 : Nat) (L : List Cl) (w : World) (hr : RdC w A L) (hn : L.length = n) (hS : Small L) (h : n ≤ 300) (hf : formB kind next L = false) :
    Calls Try.prog 7 #[.agg #[.int .u8 kind, .int .i64 next, .slice A n c], .agg #[.slice A1 n1 c1, .slice A2 n2 c2]] w (Ret w (Is (.bool true))) := by
  have KA := hide awake_any
  have hli : ¬ (300 : Int) < (n : Int) := by omega
  have hln : (n : Int) ≤ 300 := by omega
  have KF := hide (fun (W : World) (hW : Ext w W) => (show Calls Try.prog 13 #[.agg #[.int .u8 kind, .int .i64 next, .slice A n c]] W (Ret W (Is (.bool false))) from by have h := rform_any kind next n c W (hr.ext hW) hn (by omega) hS; rw [hf] at h; exact h))
  clear h hf
  clear hr hn hS
  go_enter Try.func7, Try.ntmps7
  go_upto_region 1 with fail
  obtain ⟨W1, hX1, hR1, hP1, hg⟩ : ∃ W1, Ext w W1 ∧ Rw W1 (w.heap.size + 1) 40 [.slice A1 n1 c1, .slice A2 n2 c2] ∧ Rw W1 w.heap.size 24 [.int .u8 kind, .int .i64 next, .slice A n c] ∧ (w.alloc (.cells #[.int .u8 kind, .int .i64 next, .slice A n c] 24)).alloc (.cells #[.slice A1 n1 c1, .slice A2 n2 c2] 40) = W1 := ⟨_, (Ext.alloc _ _).trans (Ext.alloc _ _), rw_new2 _ _ _ _, (Rw.new w 24 [.int .u8 kind, .int .i64 next, .slice A n c]).ext (Ext.alloc _ _), rfl⟩
  rw [hg]
  obtain ⟨hp, HHP⟩ : ∃ hp, Hid (w.heap.size = hp) := ⟨_, hide rfl⟩
  obtain ⟨hb, HHB⟩ : ∃ hb, Hid (w.heap.size + 1 = hb) := ⟨_, hide rfl⟩
  rw [HHB.out] at hR1 ⊢
  rw [HHP.out] at hP1 ⊢
  have X0 := hide hX1
  have R0 := hide hR1
  have P0 := hide hP1
  clear hg hX1 hR1 hP1
  go_upto_region 2 with (first | (go_at_call 11; (with_reducible refine (KA.out _).mono ?_); rintro e w1 ⟨rfl, hx1⟩; have X1 := hide (X0.out.trans hx1); have R1 := hide (R0.out.ext hx1); have P1 := hide (P0.out.ext hx1); have z0 := P1.out.cell (i := 0) rfl; have z1 := P1.out.cell (i := 1) rfl; have z2 := P1.out.cell (i := 2) rfl; clear hx1) | (go_at_call 13; (with_reducible refine (KF.out _ X1.out).mono ?_); rintro e w2 ⟨v2, rfl, hx2, rfl⟩; have X2 := hide (X1.out.trans hx2); have R2 := hide (R1.out.ext hx2); have P2 := hide (P1.out.ext hx2); have y0 := R2.out.cell (i := 0) rfl; have y1 := R2.out.cell (i := 1) rfl; have y2 := P2.out.cell (i := 2) rfl; clear hx2))
  go_wp2_with (go_at_call 11; (with_reducible refine (KA.out _).mono ?_); rintro e w5 ⟨rfl, hx5⟩; have X5 := hide (X2.out.trans hx5); clear hx5)
  go_ret
  exact Ret.mk X5.out rfl
set_option maxRecDepth 20000 in
set_option maxHeartbeats 6400000 in
theorem pageFits_key (A A1 A2 : Option Addr) (kind next : Int) (n c n1 n2 c1 c2 : Nat) (L : List Cl) (w : World) (hr : RdC w A L) (hn : L.length = n) (hS : Small L) (h : n ≤ 300) (hf : formB kind next L = true) (h90 : 90 < n1) :
    Calls Try.prog 7 #[.agg #[.int .u8 kind, .int .i64 next, .slice A n c], .agg #[.slice A1 n1 c1, .slice A2 n2 c2]] w (Ret w (Is (.bool true))) := by
  have KA := hide awake_any
  have hli : ¬ (300 : Int) < (n : Int) := by omega
  have hln : (n : Int) ≤ 300 := by omega
  have KF := hide (fun (W : World) (hW : Ext w W) => (show Calls Try.prog 13 #[.agg #[.int .u8 kind, .int .i64 next, .slice A n c]] W (Ret W (Is (.bool true))) from by have h := rform_any kind next n c W (hr.ext hW) hn (by omega) hS; rw [hf] at h; exact h))
  have h9 : (90 : Int) < (n1 : Int) := by omega
  clear h hf h90
  clear hr hn hS
  go_enter Try.func7, Try.ntmps7
  go_upto_region 1 with fail
  obtain ⟨W1, hX1, hR1, hP1, hg⟩ : ∃ W1, Ext w W1 ∧ Rw W1 (w.heap.size + 1) 40 [.slice A1 n1 c1, .slice A2 n2 c2] ∧ Rw W1 w.heap.size 24 [.int .u8 kind, .int .i64 next, .slice A n c] ∧ (w.alloc (.cells #[.int .u8 kind, .int .i64 next, .slice A n c] 24)).alloc (.cells #[.slice A1 n1 c1, .slice A2 n2 c2] 40) = W1 := ⟨_, (Ext.alloc _ _).trans (Ext.alloc _ _), rw_new2 _ _ _ _, (Rw.new w 24 [.int .u8 kind, .int .i64 next, .slice A n c]).ext (Ext.alloc _ _), rfl⟩
  rw [hg]
  obtain ⟨hp, HHP⟩ : ∃ hp, Hid (w.heap.size = hp) := ⟨_, hide rfl⟩
  obtain ⟨hb, HHB⟩ : ∃ hb, Hid (w.heap.size + 1 = hb) := ⟨_, hide rfl⟩
  rw [HHB.out] at hR1 ⊢
  rw [HHP.out] at hP1 ⊢
  have X0 := hide hX1
  have R0 := hide hR1
  have P0 := hide hP1
  clear hg hX1 hR1 hP1
  go_upto_region 2 with (first | (go_at_call 11; (with_reducible refine (KA.out _).mono ?_); rintro e w1 ⟨rfl, hx1⟩; have X1 := hide (X0.out.trans hx1); have R1 := hide (R0.out.ext hx1); have P1 := hide (P0.out.ext hx1); have z0 := P1.out.cell (i := 0) rfl; have z1 := P1.out.cell (i := 1) rfl; have z2 := P1.out.cell (i := 2) rfl; clear hx1) | (go_at_call 13; (with_reducible refine (KF.out _ X1.out).mono ?_); rintro e w2 ⟨v2, rfl, hx2, rfl⟩; have X2 := hide (X1.out.trans hx2); have R2 := hide (R1.out.ext hx2); have P2 := hide (P1.out.ext hx2); have y0 := R2.out.cell (i := 0) rfl; have y1 := R2.out.cell (i := 1) rfl; have y2 := P2.out.cell (i := 2) rfl; clear hx2))
  go_wp2_with (go_at_call 11; (with_reducible refine (KA.out _).mono ?_); rintro e w5 ⟨rfl, hx5⟩; have X5 := hide (X2.out.trans hx5); clear hx5)
  go_ret
  exact Ret.mk X5.out rfl
set_option maxRecDepth 20000 in
set_option maxHeartbeats 6400000 in
theorem pageFits_value (A A1 A2 : Option Addr) (kind next : Int) (n c n1 n2 c1 c2 : Nat) (L : List Cl) (w : World) (hr : RdC w A L) (hn : L.length = n) (hS : Small L) (h : n ≤ 300) (hf : formB kind next L = true) (h90 : n1 ≤ 90) (h150 : 150 < n2) :
    Calls Try.prog 7 #[.agg #[.int .u8 kind, .int .i64 next, .slice A n c], .agg #[.slice A1 n1 c1, .slice A2 n2 c2]] w (Ret w (Is (.bool true))) := by
  have KA := hide awake_any
  have hli : ¬ (300 : Int) < (n : Int) := by omega
  have hln : (n : Int) ≤ 300 := by omega
  have KF := hide (fun (W : World) (hW : Ext w W) => (show Calls Try.prog 13 #[.agg #[.int .u8 kind, .int .i64 next, .slice A n c]] W (Ret W (Is (.bool true))) from by have h := rform_any kind next n c W (hr.ext hW) hn (by omega) hS; rw [hf] at h; exact h))
  have h9 : ¬ (90 : Int) < (n1 : Int) := by omega
  have h1 : (150 : Int) < (n2 : Int) := by omega
  clear h hf h90 h150
  clear hr hn hS
  go_enter Try.func7, Try.ntmps7
  go_upto_region 1 with fail
  obtain ⟨W1, hX1, hR1, hP1, hg⟩ : ∃ W1, Ext w W1 ∧ Rw W1 (w.heap.size + 1) 40 [.slice A1 n1 c1, .slice A2 n2 c2] ∧ Rw W1 w.heap.size 24 [.int .u8 kind, .int .i64 next, .slice A n c] ∧ (w.alloc (.cells #[.int .u8 kind, .int .i64 next, .slice A n c] 24)).alloc (.cells #[.slice A1 n1 c1, .slice A2 n2 c2] 40) = W1 := ⟨_, (Ext.alloc _ _).trans (Ext.alloc _ _), rw_new2 _ _ _ _, (Rw.new w 24 [.int .u8 kind, .int .i64 next, .slice A n c]).ext (Ext.alloc _ _), rfl⟩
  rw [hg]
  obtain ⟨hp, HHP⟩ : ∃ hp, Hid (w.heap.size = hp) := ⟨_, hide rfl⟩
  obtain ⟨hb, HHB⟩ : ∃ hb, Hid (w.heap.size + 1 = hb) := ⟨_, hide rfl⟩
  rw [HHB.out] at hR1 ⊢
  rw [HHP.out] at hP1 ⊢
  have X0 := hide hX1
  have R0 := hide hR1
  have P0 := hide hP1
  clear hg hX1 hR1 hP1
  go_upto_region 2 with (first | (go_at_call 11; (with_reducible refine (KA.out _).mono ?_); rintro e w1 ⟨rfl, hx1⟩; have X1 := hide (X0.out.trans hx1); have R1 := hide (R0.out.ext hx1); have P1 := hide (P0.out.ext hx1); have z0 := P1.out.cell (i := 0) rfl; have z1 := P1.out.cell (i := 1) rfl; have z2 := P1.out.cell (i := 2) rfl; clear hx1) | (go_at_call 13; (with_reducible refine (KF.out _ X1.out).mono ?_); rintro e w2 ⟨v2, rfl, hx2, rfl⟩; have X2 := hide (X1.out.trans hx2); have R2 := hide (R1.out.ext hx2); have P2 := hide (P1.out.ext hx2); have y0 := R2.out.cell (i := 0) rfl; have y1 := R2.out.cell (i := 1) rfl; have y2 := P2.out.cell (i := 2) rfl; clear hx2))
  go_wp2_with (go_at_call 11; (with_reducible refine (KA.out _).mono ?_); rintro e w5 ⟨rfl, hx5⟩; have X5 := hide (X2.out.trans hx5); clear hx5)
  go_ret
  exact Ret.mk X5.out rfl
set_option maxRecDepth 20000 in
set_option maxHeartbeats 6400000 in
theorem pageFits_main (A A1 A2 : Option Addr) (kind next : Int) (n c n1 n2 c1 c2 : Nat) (L : List Cl) (w : World) (hr : RdC w A L) (hn : L.length = n) (hS : Small L) (x : Cl) (h1 : Rd w A1 x.1) (h2 : Rd w A2 x.2) (e1 : x.1.length = n1) (e2 : x.2.length = n2) (hc1 : n1 ≤ c1) (hc2 : n2 ≤ c2) (hnc : n ≤ c) (h : n ≤ 300) (hf : formB kind next L = true) (h90 : n1 ≤ 90) (h150 : n2 ≤ 150) :
    Calls Try.prog 7 #[.agg #[.int .u8 kind, .int .i64 next, .slice A n c], .agg #[.slice A1 n1 c1, .slice A2 n2 c2]] w (Ret w (Is (.bool true))) := by
  have KA := hide awake_any
  have hli : ¬ (300 : Int) < (n : Int) := by omega
  have hln : (n : Int) ≤ 300 := by omega
  have KF := hide (fun (W : World) (hW : Ext w W) => (show Calls Try.prog 13 #[.agg #[.int .u8 kind, .int .i64 next, .slice A n c]] W (Ret W (Is (.bool true))) from by have h := rform_any kind next n c W (hr.ext hW) hn (by omega) hS; rw [hf] at h; exact h))
  have hRi : Rises L := (formB_facts hf).2.1
  have hSx : Small [x] := small_one (by omega)
  obtain ⟨RP, HRP⟩ : ∃ RP, Hid (repl L x.1 [x] = RP) := ⟨_, hide rfl⟩
  have HSP : Hid (Small RP) := hide (by rw [← HRP.out]; exact repl_small hS hSx)
  have HML : Hid (RP.length ≤ 301) := hide (by rw [← HRP.out]; have := repl_le L x.1 [x]; simp at this; omega)
  obtain ⟨m, HM⟩ : ∃ m, Hid (RP.length = m) := ⟨_, hide rfl⟩
  obtain ⟨s, HSS⟩ : ∃ s, Hid (szs RP = s) := ⟨_, hide rfl⟩
  obtain ⟨q, HQ⟩ : ∃ q, Hid (halves RP = q) := ⟨_, hide rfl⟩
  have HPT := hide (fun hbig => parted (x := x) hf (by omega) (by omega) hbig)
  rw [HRP.out, HQ.out, HSS.out, HM.out] at HPT
  rw [HM.out] at HML
  have KP := hide (fun (W : World) (hW : Keeps w W) => (show Calls Try.prog 23 #[.slice A n c, .agg #[.slice A1 n1 c1, .slice A2 n2 c2]] W (Ret W (fun W2 v => ∃ A3 c3, v = .slice A3 m c3 ∧ m ≤ c3 ∧ RdC W2 A3 RP)) from by
    have hp := put_any n n1 n2 c c1 c2 W (hr.keep hW) (h1.keep hW) (h2.keep hW) hn e1 e2 hc1 hc2 (by omega) hnc hRi hS hSx
    rw [HRP.out] at hp
    refine hp.mono fun _ _ hh => ?_
    have hh2 := ret_cells hh
    unfold Cells at hh2
    rw [HM.out] at hh2
    exact hh2))
  have KS := hide (fun (W : World) (A3 : Option Addr) (c3 : Nat) (h3 : RdC W A3 RP) => (show Calls Try.prog 15 #[.slice A3 m c3] W (fun e w' => e = .returned (.int .i64 (s : Int)) ∧ ∃ q, w' = W.drewN q) from by
    have hp := rsize_any m c3 W h3 HM.out (by have := HML.out; omega) HSP.out
    rw [HSS.out] at hp
    exact hp))
  have KH := hide (fun (W : World) (A3 : Option Addr) (c3 : Nat) (h3 : RdC W A3 RP) => (show Calls Try.prog 27 #[.slice A3 m c3] W (Ret W (Is (.int .i64 (q : Int)))) from by
    have hp := halves_any m c3 W h3 HM.out (by have := HML.out; omega) HSP.out
    rw [HQ.out] at hp
    exact hp))
  have h9 : ¬ (90 : Int) < (n1 : Int) := by omega
  have h15 : ¬ (150 : Int) < (n2 : Int) := by omega
  have hn1 : (n1 : Int) ≤ 90 := by omega
  have hn2 : (n2 : Int) ≤ 150 := by omega
  clear hr h1 h2 hn e1 e2 hc1 hc2 hnc h hS hSx hRi hf h90 h150
  go_enter Try.func7, Try.ntmps7
  go_upto_region 1 with fail
  obtain ⟨W1, hX1, hR1, hP1, hg⟩ : ∃ W1, Ext w W1 ∧ Rw W1 (w.heap.size + 1) 40 [.slice A1 n1 c1, .slice A2 n2 c2] ∧ Rw W1 w.heap.size 24 [.int .u8 kind, .int .i64 next, .slice A n c] ∧ (w.alloc (.cells #[.int .u8 kind, .int .i64 next, .slice A n c] 24)).alloc (.cells #[.slice A1 n1 c1, .slice A2 n2 c2] 40) = W1 := ⟨_, (Ext.alloc _ _).trans (Ext.alloc _ _), rw_new2 _ _ _ _, (Rw.new w 24 [.int .u8 kind, .int .i64 next, .slice A n c]).ext (Ext.alloc _ _), rfl⟩
  rw [hg]
  obtain ⟨hp, HHP⟩ : ∃ hp, Hid (w.heap.size = hp) := ⟨_, hide rfl⟩
  obtain ⟨hb, HHB⟩ : ∃ hb, Hid (w.heap.size + 1 = hb) := ⟨_, hide rfl⟩
  rw [HHB.out] at hR1 ⊢
  rw [HHP.out] at hP1 ⊢
  have X0 := hide hX1
  have R0 := hide hR1
  have P0 := hide hP1
  clear hg hX1 hR1 hP1
  go_upto_region 3 with (first | (go_at_call 11; (with_reducible refine (KA.out _).mono ?_); rintro e w1 ⟨rfl, hx1⟩; have X1 := hide (X0.out.trans hx1); have R1 := hide (R0.out.ext hx1); have P1 := hide (P0.out.ext hx1); have z0 := P1.out.cell (i := 0) rfl; have z1 := P1.out.cell (i := 1) rfl; have z2 := P1.out.cell (i := 2) rfl; clear hx1) | (go_at_call 13; (with_reducible refine (KF.out _ X1.out).mono ?_); rintro e w2 ⟨v2, rfl, hx2, rfl⟩; have X2 := hide (X1.out.trans hx2); have R2 := hide (R1.out.ext hx2); have P2 := hide (P1.out.ext hx2); have y0 := R2.out.cell (i := 0) rfl; have y1 := R2.out.cell (i := 1) rfl; have y2 := P2.out.cell (i := 2) rfl; clear hx2))
  clear z0 z1 z2 KA KF hli h9 h15
  go_upto_region 4 with (go_at_call 23; (with_reducible refine (KP.out _ X2.out.keeps).mono ?_); rintro e w3 ⟨v3, rfl, hx3, A3, c3, rfl, hc3, hr3⟩; have X3 := hide (X2.out.trans hx3); have P3 := hide (P2.out.ext hx3); have H3 := hide hr3; have HC3 := hide hc3; clear hx3 hr3 hc3)
  clear y0 y1 y2 KP R2 R1 R0 P2 P1 P0 X2 X1 X0
  have hm3 : (m : Int) ≤ 301 := by have := HML.out; omega
  by_cases hbig : s ≤ 498 ∧ m < 256
  · have hs1 : (s : Int) ≤ 498 := by omega
    have hs2 : (m : Int) < 256 := by omega
    clear hbig
    go_wp2_with (go_at_call 15; (with_reducible refine (KS.out _ _ _ H3.out).mono ?_); rintro e w4 ⟨rfl, qd, rfl⟩)
    go_ret
    exact Ret.mk (X3.out.trans ((Ext.refl _).drewN _)) rfl
  · obtain ⟨p1, p2, p3, p4⟩ := HPT.out hbig
    have HQ1 : Hid (decide ((1 : Int) ≤ (q : Int)) = true) := hide (decide_eq_true (by omega))
    have HQM : Hid (decide ((q : Int) < (m : Int)) = true) := hide (decide_eq_true (by omega))
    have HQC : Hid (q ≤ c3) := hide (by have := HC3.out; omega)
    have HQL : Hid (q ≤ m) := hide (by omega)
    have T3 := hide p3
    have T4 := hide p4
    clear p1 p2 p3 p4
    have KZ := hide (fun (W : World) (hW : Ext w3 W) => KH.out W A3 c3 (H3.out.ext hW))
    have K1 := hide (fun (W : World) (hW : Keeps w3 W) => (show Calls Try.prog 13 #[.agg #[.int .u8 kind, .int .i64 0, .slice A3 q c3]] W (Ret W (Is (.bool true))) from by
      have h := rform_any (L := RP.take q) kind 0 q c3 W ((H3.out.keep hW).take q) (by rw [List.length_take, HM.out]; have := HQL.out; omega) (by have := HQL.out; have := HML.out; omega) (HSP.out.take q)
      rw [T3.out] at h
      exact h))
    have K2 := hide (fun (W : World) (hW : Keeps w3 W) => (show Calls Try.prog 13 #[.agg #[.int .u8 kind, .int .i64 0, .slice (cutA A3 c3 q) (m - q) (c3 - q)]] W (Ret W (Is (.bool true))) from by
      have h := rform_any (L := RP.drop q) kind 0 (m - q) (c3 - q) W (RdC.from (H3.out.keep hW) HM.out HC3.out q HQL.out) (by rw [List.length_drop, HM.out]) (by have := HML.out; omega) (HSP.out.drop q)
      rw [T4.out] at h
      exact h))
    have KS2 := hide (KS.out w3 A3 c3 H3.out)
    clear KH KS HPT
    by_cases hs : s ≤ 498
    all_goals first
      | (have hs1 : (s : Int) ≤ 498 := by omega
         have hs2 : ¬ (m : Int) < 256 := by omega
         clear hbig hs
         go_upto_region 7 with (first
           | (go_at_call 15; (with_reducible refine KS2.out.mono ?_); rintro e w4 ⟨rfl, qd, rfl⟩)
           | (go_at_call 27; (with_reducible refine (KZ.out _ ((Ext.refl _).drewN _)).mono ?_); rintro e w5 ⟨v5, rfl, hx5, rfl⟩; have XE0 := hide (((Ext.refl w3).drewN _).trans hx5); clear hx5)))
      | (have hs1 : ¬ (s : Int) ≤ 498 := by omega
         clear hbig hs
         go_upto_region 7 with (first
           | (go_at_call 15; (with_reducible refine KS2.out.mono ?_); rintro e w4 ⟨rfl, qd, rfl⟩)
           | (go_at_call 27; (with_reducible refine (KZ.out _ ((Ext.refl _).drewN _)).mono ?_); rintro e w5 ⟨v5, rfl, hx5, rfl⟩; have XE0 := hide (((Ext.refl w3).drewN _).trans hx5); clear hx5)))
    all_goals
      have XE := hide (X3.out.trans XE0.out)
      have RE := hide (P3.out.ext XE0.out)
      have X3E := hide XE0.out
      rename_i hKK
      refine wp_region_sp XE.out.size [
          Sp.is (.int .i64 (q : Int)),
          Sp.is (.bool true),
          Sp.is (.bool true),
          Sp.is (.int .i64 (q : Int)),
          Sp.is (.slice A3 m c3),
          Sp.is (.int .i64 (m : Int)),
          Sp.is (.bool true),
          Sp.is (.bool true),
          Sp.is (.bool true),
          Sp.is (.pointer (some ⟨hp, 0, none⟩)),
          Sp.is (.int .u8 kind),
          Sp.is (.slice A3 m c3),
          Sp.is (.int .i64 (q : Int)),
          Sp.is (.slice A3 q c3),
          Sp.is (.agg #[.int .u8 kind, .int .i64 0, .slice A3 q c3]),
          Sp.is (.bool true),
          Sp.is (.bool true),
          Sp.is (.bool true),
          Sp.is (.pointer (some ⟨hp, 0, none⟩)),
          Sp.is (.int .u8 kind),
          Sp.is (.slice A3 m c3),
          Sp.is (.int .i64 (q : Int)),
          Sp.is (.slice (cutA A3 c3 q) (m - q) (c3 - q)),
          Sp.is (.agg #[.int .u8 kind, .int .i64 0, .slice (cutA A3 c3 q) (m - q) (c3 - q)]),
          Sp.is (.bool true),
          Sp.is (.bool true),
          Sp.is (.bool true)] (by kernel_rfl) (by kernel_rfl) ?_ ?_
      · refine ⟨?_, ?_, ?_, ?_, ?_, ?_, ?_, ?_, ?_, ?_, ?_, ?_, ?_, ?_, ?_, ?_, ?_, ?_, ?_, ?_, ?_, ?_, ?_, ?_, ?_, ?_, ?_, trivial⟩
        · intro az wz hx hB hk H
          refine .inl ⟨wanted_none rfl, ?_⟩
          refine gives_move rfl ?_
          rw [(ev (show az.tmps[6]? = some (.int .i64 (q : Int)) from hk 6 rfl))]
          exact ⟨Grw.refl _ _, rfl⟩
        · intro az wz hx hB hk H
          obtain ⟨v47, h47, s47⟩ := H 0 rfl _ rfl 47 rfl
          refine .inl ⟨wanted_none rfl, ?_⟩
          refine gives_geq_int (k := .i64) (q : Int) 1 rfl (by rw [ev h47, s47]) rfl ⟨Grw.refl _ _, congrArg Value.bool HQ1.out⟩
        · intro az wz hx hB hk H
          obtain ⟨v48, h48, s48⟩ := H 1 rfl _ rfl 48 rfl
          refine .inl ⟨wanted_none rfl, ?_⟩
          refine gives_move rfl ?_
          rw [(ev h48)]
          exact ⟨Grw.refl _ _, s48⟩
        · intro az wz hx hB hk H
          obtain ⟨v49, h49, s49⟩ := H 2 rfl _ rfl 49 rfl
          have g0 : az.tmps[49]? = some (.bool true) := by rw [h49]; exact congrArg some s49
          refine .inl ⟨wanted_yes _ rfl rfl rfl g0, ?_⟩
          refine gives_move rfl ?_
          rw [(ev (show az.tmps[6]? = some (.int .i64 (q : Int)) from hk 6 rfl))]
          exact ⟨Grw.refl _ _, rfl⟩
        · intro az wz hx hB hk H
          obtain ⟨v49, h49, s49⟩ := H 2 rfl _ rfl 49 rfl
          have g0 : az.tmps[49]? = some (.bool true) := by rw [h49]; exact congrArg some s49
          refine .inl ⟨wanted_yes _ rfl rfl rfl g0, ?_⟩
          refine gives_move rfl ?_
          rw [(ev (show az.tmps[5]? = some (.slice A3 m c3) from hk 5 rfl))]
          exact ⟨Grw.refl _ _, rfl⟩
        · intro az wz hx hB hk H
          obtain ⟨v49, h49, s49⟩ := H 2 rfl _ rfl 49 rfl
          obtain ⟨v51, h51, s51⟩ := H 4 rfl _ rfl 51 rfl
          have g0 : az.tmps[49]? = some (.bool true) := by rw [h49]; exact congrArg some s49
          refine .inl ⟨wanted_yes _ rfl rfl rfl g0, ?_⟩
          refine gives_len rfl ⟨_, Try.underlying22⟩ (by rw [ev h51, s51]) ⟨Grw.refl _ _, rfl⟩
        · intro az wz hx hB hk H
          obtain ⟨v49, h49, s49⟩ := H 2 rfl _ rfl 49 rfl
          obtain ⟨v50, h50, s50⟩ := H 3 rfl _ rfl 50 rfl
          obtain ⟨v52, h52, s52⟩ := H 5 rfl _ rfl 52 rfl
          have g0 : az.tmps[49]? = some (.bool true) := by rw [h49]; exact congrArg some s49
          refine .inl ⟨wanted_yes _ rfl rfl rfl g0, ?_⟩
          refine gives_lss_int (k := .i64) (q : Int) (m : Int) rfl (by rw [ev h50, s50]) (by rw [ev h52, s52]) ⟨Grw.refl _ _, congrArg Value.bool HQM.out⟩
        · intro az wz hx hB hk H
          obtain ⟨v49, h49, s49⟩ := H 2 rfl _ rfl 49 rfl
          obtain ⟨v53, h53, s53⟩ := H 6 rfl _ rfl 53 rfl
          refine .inl ⟨wanted_none rfl, ?_⟩
          refine gives_pick true rfl ?_ ?_
          · rw [(ev h49)]
            exact s49
          · show Grw _ _ _ ∧ _
            rw [if_pos rfl, (ev h53)]
            exact ⟨Grw.refl _ _, s53⟩
        · intro az wz hx hB hk H
          obtain ⟨v54, h54, s54⟩ := H 7 rfl _ rfl 54 rfl
          refine .inl ⟨wanted_none rfl, ?_⟩
          refine gives_move rfl ?_
          rw [(ev h54)]
          exact ⟨Grw.refl _ _, s54⟩
        · intro az wz hx hB hk H
          obtain ⟨v55, h55, s55⟩ := H 8 rfl _ rfl 55 rfl
          have g0 : az.tmps[55]? = some (.bool true) := by rw [h55]; exact congrArg some s55
          refine .inl ⟨wanted_yes _ rfl rfl rfl g0, ?_⟩
          refine gives_fieldP rfl (by rw [ev (show az.tmps[2]? = some (.pointer (some ⟨hp, 0, none⟩)) from hk 2 rfl)]) (run_fieldG hp _) ?_
          exact ⟨Grw.refl _ _, rfl⟩
        · intro az wz hx hB hk H
          obtain ⟨v55, h55, s55⟩ := H 8 rfl _ rfl 55 rfl
          obtain ⟨v56, h56, s56⟩ := H 9 rfl _ rfl 56 rfl
          have g0 : az.tmps[55]? = some (.bool true) := by rw [h55]; exact congrArg some s55
          refine .inl ⟨wanted_yes _ rfl rfl rfl g0, ?_⟩
          refine gives_loadI rfl (by rw [ev h56, s56]) Try.underlying5 (hx.keeps.cell (RE.out.cell (i := 0) rfl)) ?_
          exact ⟨Grw.refl _ _, rfl⟩
        · intro az wz hx hB hk H
          obtain ⟨v55, h55, s55⟩ := H 8 rfl _ rfl 55 rfl
          have g0 : az.tmps[55]? = some (.bool true) := by rw [h55]; exact congrArg some s55
          refine .inl ⟨wanted_yes _ rfl rfl rfl g0, ?_⟩
          refine gives_move rfl ?_
          rw [(ev (show az.tmps[5]? = some (.slice A3 m c3) from hk 5 rfl))]
          exact ⟨Grw.refl _ _, rfl⟩
        · intro az wz hx hB hk H
          obtain ⟨v55, h55, s55⟩ := H 8 rfl _ rfl 55 rfl
          have g0 : az.tmps[55]? = some (.bool true) := by rw [h55]; exact congrArg some s55
          refine .inl ⟨wanted_yes _ rfl rfl rfl g0, ?_⟩
          refine gives_move rfl ?_
          rw [(ev (show az.tmps[6]? = some (.int .i64 (q : Int)) from hk 6 rfl))]
          exact ⟨Grw.refl _ _, rfl⟩
        · intro az wz hx hB hk H
          obtain ⟨v55, h55, s55⟩ := H 8 rfl _ rfl 55 rfl
          obtain ⟨v58, h58, s58⟩ := H 11 rfl _ rfl 58 rfl
          obtain ⟨v59, h59, s59⟩ := H 12 rfl _ rfl 59 rfl
          have g0 : az.tmps[55]? = some (.bool true) := by rw [h55]; exact congrArg some s55
          refine .inl ⟨wanted_yes _ rfl rfl rfl g0, ?_⟩
          refine gives_cut rfl Try.underlying22 (by kernel_rfl) (by rw [ev h58, s58]) (by rw [ev h59, s59]) HQC.out ⟨Grw.refl _ _, rfl⟩
        · intro az wz hx hB hk H
          obtain ⟨v55, h55, s55⟩ := H 8 rfl _ rfl 55 rfl
          obtain ⟨v57, h57, s57⟩ := H 10 rfl _ rfl 57 rfl
          obtain ⟨v60, h60, s60⟩ := H 13 rfl _ rfl 60 rfl
          have g0 : az.tmps[55]? = some (.bool true) := by rw [h55]; exact congrArg some s55
          refine .inl ⟨wanted_yes _ rfl rfl rfl g0, ?_⟩
          refine gives_build rfl _ [(0, .int .u8 kind), (2, .slice A3 q c3)] (by simp only [List.map_cons, List.map_nil, ev h57, ev h60]; rw [s57, s60]) (built_page _ _ _ _) ?_
          exact ⟨Grw.refl _ _, rfl⟩
        · intro az wz hx hB hk H
          obtain ⟨v55, h55, s55⟩ := H 8 rfl _ rfl 55 rfl
          obtain ⟨v61, h61, s61⟩ := H 14 rfl _ rfl 61 rfl
          have g0 : az.tmps[55]? = some (.bool true) := by rw [h55]; exact congrArg some s55
          refine .inl ⟨wanted_yes _ rfl rfl rfl g0, ?_⟩
          refine gives_call rfl Try.call13 (by simp only [List.map_toArray, List.map_cons, List.map_nil, ev h61]; rw [s61]) ?_
          exact (K1.out wz (X3E.out.keeps.trans hx.keeps)).mono fun _ _ h => h.grw hB
        · intro az wz hx hB hk H
          obtain ⟨v55, h55, s55⟩ := H 8 rfl _ rfl 55 rfl
          obtain ⟨v62, h62, s62⟩ := H 15 rfl _ rfl 62 rfl
          refine .inl ⟨wanted_none rfl, ?_⟩
          refine gives_pick true rfl ?_ ?_
          · rw [(ev h55)]
            exact s55
          · show Grw _ _ _ ∧ _
            rw [if_pos rfl, (ev h62)]
            exact ⟨Grw.refl _ _, s62⟩
        · intro az wz hx hB hk H
          obtain ⟨v63, h63, s63⟩ := H 16 rfl _ rfl 63 rfl
          refine .inl ⟨wanted_none rfl, ?_⟩
          refine gives_move rfl ?_
          rw [(ev h63)]
          exact ⟨Grw.refl _ _, s63⟩
        · intro az wz hx hB hk H
          obtain ⟨v64, h64, s64⟩ := H 17 rfl _ rfl 64 rfl
          have g0 : az.tmps[64]? = some (.bool true) := by rw [h64]; exact congrArg some s64
          refine .inl ⟨wanted_yes _ rfl rfl rfl g0, ?_⟩
          refine gives_fieldP rfl (by rw [ev (show az.tmps[2]? = some (.pointer (some ⟨hp, 0, none⟩)) from hk 2 rfl)]) (run_fieldG hp _) ?_
          exact ⟨Grw.refl _ _, rfl⟩
        · intro az wz hx hB hk H
          obtain ⟨v64, h64, s64⟩ := H 17 rfl _ rfl 64 rfl
          obtain ⟨v65, h65, s65⟩ := H 18 rfl _ rfl 65 rfl
          have g0 : az.tmps[64]? = some (.bool true) := by rw [h64]; exact congrArg some s64
          refine .inl ⟨wanted_yes _ rfl rfl rfl g0, ?_⟩
          refine gives_loadI rfl (by rw [ev h65, s65]) Try.underlying5 (hx.keeps.cell (RE.out.cell (i := 0) rfl)) ?_
          exact ⟨Grw.refl _ _, rfl⟩
        · intro az wz hx hB hk H
          obtain ⟨v64, h64, s64⟩ := H 17 rfl _ rfl 64 rfl
          have g0 : az.tmps[64]? = some (.bool true) := by rw [h64]; exact congrArg some s64
          refine .inl ⟨wanted_yes _ rfl rfl rfl g0, ?_⟩
          refine gives_move rfl ?_
          rw [(ev (show az.tmps[5]? = some (.slice A3 m c3) from hk 5 rfl))]
          exact ⟨Grw.refl _ _, rfl⟩
        · intro az wz hx hB hk H
          obtain ⟨v64, h64, s64⟩ := H 17 rfl _ rfl 64 rfl
          have g0 : az.tmps[64]? = some (.bool true) := by rw [h64]; exact congrArg some s64
          refine .inl ⟨wanted_yes _ rfl rfl rfl g0, ?_⟩
          refine gives_move rfl ?_
          rw [(ev (show az.tmps[6]? = some (.int .i64 (q : Int)) from hk 6 rfl))]
          exact ⟨Grw.refl _ _, rfl⟩
        · intro az wz hx hB hk H
          obtain ⟨v64, h64, s64⟩ := H 17 rfl _ rfl 64 rfl
          obtain ⟨v67, h67, s67⟩ := H 20 rfl _ rfl 67 rfl
          obtain ⟨v68, h68, s68⟩ := H 21 rfl _ rfl 68 rfl
          have g0 : az.tmps[64]? = some (.bool true) := by rw [h64]; exact congrArg some s64
          refine .inl ⟨wanted_yes _ rfl rfl rfl g0, ?_⟩
          refine gives_from rfl (by rw [ev h67, s67]) (by rw [ev h68, s68]) (run_from A3 m c3 q HQL.out _) ⟨Grw.refl _ _, rfl⟩
        · intro az wz hx hB hk H
          obtain ⟨v64, h64, s64⟩ := H 17 rfl _ rfl 64 rfl
          obtain ⟨v66, h66, s66⟩ := H 19 rfl _ rfl 66 rfl
          obtain ⟨v69, h69, s69⟩ := H 22 rfl _ rfl 69 rfl
          have g0 : az.tmps[64]? = some (.bool true) := by rw [h64]; exact congrArg some s64
          refine .inl ⟨wanted_yes _ rfl rfl rfl g0, ?_⟩
          refine gives_build rfl _ [(0, .int .u8 kind), (2, .slice (cutA A3 c3 q) (m - q) (c3 - q))] (by simp only [List.map_cons, List.map_nil, ev h66, ev h69]; rw [s66, s69]) (built_page _ _ _ _) ?_
          exact ⟨Grw.refl _ _, rfl⟩
        · intro az wz hx hB hk H
          obtain ⟨v64, h64, s64⟩ := H 17 rfl _ rfl 64 rfl
          obtain ⟨v70, h70, s70⟩ := H 23 rfl _ rfl 70 rfl
          have g0 : az.tmps[64]? = some (.bool true) := by rw [h64]; exact congrArg some s64
          refine .inl ⟨wanted_yes _ rfl rfl rfl g0, ?_⟩
          refine gives_call rfl Try.call13 (by simp only [List.map_toArray, List.map_cons, List.map_nil, ev h70]; rw [s70]) ?_
          exact (K2.out wz (X3E.out.keeps.trans hx.keeps)).mono fun _ _ h => h.grw hB
        · intro az wz hx hB hk H
          obtain ⟨v64, h64, s64⟩ := H 17 rfl _ rfl 64 rfl
          obtain ⟨v71, h71, s71⟩ := H 24 rfl _ rfl 71 rfl
          refine .inl ⟨wanted_none rfl, ?_⟩
          refine gives_pick true rfl ?_ ?_
          · rw [(ev h64)]
            exact s64
          · show Grw _ _ _ ∧ _
            rw [if_pos rfl, (ev h71)]
            exact ⟨Grw.refl _ _, s71⟩
        · intro az wz hx hB hk H
          obtain ⟨v72, h72, s72⟩ := H 25 rfl _ rfl 72 rfl
          refine .inl ⟨wanted_none rfl, ?_⟩
          refine gives_assign rfl ?_
          rw [(ev h72)]
          exact ⟨Grw.refl _ _, s72⟩
      · intro az wz hx hd hs hv hsame
        obtain ⟨v, hv4, s4⟩ := hv 26 _ 4 rfl rfl
        obtain rfl : v = .bool true := s4
        refine hKK _ _ ?_
        refine wp_ret ?_
        refine bodyPost_ret (results_tmp rfl _ _ _) hd ?_
        refine ⟨_, rfl, XE.out.grw hx, ?_⟩
        simp [Is, hv4]
theorem pageFits_walk (A A1 A2 : Option Addr) (kind next : Int) (c c1 c2 : Nat) (L : List Cl) (x : Cl) (w : World) (hr : RdC w A L) (h1 : Rd w A1 x.1) (h2 : Rd w A2 x.2) (hc1 : x.1.length ≤ c1) (hc2 : x.2.length ≤ c2) (hnc : L.length ≤ c) (hS : Small L) :
    Calls Try.prog 7 #[.agg #[.int .u8 kind, .int .i64 next, .slice A L.length c], .agg #[.slice A1 x.1.length c1, .slice A2 x.2.length c2]] w (Ret w (Is (.bool true))) := by
  by_cases hl : 300 < L.length
  · exact pageFits_long A A1 A2 kind next _ c _ _ c1 c2 L w hr rfl hS hl
  cases hf : formB kind next L with
  | false => exact pageFits_no A A1 A2 kind next _ c _ _ c1 c2 L w hr rfl hS (by omega) hf
  | true =>
    by_cases h90 : 90 < x.1.length
    · exact pageFits_key A A1 A2 kind next _ c _ _ c1 c2 L w hr rfl hS (by omega) hf h90
    by_cases h150 : 150 < x.2.length
    · exact pageFits_value A A1 A2 kind next _ c _ _ c1 c2 L w hr rfl hS (by omega) hf (by omega) h150
    · exact pageFits_main A A1 A2 kind next _ c _ _ c1 c2 L w hr rfl hS x h1 h2 rfl rfl hc1 hc2 hnc (by omega) hf (by omega) (by omega)
end Go.Proofs.Ytmamhinpkioogaa
