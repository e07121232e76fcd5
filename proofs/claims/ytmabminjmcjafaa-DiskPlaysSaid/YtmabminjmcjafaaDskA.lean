/-
  The disk's small functions: contracts.
-/
import Derived.Test.YtmabminjmcjafaaDskM
import Derived.Deep.Cut
import Derived.Deep.CutRange
namespace Go.Proofs.Ytmabminjmcjafaa
open Go.RowKit

section
variable {B g gd gn c : Nat} {w : World} {A : Option Addr} {D : Dk}
theorem disk_cells (h : DiskAt B w g gd gn A c D) : w.cell? ⟨g, 0, none⟩ = some (.slice (some ⟨gd, 0, none⟩) D.dur.length D.dur.length) ∧ w.cell? ⟨g, 1, none⟩ = some (.slice A D.pen.length c) ∧ w.cell? ⟨g, 2, none⟩ = some (.slice (some ⟨gn, 0, none⟩) D.dur.length D.dur.length) ∧
    w.cell? ⟨g, 3, none⟩ = some (.int .i64 (D.ops : Int)) ∧ w.cell? ⟨g, 4, none⟩ = some (.int .i64 (D.arm : Int)) ∧ w.cell? ⟨g, 5, none⟩ = some (.bool D.off) :=
  ⟨h.blk.cell (i := 0) rfl, h.blk.cell (i := 1) rfl, h.blk.cell (i := 2) rfl, h.blk.cell (i := 3) rfl, h.blk.cell (i := 4) rfl, h.blk.cell (i := 5) rfl⟩
/-- Nothing has turned. -/
def Same (w : World) (r : Value) (e : Ending) (w' : World) : Prop := e = .returned r ∧ w = w'
set_option maxHeartbeats 800000 in
theorem has_any (h : DiskAt B w g gd gn A c D) (i : Int) : Calls Try.prog 28 #[.pointer (some ⟨g, 0, none⟩), .int .i64 i] w (Same w (.bool (decide (0 ≤ i) && decide (i < (D.dur.length : Int))))) := by
  obtain ⟨c0, -⟩ := disk_cells h
  obtain ⟨n, HN⟩ : ∃ n, Hid (D.dur.length = n) := ⟨_, hide rfl⟩
  rw [HN.out] at c0 ⊢
  clear h
  by_cases h0 : 0 ≤ i
  · by_cases h1 : i < (n : Int)
    · go_enter Try.func28, Try.ntmps28
      go_wp2
      go_ret
      exact ⟨by simp [h0, h1], rfl⟩
    · go_enter Try.func28, Try.ntmps28
      go_wp2
      go_ret
      exact ⟨by simp [h0, h1], rfl⟩
  · go_enter Try.func28, Try.ntmps28
    go_wp2
    go_ret
    exact ⟨by simp; omega, rfl⟩
/-- One operation. -/
def Dk.op (D : Dk) : Dk := { D with ops := D.ops + 1, arm := D.arm - 1, off := D.off || decide (D.arm = 1) }
def Dk.opE (D : Dk) : Int := if D.arm = 1 then 8 else 0
set_option maxRecDepth 20000 in
set_option maxHeartbeats 1600000 in
theorem operate_any (h : DiskAt B w g gd gn A c D) (ho : D.ops < 1000000000) (ha : D.arm < 9223372036854775808) : Calls Try.prog 29 #[.pointer (some ⟨g, 0, none⟩)] w (DPost B g gd gn w A (.int .i64 D.opE) D.op) := by
  obtain ⟨-, -, -, c3, c4, c5⟩ := disk_cells h
  have f3 := h.blk.frozen 3
  have h1 := h.put 3 (.int .i64 ((D.ops : Int) + 1)) { D with ops := D.ops + 1 } rfl rfl rfl
  have f4 := h1.blk.frozen 4
  obtain ⟨-, -, -, -, d4, d5⟩ := disk_cells h1
  simp only at d4 d5
  by_cases h0 : D.arm = 0
  · have HL : Hid (DiskAt B (w.setCell ⟨g, 3, none⟩ (.int .i64 ((D.ops : Int) + 1))) g gd gn A c D.op) := by
      have e : D.op = { D with ops := D.ops + 1 } := by unfold Dk.op; simp [h0]
      rw [e]; exact h1
    have HE : Hid (D.opE = 0) := by unfold Dk.opE; rw [if_neg (by omega)]; exact hide rfl
    rw [HE.out]
    rw [h0] at d4 c4
    generalize D.op = D' at *
    generalize D.ops = q at *
    have hq : (q : Int) < 1000000000 := by omega
    clear h h1 h0 ha
    go_enter Try.func29, Try.ntmps29
    go_wp2
    go_ret
    exact ⟨A, c, rfl, HL.out, Dfr.cell 3 _, Newer.refl _ _⟩
  · by_cases h3 : D.arm = 1
    · have h2 := h1.put 4 (.int .i64 0) { D with ops := D.ops + 1, arm := 0 } rfl rfl rfl
      have f5 := h2.blk.frozen 5
      obtain ⟨-, -, -, -, e4, e5⟩ := disk_cells h2
      have h4 := h2.put 5 (.bool true) D.op rfl rfl (by
        unfold Dk.op diskC
        simp [h3])
      have HL := hide h4
      have HE : Hid (D.opE = 8) := by unfold Dk.opE; rw [if_pos h3]; exact hide rfl
      have k4 : w.cell? ⟨g, 4, none⟩ = some (.int .i64 1) := by rw [c4, h3]; rfl
      have l4 : (w.setCell ⟨g, 3, none⟩ (.int .i64 ((D.ops : Int) + 1))).cell? ⟨g, 4, none⟩ = some (.int .i64 1) := by rw [d4, h3]; rfl
      have m4 : ((w.setCell ⟨g, 3, none⟩ (.int .i64 ((D.ops : Int) + 1))).setCell ⟨g, 4, none⟩ (.int .i64 0)).cell? ⟨g, 4, none⟩ = some (.int .i64 0) := e4
      rw [HE.out]
      generalize D.op = D' at *
      generalize D.ops = q at *
      have hq : (q : Int) < 1000000000 := by omega
      clear h h1 h2 h4 h0 h3 ha c4 d4 e4
      go_enter Try.func29, Try.ntmps29
      go_wp2
      go_ret
      exact ⟨A, c, rfl, HL.out, ((Dfr.cell 3 _).trans (Dfr.cell 4 _) (Newer.refl _ _)).trans (Dfr.cell 5 _) (Newer.refl _ _), Newer.refl _ _⟩
    · have h2 := h1.put 4 (.int .i64 ((D.arm : Int) - 1)) { D with ops := D.ops + 1, arm := D.arm - 1 } rfl rfl (by
        unfold diskC
        simp only [List.set_cons_succ, List.set_cons_zero]
        rw [show ((D.arm - 1 : Nat) : Int) = (D.arm : Int) - 1 by omega])
      have f5 := h2.blk.frozen 5
      obtain ⟨-, -, -, -, e4, e5⟩ := disk_cells h2
      simp only at e4 e5
      rw [show ((D.arm - 1 : Nat) : Int) = (D.arm : Int) - 1 by omega] at e4
      have HL : Hid (DiskAt B ((w.setCell ⟨g, 3, none⟩ (.int .i64 ((D.ops : Int) + 1))).setCell ⟨g, 4, none⟩ (.int .i64 ((D.arm : Int) - 1))) g gd gn A c D.op) := by
        have e : D.op = { D with ops := D.ops + 1, arm := D.arm - 1 } := by unfold Dk.op; simp [h3]
        rw [e]; exact h2
      have HE : Hid (D.opE = 0) := by unfold Dk.opE; rw [if_neg h3]; exact hide rfl
      rw [HE.out]
      generalize D.op = D' at *
      generalize D.ops = q at *
      generalize D.arm = m at *
      have hq : (q : Int) < 1000000000 := by omega
      have hm1 : ((m : Int) == 0) = false := by simpa using h0
      have hm2 : (0 : Int) < (m : Int) - 1 := by omega
      have hm4 : IntKind.i64.wrap ((m : Int) - 1) = (m : Int) - 1 := by rw [IntKind.wrap_i64]; omega
      have hm5 : (2 : Int) ≤ (m : Int) := by omega
      clear h h1 h2 h0 h3 ha
      go_enter Try.func29, Try.ntmps29
      have HM := hide (show (1 : Int) < (m : Int) by omega)
      go_upto_region 5 with (fail)
      clear hm1 hm2 hm5 hm4 hq ho c4 c3 c5 d5 f3 f4 d4
      have hm2 := HM.out
      go_wp2
      go_ret
      exact ⟨A, c, rfl, HL.out, (Dfr.cell 3 _).trans (Dfr.cell 4 _) (Newer.refl _ _), Newer.refl _ _⟩
end
end Go.Proofs.Ytmabminjmcjafaa
