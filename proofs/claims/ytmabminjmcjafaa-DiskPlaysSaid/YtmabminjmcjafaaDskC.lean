/-
  The disk's Sync, Arm and what it tells of itself: contracts.
-/
import Derived.Test.YtmabminjmcjafaaDskY
namespace Go.Proofs.Ytmabminjmcjafaa
open Go.RowKit

theorem kept_all (k : Nat) (W : World) : Calls Try.prog 30 #[.int .i64 (k : Int)] W (Same W (.bool true)) := by
  go_enter Try.func30, Try.ntmps30
  go_wp2
  go_ret
  exact ⟨rfl, rfl⟩
theorem Dk.op_ok {D : Dk} (ok : D.Ok) : D.op.Ok := ⟨ok.pos, ok.max, ok.dur, ok.pen⟩
section
variable {B g gd gn c : Nat} {w : World} {A : Option Addr} {D : Dk}
set_option maxRecDepth 20000 in
set_option maxHeartbeats 1600000 in
theorem sync_any (h : DiskAt B w g gd gn A c D) (ok : D.Ok) (hoff : D.off = false) (ha1 : D.arm ≠ 1) (ha : D.arm < 9223372036854775808) (hf : D.pen.length < 1000000) (ho : D.ops < 1000000) (hB : B ≤ w.heap.size) :
    Calls Try.prog 22 #[.pointer (some ⟨g, 0, none⟩)] w (DPost B g gd gn w A (.int .i64 0) (D.op.settled fun _ => true)) := by
  obtain ⟨-, -, -, -, -, c5⟩ := disk_cells h
  rw [hoff] at c5
  have KO := operate_any h (by omega) ha
  rw [show D.opE = 0 from by unfold Dk.opE; rw [if_neg ha1]] at KO
  have HKO := hide KO
  have KS : Hid (∀ (w2 : World) (A2 : Option Addr) (c2 : Nat), DiskAt B w2 g gd gn A2 c2 D.op → B ≤ w2.heap.size → Calls Try.prog 26 #[.pointer (some ⟨g, 0, none⟩), .func (.func 30) #[] #[]] w2 (DPost B g gd gn w2 A2 (.tuple #[]) (D.op.settled fun _ => true))) :=
    hide fun w2 A2 c2 h2 hB2 => settleY_any (fun _ => true) h2 (Dk.op_ok ok) hf hB2 (fun k W _ _ => kept_all k W)
  have HB := hide hB
  clear KO h ok hoff ha1 ha hf ho hB
  go_enter Try.func22, Try.ntmps22
  go_wp2_with (first
    | (go_at_call 29; (with_reducible refine HKO.out.mono ?_); rintro e w2 ⟨A2, c2, rfl, hd2, hf2, hn2⟩; have H2 := hide hd2; have F2 := hide hf2; have N2 := hide hn2; have B2 := hide (Nat.le_trans HB.out hf2.size); clear hd2 hf2 hn2)
    | (go_at_call 26; (with_reducible refine (KS.out _ _ _ H2.out B2.out).mono ?_); rintro e w3 ⟨A3, c3, rfl, hd3, hf3, hn3⟩; have H3 := hide hd3; have F3 := hide hf3; have N3 := hide hn3; clear hd3 hf3 hn3))
  go_ret
  exact ⟨A3, c3, rfl, H3.out, F2.out.trans F3.out N2.out, Newer.trans N2.out N3.out F2.out.size⟩
set_option maxRecDepth 20000 in
set_option maxHeartbeats 1600000 in
theorem sync_fall (h : DiskAt B w g gd gn A c D) (hoff : D.off = false) (ha1 : D.arm = 1) (ho : D.ops < 1000000) :
    Calls Try.prog 22 #[.pointer (some ⟨g, 0, none⟩)] w (DPost B g gd gn w A (.int .i64 8) D.op) := by
  obtain ⟨-, -, -, -, -, c5⟩ := disk_cells h
  rw [hoff] at c5
  have KO := operate_any h (by omega) (by omega)
  rw [show D.opE = 8 from by unfold Dk.opE; rw [if_pos ha1]] at KO
  have HKO := hide KO
  clear KO h hoff ha1 ho
  go_enter Try.func22, Try.ntmps22
  go_wp2_with (go_at_call 29; (with_reducible refine HKO.out.mono ?_); rintro e w2 ⟨A2, c2, rfl, hd2, hf2, hn2⟩; have H2 := hide hd2; have F2 := hide hf2; have N2 := hide hn2; clear hd2 hf2 hn2)
  go_ret
  exact ⟨A2, c2, rfl, H2.out, F2.out, N2.out⟩
theorem sync_off (h : DiskAt B w g gd gn A c D) (hoff : D.off = true) : Calls Try.prog 22 #[.pointer (some ⟨g, 0, none⟩)] w (Same w (.int .i64 8)) := by
  obtain ⟨-, -, -, -, -, c5⟩ := disk_cells h
  rw [hoff] at c5
  clear h hoff
  go_enter Try.func22, Try.ntmps22
  go_wp2
  go_ret
  exact ⟨rfl, rfl⟩
theorem arm_any (h : DiskAt B w g gd gn A c D) (n : Nat) : Calls Try.prog 23 #[.pointer (some ⟨g, 0, none⟩), .int .i64 (n : Int)] w (DPost B g gd gn w A (.int .i64 0) { D with arm := n }) := by
  obtain ⟨-, -, -, -, c4, -⟩ := disk_cells h
  have f4 := h.blk.frozen 4
  have H := hide (h.put 4 (.int .i64 (n : Int)) { D with arm := n } rfl rfl rfl)
  have hn : ¬ (n : Int) < 0 := by omega
  clear h
  go_enter Try.func23, Try.ntmps23
  go_wp2
  go_ret
  exact ⟨A, c, rfl, H.out, Dfr.cell 4 _, Newer.refl _ _⟩
theorem len_any (h : DiskAt B w g gd gn A c D) : Calls Try.prog 10 #[.pointer (some ⟨g, 0, none⟩)] w (Same w (.int .i64 (D.dur.length : Int))) := by
  obtain ⟨c0, -⟩ := disk_cells h
  clear h
  go_enter Try.func10, Try.ntmps10
  go_wp2
  go_ret
  exact ⟨rfl, rfl⟩
theorem pending_any (h : DiskAt B w g gd gn A c D) : Calls Try.prog 13 #[.pointer (some ⟨g, 0, none⟩)] w (Same w (.int .i64 (D.pen.length : Int))) := by
  obtain ⟨-, c1, -⟩ := disk_cells h
  clear h
  go_enter Try.func13, Try.ntmps13
  go_wp2
  go_ret
  exact ⟨rfl, rfl⟩
theorem ops_any (h : DiskAt B w g gd gn A c D) : Calls Try.prog 14 #[.pointer (some ⟨g, 0, none⟩)] w (Same w (.int .i64 (D.ops : Int))) := by
  obtain ⟨-, -, -, c3, -⟩ := disk_cells h
  clear h
  go_enter Try.func14, Try.ntmps14
  go_wp2
  go_ret
  exact ⟨rfl, rfl⟩
theorem on_any (h : DiskAt B w g gd gn A c D) : Calls Try.prog 15 #[.pointer (some ⟨g, 0, none⟩)] w (Same w (.bool (!D.off))) := by
  obtain ⟨-, -, -, -, -, c5⟩ := disk_cells h
  clear h
  obtain ⟨b, hb⟩ : ∃ b, D.off = b := ⟨_, rfl⟩
  rw [hb] at c5 ⊢
  cases b
  all_goals
    go_enter Try.func15, Try.ntmps15
    go_wp2
    go_ret
    exact ⟨rfl, rfl⟩
end
end Go.Proofs.Ytmabminjmcjafaa
