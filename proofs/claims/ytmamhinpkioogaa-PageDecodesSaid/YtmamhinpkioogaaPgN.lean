/-
  Form: contract.
-/
import Derived.Test.YtmamhinpkioogaaPgL
namespace Go.Proofs.Ytmamhinpkioogaa
open Go.RowKit

def formB (kind next : Int) (L : List Cl) : Bool := decide (kind ≤ 3) && decide (0 ≤ next) && decide (next < 4096) && decide (szs L ≤ 498) && fitB L
set_option maxRecDepth 20000 in
set_option maxHeartbeats 3200000 in
theorem form_any {A : Option Addr} {L : List Cl} (kind next : Int) (n c : Nat) (w : World) (hr : RdC w A L) (hn : L.length = n) (hl : n ≤ 1000) (hS : Small L) :
    Calls Try.prog 12 #[.agg #[.int .u8 kind, .int .i64 next, .slice A n c]] w (Ret w (Is (.bool (formB kind next L)))) := by
  have HR := hide hr
  have KS := hide (fun (W : World) (hW : Ext w W) => (show Calls Try.prog 14 #[.slice A n c] W (Ret W (Is (.int .i64 (szs L : Int)))) from by
    have := size_any A c L W (hr.ext hW) hS (by omega)
    rw [hn] at this
    exact this))
  have KF := hide (fun (W : World) (hW : Ext w W) => cellsFit_any n c W (hr.ext hW) hn (by omega))
  obtain ⟨s, HS⟩ : ∃ s, Hid (szs L = s) := ⟨_, hide rfl⟩
  obtain ⟨fb, HF⟩ : ∃ fb, Hid (fitB L = fb) := ⟨_, hide rfl⟩
  obtain ⟨r, HFB⟩ : ∃ r, Hid ((decide (kind ≤ 3) && decide (0 ≤ next) && decide (next < 4096) && decide (s ≤ 498) && fb) = r) := ⟨_, hide rfl⟩
  unfold formB
  rw [HS.out, HF.out, HFB.out]
  rw [HS.out] at KS
  rw [HF.out] at KF
  clear hr hn hl hS HR
  by_cases h1 : kind ≤ 3
  · by_cases h2 : 0 ≤ next
    · by_cases h3 : next < 4096
      · by_cases h4 : s ≤ 498
        · have h4i : (s : Int) ≤ 498 := by omega
          have HRR : Hid (r = fb) := hide (by rw [← HFB.out]; simp [h1, h2, h3, h4])
          clear HFB h4
          go_enter Try.func12, Try.ntmps12
          go_upto_region 1 with fail
          obtain ⟨W1, hX1, hR1, hg⟩ : ∃ W1, Ext w W1 ∧ Rw W1 w.heap.size 24 [.int .u8 kind, .int .i64 next, .slice A n c] ∧ w.alloc (.cells #[.int .u8 kind, .int .i64 next, .slice A n c] 24) = W1 := ⟨_, Ext.alloc _ _, Rw.new _ _ _, rfl⟩
          rw [hg]
          clear hg
          have z0 := hR1.cell (i := 0) rfl
          have z1 := hR1.cell (i := 1) rfl
          have z2 := hR1.cell (i := 2) rfl
          have X1 := hide hX1
          have R1 := hide hR1
          clear hX1 hR1
          go_wp2_with (first
            | (go_at_call 14; (with_reducible refine (KS.out _ X1.out).mono ?_); rintro e w2 ⟨v2, rfl, hx2, rfl⟩; have X2 := hide (X1.out.trans hx2); have y2 := (R1.out.ext hx2).cell (i := 2) rfl; clear hx2)
            | (go_at_call 29; (with_reducible refine (KF.out _ X2.out).mono ?_); rintro e w3 ⟨v3, rfl, hx3, rfl⟩; have X3 := hide (X2.out.trans hx3); clear hx3))
          go_ret
          exact Ret.mk X3.out (by rw [HRR.out]; rfl)
        · have h4i : ¬ (s : Int) ≤ 498 := by omega
          have HRR : Hid (r = false) := hide (by rw [← HFB.out]; simp [h1, h2, h3, h4])
          clear HFB h4
          go_enter Try.func12, Try.ntmps12
          go_upto_region 1 with fail
          obtain ⟨W1, hX1, hR1, hg⟩ : ∃ W1, Ext w W1 ∧ Rw W1 w.heap.size 24 [.int .u8 kind, .int .i64 next, .slice A n c] ∧ w.alloc (.cells #[.int .u8 kind, .int .i64 next, .slice A n c] 24) = W1 := ⟨_, Ext.alloc _ _, Rw.new _ _ _, rfl⟩
          rw [hg]
          clear hg
          have z0 := hR1.cell (i := 0) rfl
          have z1 := hR1.cell (i := 1) rfl
          have z2 := hR1.cell (i := 2) rfl
          have X1 := hide hX1
          clear hX1 hR1
          go_wp2_with (go_at_call 14; (with_reducible refine (KS.out _ X1.out).mono ?_); rintro e w2 ⟨v2, rfl, hx2, rfl⟩; have X2 := hide (X1.out.trans hx2); clear hx2)
          go_ret
          exact Ret.mk X2.out (by rw [HRR.out]; rfl)
      · have HRR : Hid (r = false) := hide (by rw [← HFB.out]; simp [h1, h2, h3])
        clear HFB
        go_enter Try.func12, Try.ntmps12
        go_wp2
        go_ret
        exact Ret.mk (Ext.alloc _ _) (by rw [HRR.out]; rfl)
    · have HRR : Hid (r = false) := hide (by rw [← HFB.out]; simp [h1, h2])
      clear HFB
      go_enter Try.func12, Try.ntmps12
      go_wp2
      go_ret
      exact Ret.mk (Ext.alloc _ _) (by rw [HRR.out]; rfl)
  · have HRR : Hid (r = false) := hide (by rw [← HFB.out]; simp [h1])
    clear HFB
    go_enter Try.func12, Try.ntmps12
    go_wp2
    go_ret
    exact Ret.mk (Ext.alloc _ _) (by rw [HRR.out]; rfl)
end Go.Proofs.Ytmamhinpkioogaa
