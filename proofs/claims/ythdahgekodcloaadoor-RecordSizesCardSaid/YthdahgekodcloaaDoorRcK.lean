/-
  The dirty pages of a record: checkFits.
-/
import Derived.Test.YthdahgekodcloaaDoorRcF
namespace Go.Proofs.YthdahgekodcloaaDoor
open Go.RowKit

def chkN (L : List (Int × Int)) (nd : Nat) (op x : Bool) : Bool := if x then decide (nd ≤ 64) && risB (-1) L else (nd == 0) && !op
def LastP (L : List (Int × Int)) (i : Nat) (last : Int) : Prop := (i = 0 ∧ last = -1) ∨ (0 < i ∧ 0 ≤ last ∧ ∃ e, L[i - 1]? = some e ∧ e.1 = last)
theorem risB_at {L : List (Int × Int)} {i : Nat} {d : Int × Int} (h : L[i]? = some d) (last : Int) : risB last (L.drop i) = (decide (last < d.1) && (decide (d.1 < 4096) && risB d.1 (L.drop (i + 1)))) := by
  obtain ⟨hl, he⟩ := List.getElem?_eq_some_iff.1 h
  rw [List.drop_eq_getElem_cons hl, he]
  rfl
set_option maxRecDepth 20000 in
set_option maxHeartbeats 3200000 in
theorem checkFits_any (k tx pv pg off nx : Int) (A B D : Option Addr) (nb a na b' nd d : Nat) (op : Bool) (p c b n x : Bool) (w : World) (L : List (Int × Int)) (hr : RdD w D L) (hn : L.length = nd) (hnd : nd ≤ 140737488351232) :
    Calls Tryd.prog 18 #[.agg #[.int .u8 k, .int .u64 tx, .int .u64 pv, .int .i64 pg, .int .i64 off, .slice A nb a, .slice B na b', .int .u64 nx, .slice D nd d, .bool op], .agg #[.bool p, .bool c, .bool b, .bool n, .bool x]] w (RetB w (chkN L nd op x)) := by
  have HR := hide hr
  have HN := hide hn
  clear hr hn
  cases x with
  | false =>
    by_cases h0 : nd = 0
    · have yh0 : ((nd : Int) == 0) = true := by simp [h0]
      by_cases h1 : op = false
      · subst h1
        have HV : chkN L nd false false = true := by simp [chkN, h0]
        rw [HV]
        clear HV
        go_enter Tryd.func18, Tryd.ntmps18
        go_wp2
        go_ret
        exact ⟨rfl, (Ext.alloc _ _).trans (Ext.alloc _ _)⟩
      · have h1 : op = true := by simpa using h1
        subst h1
        have HV : chkN L nd true false = false := by simp [chkN, h0]
        rw [HV]
        clear HV
        go_enter Tryd.func18, Tryd.ntmps18
        go_wp2
        go_ret
        exact ⟨rfl, (Ext.alloc _ _).trans (Ext.alloc _ _)⟩
    · have yh0 : ((nd : Int) == 0) = false := by simp [h0]
      have HV : chkN L nd op false = false := by simp [chkN, h0]
      rw [HV]
      clear HV
      go_enter Tryd.func18, Tryd.ntmps18
      go_wp2
      go_ret
      exact ⟨rfl, (Ext.alloc _ _).trans (Ext.alloc _ _)⟩
  | true =>
    by_cases h0 : nd ≤ 64
    · have h0i : ¬ (64 : Int) < (nd : Int) := by omega
      have HV : chkN L nd op true = risB (-1) L := by simp [chkN, h0]
      rw [HV]
      clear HV
      go_enter Tryd.func18, Tryd.ntmps18
      go_upto_region 6 with fail
      obtain ⟨W1, hX1, hR1, hg⟩ : ∃ W1, Ext w W1 ∧ Rw W1 w.heap.size 26 [.int .u8 k, .int .u64 tx, .int .u64 pv, .int .i64 pg, .int .i64 off, .slice A nb a, .slice B na b', .int .u64 nx, .slice D nd d, .bool op] ∧ (w.alloc (.cells #[.int .u8 k, .int .u64 tx, .int .u64 pv, .int .i64 pg, .int .i64 off, .slice A nb a, .slice B na b', .int .u64 nx, .slice D nd d, .bool op] 26)).alloc (.cells #[.bool p, .bool c, .bool b, .bool n, .bool true] 42) = W1 := ⟨_, (Ext.alloc _ _).trans (Ext.alloc _ _), (Rw.new w 26 [.int .u8 k, .int .u64 tx, .int .u64 pv, .int .i64 pg, .int .i64 off, .slice A nb a, .slice B na b', .int .u64 nx, .slice D nd d, .bool op]).ext (Ext.alloc _ _), rfl⟩
      rw [hg]
      obtain ⟨hb, HHB⟩ : ∃ hb, Hid (w.heap.size = hb) := ⟨_, hide rfl⟩
      rw [HHB.out] at hR1
      try rw [HHB.out]
      have X1 := hide hX1
      have R1 := hide hR1
      clear hg hX1 hR1
      go_loopw [26] (fun iv wr => ∃ (i : Nat) (last : Int), i ≤ nd ∧ iv = .int .i64 (i : Int) ∧ Hid (risB (-1) L = risB last (L.drop i)) ∧ Hid (LastP L i last) ∧ Hid (Ext w wr) ∧ Hid (Rw wr hb 26 [.int .u8 k, .int .u64 tx, .int .u64 pv, .int .i64 pg, .int .i64 off, .slice A nb a, .slice B na b', .int .u64 nx, .slice D nd d, .bool op])) (fun iv _ => nd - (intOf iv).toNat)
      case atStart => exact ⟨0, -1, Nat.zero_le _, rfl, hide rfl, hide (.inl ⟨rfl, rfl⟩), X1, R1⟩
      case round =>
        obtain ⟨i, last, hi, rfl, HB, HLP, HX, HRB⟩ := hrel
        clear X1 R1
        by_cases hlt : i < nd
        · obtain ⟨⟨y, z⟩, he⟩ : ∃ e, L[i]? = some e := ⟨_, List.getElem?_eq_getElem (by rw [HN.out]; exact hlt)⟩
          obtain ⟨bb, oo, hD, k1, k2⟩ := (HR.out.ext HX.out).at he
          subst hD
          have HSTEP := hide (risB_at he last)
          have HE := hide he
          obtain ⟨q, HQ⟩ : ∃ q, Hid (isPg y = q) := ⟨_, hide rfl⟩
          have KP := hide (fun (W : World) => (show Calls Tryd.prog 29 #[.int .i64 y] W (fun e w' => e = .returned (.bool q) ∧ w' = W) from by have h := isPage_any y W; rw [HQ.out] at h; exact h))
          have hii : (i : Int) < (nd : Int) := by omega
          have hi0 : (0 : Int) ≤ (i : Int) := by omega
          have hib : (i : Int) ≤ 64 := by omega
          clear he
          go_upto_region 8 with fail
          obtain ⟨W8, hX8, hR8, hg⟩ : ∃ W8, Ext wr W8 ∧ Rw W8 wr.heap.size 47 [.int .i64 y, .int .u64 z] ∧ wr.alloc (.cells #[.int .i64 y, .int .u64 z] 47) = W8 := ⟨_, Ext.alloc _ _, Rw.new _ _ _, rfl⟩
          rw [hg]
          obtain ⟨h8, HH8⟩ : ∃ h8, Hid (wr.heap.size = h8) := ⟨_, hide rfl⟩
          rw [HH8.out] at hR8 ⊢
          have X8 := hide (HX.out.trans hX8)
          have RB8 := hide (HRB.out.ext hX8)
          have d0 := hR8.cell (i := 0) rfl
          have f8 := RB8.out.cell (i := 8) rfl
          clear hg hX8 hR8 HX HRB k1 k2
          cases q with
          | false =>
            have HF : Hid (risB (-1) L = false) := hide (by
              rw [HB.out, HSTEP.out]
              have hq := HQ.out
              have hl := HLP.out
              have hge : -1 ≤ last := by rcases hl with ⟨_, h⟩ | ⟨_, h, _⟩ <;> omega
              simp only [isPg, Bool.and_eq_false_iff, decide_eq_false_iff_not] at hq
              simp only [Bool.and_eq_false_iff, decide_eq_false_iff_not]
              omega)
            go_quiet ((go_at_call 29; exact Calls.quiet_of_same (KP.out _)))
            go_wp2
            go_ret
            exact ⟨by rw [HF.out]; rfl, X8.out.drewN nq⟩
          | true =>
            have hpg : 0 ≤ y ∧ y < 4096 := by have hq := HQ.out; simpa [isPg] using hq
            by_cases hiz : i = 0
            · have hd : decide ((0 : Int) < (i : Int)) = false := by simp; omega
              have hdn : decide (0 < i) = false := by simp; omega
              have HBN : Hid (risB (-1) L = risB y (L.drop (i + 1))) := hide (by
                rw [HB.out, HSTEP.out]
                have hl : last = -1 := by rcases HLP.out with ⟨_, h⟩ | ⟨h, _⟩ <;> omega
                simp only [hl]
                have e1 : decide (-1 < y) = true := by simp; omega
                have e2 : decide (y < 4096) = true := by simp; omega
                rw [e1, e2]; rfl)
              have HIZ := hide hiz
              clear hiz
              go_quiet ((go_at_call 29; exact Calls.quiet_of_same (KP.out _)))
              go_wp2
              refine ⟨⟨i + 1, y, by omega, by go_num, HBN, hide (.inr ⟨Nat.succ_pos _, hpg.1, _, HE.out, rfl⟩), hide (X8.out.drewN nq), hide (RB8.out.ext ((Ext.refl _).drewN nq))⟩, by simp [intOf]; omega⟩
            · have hd : (0 : Int) < (i : Int) := by omega
              have hdn : 0 < i := by omega
              obtain ⟨j, hj⟩ : ∃ j, i = j + 1 := ⟨i - 1, by omega⟩
              have hw : IntKind.i64.wrap ((i : Int) - 1) = (j : Int) := by rw [IntKind.wrap_i64]; omega
              have hw1 : (i : Int) - 1 = (j : Int) := by omega
              have hj1 : (j : Int) < (nd : Int) := by omega
              have hj0 : (0 : Int) ≤ (j : Int) := by omega
              obtain ⟨⟨y2, z2⟩, he2, hl2, hge⟩ : ∃ e, L[j]? = some e ∧ e.1 = last ∧ 0 ≤ last := by
                rcases HLP.out with ⟨h, _⟩ | ⟨_, h2, e, h3, h4⟩
                · omega
                · rw [hj] at h3; exact ⟨e, h3, h4, h2⟩
              have hl3 : y2 = last := hl2
              obtain ⟨b3, o3, hD3, k3, -⟩ := (HR.out.ext X8.out).at he2
              injection hD3 with hD3
              injection hD3 with hD4 hD5
              subst hD4 hD5
              have HJ := hide hj
              have HGE := hide hge
              clear hj hl2 he2 hge
              subst hl3
              by_cases hle : y ≤ y2
              · have HF : Hid (risB (-1) L = false) := hide (by
                  rw [HB.out, HSTEP.out]
                  have e1 : decide (y2 < y) = false := by simp; omega
                  simp only [e1, Bool.false_and])
                clear hiz
                go_quiet ((go_at_call 29; exact Calls.quiet_of_same (KP.out _)))
                go_wp2
                go_ret
                exact ⟨by rw [HF.out]; rfl, X8.out.drewN nq⟩
              · have hle2 : decide (y ≤ y2) = false := decide_eq_false hle
                have HBN : Hid (risB (-1) L = risB y (L.drop (i + 1))) := hide (by
                  rw [HB.out, HSTEP.out]
                  have e1 : decide (y2 < y) = true := by simp; omega
                  have e2 : decide (y < 4096) = true := by simp; omega
                  rw [e1, e2]; rfl)
                clear hiz hle
                go_quiet ((go_at_call 29; exact Calls.quiet_of_same (KP.out _)))
                go_wp2
                refine ⟨⟨i + 1, y, by omega, by go_num, HBN, hide (.inr ⟨Nat.succ_pos _, hpg.1, _, HE.out, rfl⟩), hide (X8.out.drewN nq), hide (RB8.out.ext ((Ext.refl _).drewN nq))⟩, by simp [intOf]; omega⟩
        · have hii : ¬ (i : Int) < (nd : Int) := by omega
          have HT : Hid (risB (-1) L = true) := hide (by rw [HB.out, List.drop_of_length_le (by rw [HN.out]; omega)]; rfl)
          go_wp2
          go_ret
          exact ⟨by rw [HT.out]; rfl, HX.out⟩
    · have h0i : (64 : Int) < (nd : Int) := by omega
      have HV : chkN L nd op true = false := by simp [chkN]; omega
      rw [HV]
      clear HV
      go_enter Tryd.func18, Tryd.ntmps18
      go_wp2
      go_ret
      exact ⟨rfl, (Ext.alloc _ _).trans (Ext.alloc _ _)⟩
end Go.Proofs.YthdahgekodcloaaDoor
