/-
  The dirty pages of a record: checkFits.
  Which records there are: the program's Form.
  Numbers as eight bytes: the program's and the document's.
  Numbers and sums of records, put behind bytes of the call's own.
-/
import Derived.Test.YtkbmcebdhiiffaaDoorPkCardRcDecodes1
import Derived.Test.YtkbmcebdhiiffaaDoorPkCardRcDecodes2
set_option linter.unusedVariables false
set_option linter.unusedSimpArgs false

namespace Go.Proofs.YtkbmcebdhiiffaaDoor
open Go.RowKit

def chkN (L : List (Int × Int)) (nd : Nat) (op x : Bool) : Bool := if x then decide (nd ≤ 64) && risB (-1) L else (nd == 0) && !op
def LastP (L : List (Int × Int)) (i : Nat) (last : Int) : Prop := (i = 0 ∧ last = -1) ∨ (0 < i ∧ 0 ≤ last ∧ ∃ e, L[i - 1]? = some e ∧ e.1 = last)
theorem risB_at {L : List (Int × Int)} {i : Nat} {d : Int × Int} (h : L[i]? = some d) (last : Int) : risB last (L.drop i) = (decide (last < d.1) && (decide (d.1 < 4096) && risB d.1 (L.drop (i + 1)))) := by
  obtain ⟨hl, he⟩ := List.getElem?_eq_some_iff.1 h
  rw [List.drop_eq_getElem_cons hl, he]
  rfl
set_option maxRecDepth 20000 in
set_option maxHeartbeats 3200000 in
theorem checkFits_any (k tx pv pg off nx : Int) (A B D : Option Addr) (nb a na b' nd d : Nat) (op : Bool) (p c b n x : Bool) (w : World) (L : List (Int × Int)) (hr : RdD w D L) (hn : L.length = nd) (hnd : nd ≤ 140737488351232) :
    Calls Tryd.prog 18 #[.agg #[.int .u8 k, .int .u64 tx, .int .u64 pv, .int .i64 pg, .int .i64 off, .slice A nb a, .slice B na b', .int .u64 nx, .slice D nd d, .bool op], .agg #[.bool p, .bool c, .bool b, .bool n, .bool x]] w (RetB w (chkN L nd op x)) := by
  have HR := hide hr
  have HN := hide hn
  clear hr hn
  cases x with
  | false =>
    by_cases h0 : nd = 0
    · have yh0 : ((nd : Int) == 0) = true := by simp [h0]
      by_cases h1 : op = false
      · subst h1
        have HV : chkN L nd false false = true := by simp [chkN, h0]
        rw [HV]
        clear HV
        go_enter Tryd.func18, Tryd.ntmps18
        go_wp2
        go_ret
        exact ⟨rfl, (Ext.alloc _ _).trans (Ext.alloc _ _)⟩
      · have h1 : op = true := by simpa using h1
        subst h1
        have HV : chkN L nd true false = false := by simp [chkN, h0]
        rw [HV]
        clear HV
        go_enter Tryd.func18, Tryd.ntmps18
        go_wp2
        go_ret
        exact ⟨rfl, (Ext.alloc _ _).trans (Ext.alloc _ _)⟩
    · have yh0 : ((nd : Int) == 0) = false := by simp [h0]
      have HV : chkN L nd op false = false := by simp [chkN, h0]
      rw [HV]
      clear HV
      go_enter Tryd.func18, Tryd.ntmps18
      go_wp2
      go_ret
      exact ⟨rfl, (Ext.alloc _ _).trans (Ext.alloc _ _)⟩
  | true =>
    by_cases h0 : nd ≤ 64
    · have h0i : ¬ (64 : Int) < (nd : Int) := by omega
      have HV : chkN L nd op true = risB (-1) L := by simp [chkN, h0]
      rw [HV]
      clear HV
      go_enter Tryd.func18, Tryd.ntmps18
      go_upto_region 6 with fail
      obtain ⟨W1, hX1, hR1, hg⟩ : ∃ W1, Ext w W1 ∧ Rw W1 w.heap.size 26 [.int .u8 k, .int .u64 tx, .int .u64 pv, .int .i64 pg, .int .i64 off, .slice A nb a, .slice B na b', .int .u64 nx, .slice D nd d, .bool op] ∧ (w.alloc (.cells #[.int .u8 k, .int .u64 tx, .int .u64 pv, .int .i64 pg, .int .i64 off, .slice A nb a, .slice B na b', .int .u64 nx, .slice D nd d, .bool op] 26)).alloc (.cells #[.bool p, .bool c, .bool b, .bool n, .bool true] 42) = W1 := ⟨_, (Ext.alloc _ _).trans (Ext.alloc _ _), (Rw.new w 26 [.int .u8 k, .int .u64 tx, .int .u64 pv, .int .i64 pg, .int .i64 off, .slice A nb a, .slice B na b', .int .u64 nx, .slice D nd d, .bool op]).ext (Ext.alloc _ _), rfl⟩
      rw [hg]
      obtain ⟨hb, HHB⟩ : ∃ hb, Hid (w.heap.size = hb) := ⟨_, hide rfl⟩
      rw [HHB.out] at hR1
      try rw [HHB.out]
      have X1 := hide hX1
      have R1 := hide hR1
      clear hg hX1 hR1
      go_loopw [26] (fun iv wr => ∃ (i : Nat) (last : Int), i ≤ nd ∧ iv = .int .i64 (i : Int) ∧ Hid (risB (-1) L = risB last (L.drop i)) ∧ Hid (LastP L i last) ∧ Hid (Ext w wr) ∧ Hid (Rw wr hb 26 [.int .u8 k, .int .u64 tx, .int .u64 pv, .int .i64 pg, .int .i64 off, .slice A nb a, .slice B na b', .int .u64 nx, .slice D nd d, .bool op])) (fun iv _ => nd - (intOf iv).toNat)
      case atStart => exact ⟨0, -1, Nat.zero_le _, rfl, hide rfl, hide (.inl ⟨rfl, rfl⟩), X1, R1⟩
      case round =>
        obtain ⟨i, last, hi, rfl, HB, HLP, HX, HRB⟩ := hrel
        clear X1 R1
        by_cases hlt : i < nd
        · obtain ⟨⟨y, z⟩, he⟩ : ∃ e, L[i]? = some e := ⟨_, List.getElem?_eq_getElem (by rw [HN.out]; exact hlt)⟩
          obtain ⟨bb, oo, hD, k1, k2⟩ := (HR.out.ext HX.out).at he
          subst hD
          have HSTEP := hide (risB_at he last)
          have HE := hide he
          obtain ⟨q, HQ⟩ : ∃ q, Hid (isPg y = q) := ⟨_, hide rfl⟩
          have KP := hide (fun (W : World) => (show Calls Tryd.prog 29 #[.int .i64 y] W (fun e w' => e = .returned (.bool q) ∧ w' = W) from by have h := isPage_any y W; rw [HQ.out] at h; exact h))
          have hii : (i : Int) < (nd : Int) := by omega
          have hi0 : (0 : Int) ≤ (i : Int) := by omega
          have hib : (i : Int) ≤ 64 := by omega
          clear he
          go_upto_region 8 with fail
          obtain ⟨W8, hX8, hR8, hg⟩ : ∃ W8, Ext wr W8 ∧ Rw W8 wr.heap.size 47 [.int .i64 y, .int .u64 z] ∧ wr.alloc (.cells #[.int .i64 y, .int .u64 z] 47) = W8 := ⟨_, Ext.alloc _ _, Rw.new _ _ _, rfl⟩
          rw [hg]
          obtain ⟨h8, HH8⟩ : ∃ h8, Hid (wr.heap.size = h8) := ⟨_, hide rfl⟩
          rw [HH8.out] at hR8 ⊢
          have X8 := hide (HX.out.trans hX8)
          have RB8 := hide (HRB.out.ext hX8)
          have d0 := hR8.cell (i := 0) rfl
          have f8 := RB8.out.cell (i := 8) rfl
          clear hg hX8 hR8 HX HRB k1 k2
          cases q with
          | false =>
            have HF : Hid (risB (-1) L = false) := hide (by
              rw [HB.out, HSTEP.out]
              have hq := HQ.out
              have hl := HLP.out
              have hge : -1 ≤ last := by rcases hl with ⟨_, h⟩ | ⟨_, h, _⟩ <;> omega
              simp only [isPg, Bool.and_eq_false_iff, decide_eq_false_iff_not] at hq
              simp only [Bool.and_eq_false_iff, decide_eq_false_iff_not]
              omega)
            go_quiet ((go_at_call 29; exact Calls.quiet_of_same (KP.out _)))
            go_wp2
            go_ret
            exact ⟨by rw [HF.out]; rfl, X8.out.drewN nq⟩
          | true =>
            have hpg : 0 ≤ y ∧ y < 4096 := by have hq := HQ.out; simpa [isPg] using hq
            by_cases hiz : i = 0
            · have hd : decide ((0 : Int) < (i : Int)) = false := by simp; omega
              have hdn : decide (0 < i) = false := by simp; omega
              have HBN : Hid (risB (-1) L = risB y (L.drop (i + 1))) := hide (by
                rw [HB.out, HSTEP.out]
                have hl : last = -1 := by rcases HLP.out with ⟨_, h⟩ | ⟨h, _⟩ <;> omega
                simp only [hl]
                have e1 : decide (-1 < y) = true := by simp; omega
                have e2 : decide (y < 4096) = true := by simp; omega
                rw [e1, e2]; rfl)
              have HIZ := hide hiz
              clear hiz
              go_quiet ((go_at_call 29; exact Calls.quiet_of_same (KP.out _)))
              go_wp2
              refine ⟨⟨i + 1, y, by omega, by go_num, HBN, hide (.inr ⟨Nat.succ_pos _, hpg.1, _, HE.out, rfl⟩), hide (X8.out.drewN nq), hide (RB8.out.ext ((Ext.refl _).drewN nq))⟩, by simp [intOf]; omega⟩
            · have hd : (0 : Int) < (i : Int) := by omega
              have hdn : 0 < i := by omega
              obtain ⟨j, hj⟩ : ∃ j, i = j + 1 := ⟨i - 1, by omega⟩
              have hw : IntKind.i64.wrap ((i : Int) - 1) = (j : Int) := by rw [IntKind.wrap_i64]; omega
              have hw1 : (i : Int) - 1 = (j : Int) := by omega
              have hj1 : (j : Int) < (nd : Int) := by omega
              have hj0 : (0 : Int) ≤ (j : Int) := by omega
              obtain ⟨⟨y2, z2⟩, he2, hl2, hge⟩ : ∃ e, L[j]? = some e ∧ e.1 = last ∧ 0 ≤ last := by
                rcases HLP.out with ⟨h, _⟩ | ⟨_, h2, e, h3, h4⟩
                · omega
                · rw [hj] at h3; exact ⟨e, h3, h4, h2⟩
              have hl3 : y2 = last := hl2
              obtain ⟨b3, o3, hD3, k3, -⟩ := (HR.out.ext X8.out).at he2
              injection hD3 with hD3
              injection hD3 with hD4 hD5
              subst hD4 hD5
              have HJ := hide hj
              have HGE := hide hge
              clear hj hl2 he2 hge
              subst hl3
              by_cases hle : y ≤ y2
              · have HF : Hid (risB (-1) L = false) := hide (by
                  rw [HB.out, HSTEP.out]
                  have e1 : decide (y2 < y) = false := by simp; omega
                  simp only [e1, Bool.false_and])
                clear hiz
                go_quiet ((go_at_call 29; exact Calls.quiet_of_same (KP.out _)))
                go_wp2
                go_ret
                exact ⟨by rw [HF.out]; rfl, X8.out.drewN nq⟩
              · have hle2 : decide (y ≤ y2) = false := decide_eq_false hle
                have HBN : Hid (risB (-1) L = risB y (L.drop (i + 1))) := hide (by
                  rw [HB.out, HSTEP.out]
                  have e1 : decide (y2 < y) = true := by simp; omega
                  have e2 : decide (y < 4096) = true := by simp; omega
                  rw [e1, e2]; rfl)
                clear hiz hle
                go_quiet ((go_at_call 29; exact Calls.quiet_of_same (KP.out _)))
                go_wp2
                refine ⟨⟨i + 1, y, by omega, by go_num, HBN, hide (.inr ⟨Nat.succ_pos _, hpg.1, _, HE.out, rfl⟩), hide (X8.out.drewN nq), hide (RB8.out.ext ((Ext.refl _).drewN nq))⟩, by simp [intOf]; omega⟩
        · have hii : ¬ (i : Int) < (nd : Int) := by omega
          have HT : Hid (risB (-1) L = true) := hide (by rw [HB.out, List.drop_of_length_le (by rw [HN.out]; omega)]; rfl)
          go_wp2
          go_ret
          exact ⟨by rw [HT.out]; rfl, HX.out⟩
    · have h0i : (64 : Int) < (nd : Int) := by omega
      have HV : chkN L nd op true = false := by simp [chkN]; omega
      rw [HV]
      clear HV
      go_enter Tryd.func18, Tryd.ntmps18
      go_wp2
      go_ret
      exact ⟨rfl, (Ext.alloc _ _).trans (Ext.alloc _ _)⟩
end Go.Proofs.YtkbmcebdhiiffaaDoor
namespace Go.Proofs.YtkbmcebdhiiffaaDoor
open Go.RowKit

theorem ret_bool {a b : Bool} (h : a = b) : Ending.returned (.bool a) = .returned (.bool b) := by rw [h]
def formN (k pv pg off nx : Int) (na nb nd : Nat) (L : List (Int × Int)) (op : Bool) : Bool := hok k && ((hpv k || (pv == 0)) && ((hnx k || (nx == 0)) && (chgN pg off na nb (hch k) (hbf k) && chkN L nd op (hck k))))
set_option maxRecDepth 20000 in
set_option maxHeartbeats 3200000 in
theorem form_any (k tx pv pg off nx : Int) (A B D : Option Addr) (nb a na b' nd d : Nat) (op : Bool) (w : World) (L : List (Int × Int)) (hr : RdD w D L) (hn : L.length = nd) (hnd : nd ≤ 140737488351232) (hna : na ≤ 140737488351232) (hnb : nb ≤ 140737488351232) (ho : -9223372036854775808 ≤ off) (ho2 : off < 9223372036854775808) :
    Calls Tryd.prog 9 #[.agg #[.int .u8 k, .int .u64 tx, .int .u64 pv, .int .i64 pg, .int .i64 off, .slice A nb a, .slice B na b', .int .u64 nx, .slice D nd d, .bool op]] w (RetB w (formN k pv pg off nx na nb nd L op)) := by
  obtain ⟨o, HO⟩ : ∃ o, Hid (hok k = o) := ⟨_, hide rfl⟩
  obtain ⟨p, HP⟩ : ∃ o, Hid (hpv k = o) := ⟨_, hide rfl⟩
  obtain ⟨c, HC⟩ : ∃ o, Hid (hch k = o) := ⟨_, hide rfl⟩
  obtain ⟨b, HB⟩ : ∃ o, Hid (hbf k = o) := ⟨_, hide rfl⟩
  obtain ⟨n, HN⟩ : ∃ o, Hid (hnx k = o) := ⟨_, hide rfl⟩
  obtain ⟨x, HX⟩ : ∃ o, Hid (hck k = o) := ⟨_, hide rfl⟩
  obtain ⟨g1, HG1⟩ : ∃ g, Hid (chgN pg off na nb c b = g) := ⟨_, hide rfl⟩
  obtain ⟨g2, HG2⟩ : ∃ g, Hid (chkN L nd op x = g) := ⟨_, hide rfl⟩
  have HV : formN k pv pg off nx na nb nd L op = (o && ((p || (pv == 0)) && ((n || (nx == 0)) && (g1 && g2)))) := by
    simp only [formN, HO.out, HP.out, HC.out, HB.out, HN.out, HX.out, HG1.out, HG2.out]
  rw [HV]
  have KP := hide (fun (W : World) => (show Calls Tryd.prog 16 #[.int .u8 k] W (fun e w' => e = .returned (.tuple #[.agg #[.bool p, .bool c, .bool b, .bool n, .bool x], .bool o]) ∧ Ext W w') from by have h := partsOf_any k W; unfold PartsP at h; rw [HO.out, HP.out, HC.out, HB.out, HN.out, HX.out] at h; exact h))
  have KC := hide (fun (W : World) => (show Calls Tryd.prog 17 #[.agg #[.int .u8 k, .int .u64 tx, .int .u64 pv, .int .i64 pg, .int .i64 off, .slice A nb a, .slice B na b', .int .u64 nx, .slice D nd d, .bool op], .agg #[.bool p, .bool c, .bool b, .bool n, .bool x]] W (RetB W g1) from by have h := changeFits_any k tx pv pg off nx A B D nb a na b' nd d op p c b n x W hna hnb ho ho2; rw [HG1.out] at h; exact h))
  have KK := hide (fun (W : World) (hW : Ext w W) => (show Calls Tryd.prog 18 #[.agg #[.int .u8 k, .int .u64 tx, .int .u64 pv, .int .i64 pg, .int .i64 off, .slice A nb a, .slice B na b', .int .u64 nx, .slice D nd d, .bool op], .agg #[.bool p, .bool c, .bool b, .bool n, .bool x]] W (RetB W g2) from by have h := checkFits_any k tx pv pg off nx A B D nb a na b' nd d op p c b n x W L (hr.ext hW) hn hnd; rw [HG2.out] at h; exact h))
  clear hr hn hnd hna hnb ho ho2 HV HO HP HC HB HN HX HG1 HG2
  go_enter Tryd.func9, Tryd.ntmps9
  go_upto_region 1 with fail
  obtain ⟨W1, hX1, hR1, hg⟩ : ∃ W1, Ext w W1 ∧ Rw W1 w.heap.size 26 [.int .u8 k, .int .u64 tx, .int .u64 pv, .int .i64 pg, .int .i64 off, .slice A nb a, .slice B na b', .int .u64 nx, .slice D nd d, .bool op] ∧ w.alloc (.cells #[.int .u8 k, .int .u64 tx, .int .u64 pv, .int .i64 pg, .int .i64 off, .slice A nb a, .slice B na b', .int .u64 nx, .slice D nd d, .bool op] 26) = W1 := ⟨_, Ext.alloc _ _, Rw.new _ _ _, rfl⟩
  rw [hg]
  obtain ⟨hb, HHB⟩ : ∃ hb, Hid (w.heap.size = hb) := ⟨_, hide rfl⟩
  rw [HHB.out] at hR1 ⊢
  have X1 := hide hX1
  have R1 := hide hR1
  have y0 := R1.out.cell (i := 0) rfl
  clear hg hX1 hR1
  go_upto_region 2 with (go_at_call 16; (with_reducible refine (KP.out _).mono ?_); rintro e w2 ⟨rfl, hx2⟩; have X2 := hide (X1.out.trans hx2); have R2 := hide (R1.out.ext hx2); clear hx2)
  clear y0
  obtain ⟨W3, hX3, hR3, hE3, hg⟩ : ∃ W3, Ext w W3 ∧ Rw W3 w2.heap.size 42 [.bool p, .bool c, .bool b, .bool n, .bool x] ∧ Ext w2 W3 ∧ w2.alloc (.cells #[.bool p, .bool c, .bool b, .bool n, .bool x] 42) = W3 := ⟨_, X2.out.trans (Ext.alloc _ _), Rw.new _ _ _, Ext.alloc _ _, rfl⟩
  rw [hg]
  obtain ⟨hq, HHQ⟩ : ∃ hq, Hid (w2.heap.size = hq) := ⟨_, hide rfl⟩
  rw [HHQ.out] at hR3 ⊢
  have X3 := hide hX3
  have R3 := hide (R2.out.ext hE3)
  have Q3 := hide hR3
  clear hg hX3 hR3 hE3 X1 X2 R1 R2 HHB HHQ KP
  have c0 := R3.out.cell (i := 0) rfl
  have c1 := R3.out.cell (i := 1) rfl
  have c2 := R3.out.cell (i := 2) rfl
  have c3 := R3.out.cell (i := 3) rfl
  have c4 := R3.out.cell (i := 4) rfl
  have c5 := R3.out.cell (i := 5) rfl
  have c6 := R3.out.cell (i := 6) rfl
  have c7 := R3.out.cell (i := 7) rfl
  have c8 := R3.out.cell (i := 8) rfl
  have c9 := R3.out.cell (i := 9) rfl
  have q0 := Q3.out.cell (i := 0) rfl
  have q1 := Q3.out.cell (i := 1) rfl
  have q2 := Q3.out.cell (i := 2) rfl
  have q3 := Q3.out.cell (i := 3) rfl
  have q4 := Q3.out.cell (i := 4) rfl
  cases o with
  | false =>
    go_wp2_with (first
      | (go_at_call 17; (with_reducible refine (KC.out _).mono ?_); rintro e w4 ⟨rfl, hx4⟩; have X4 := hide (X3.out.trans hx4); have d0 := (R3.out.ext hx4).cell (i := 0) rfl; have d1 := (R3.out.ext hx4).cell (i := 1) rfl; have d2 := (R3.out.ext hx4).cell (i := 2) rfl; have d3 := (R3.out.ext hx4).cell (i := 3) rfl; have d4 := (R3.out.ext hx4).cell (i := 4) rfl; have d5 := (R3.out.ext hx4).cell (i := 5) rfl; have d6 := (R3.out.ext hx4).cell (i := 6) rfl; have d7 := (R3.out.ext hx4).cell (i := 7) rfl; have d8 := (R3.out.ext hx4).cell (i := 8) rfl; have d9 := (R3.out.ext hx4).cell (i := 9) rfl; have r0 := (Q3.out.ext hx4).cell (i := 0) rfl; have r1 := (Q3.out.ext hx4).cell (i := 1) rfl; have r2 := (Q3.out.ext hx4).cell (i := 2) rfl; have r3 := (Q3.out.ext hx4).cell (i := 3) rfl; have r4 := (Q3.out.ext hx4).cell (i := 4) rfl; clear hx4)
      | (go_at_call 18; (with_reducible refine (KK.out _ X4.out).mono ?_); rintro e w5 ⟨rfl, hx5⟩; have X5 := hide (X4.out.trans hx5); clear hx5))
    go_ret
    exact ⟨rfl, X3.out⟩
  | true =>
    cases p with
    | true =>
      cases n with
      | true =>
        cases g1 with
        | false =>
          go_wp2_with (first
            | (go_at_call 17; (with_reducible refine (KC.out _).mono ?_); rintro e w4 ⟨rfl, hx4⟩; have X4 := hide (X3.out.trans hx4); have d0 := (R3.out.ext hx4).cell (i := 0) rfl; have d1 := (R3.out.ext hx4).cell (i := 1) rfl; have d2 := (R3.out.ext hx4).cell (i := 2) rfl; have d3 := (R3.out.ext hx4).cell (i := 3) rfl; have d4 := (R3.out.ext hx4).cell (i := 4) rfl; have d5 := (R3.out.ext hx4).cell (i := 5) rfl; have d6 := (R3.out.ext hx4).cell (i := 6) rfl; have d7 := (R3.out.ext hx4).cell (i := 7) rfl; have d8 := (R3.out.ext hx4).cell (i := 8) rfl; have d9 := (R3.out.ext hx4).cell (i := 9) rfl; have r0 := (Q3.out.ext hx4).cell (i := 0) rfl; have r1 := (Q3.out.ext hx4).cell (i := 1) rfl; have r2 := (Q3.out.ext hx4).cell (i := 2) rfl; have r3 := (Q3.out.ext hx4).cell (i := 3) rfl; have r4 := (Q3.out.ext hx4).cell (i := 4) rfl; clear hx4)
            | (go_at_call 18; (with_reducible refine (KK.out _ X4.out).mono ?_); rintro e w5 ⟨rfl, hx5⟩; have X5 := hide (X4.out.trans hx5); clear hx5))
          go_ret
          exact ⟨rfl, X4.out⟩
        | true =>
          go_wp2_with (first
            | (go_at_call 17; (with_reducible refine (KC.out _).mono ?_); rintro e w4 ⟨rfl, hx4⟩; have X4 := hide (X3.out.trans hx4); have d0 := (R3.out.ext hx4).cell (i := 0) rfl; have d1 := (R3.out.ext hx4).cell (i := 1) rfl; have d2 := (R3.out.ext hx4).cell (i := 2) rfl; have d3 := (R3.out.ext hx4).cell (i := 3) rfl; have d4 := (R3.out.ext hx4).cell (i := 4) rfl; have d5 := (R3.out.ext hx4).cell (i := 5) rfl; have d6 := (R3.out.ext hx4).cell (i := 6) rfl; have d7 := (R3.out.ext hx4).cell (i := 7) rfl; have d8 := (R3.out.ext hx4).cell (i := 8) rfl; have d9 := (R3.out.ext hx4).cell (i := 9) rfl; have r0 := (Q3.out.ext hx4).cell (i := 0) rfl; have r1 := (Q3.out.ext hx4).cell (i := 1) rfl; have r2 := (Q3.out.ext hx4).cell (i := 2) rfl; have r3 := (Q3.out.ext hx4).cell (i := 3) rfl; have r4 := (Q3.out.ext hx4).cell (i := 4) rfl; clear hx4)
            | (go_at_call 18; (with_reducible refine (KK.out _ X4.out).mono ?_); rintro e w5 ⟨rfl, hx5⟩; have X5 := hide (X4.out.trans hx5); clear hx5))
          go_ret
          exact ⟨rfl, X5.out⟩
      | false =>
        by_cases hn : nx = 0
        · subst hn
          cases g1 with
          | false =>
            go_wp2_with (first
              | (go_at_call 17; (with_reducible refine (KC.out _).mono ?_); rintro e w4 ⟨rfl, hx4⟩; have X4 := hide (X3.out.trans hx4); have d0 := (R3.out.ext hx4).cell (i := 0) rfl; have d1 := (R3.out.ext hx4).cell (i := 1) rfl; have d2 := (R3.out.ext hx4).cell (i := 2) rfl; have d3 := (R3.out.ext hx4).cell (i := 3) rfl; have d4 := (R3.out.ext hx4).cell (i := 4) rfl; have d5 := (R3.out.ext hx4).cell (i := 5) rfl; have d6 := (R3.out.ext hx4).cell (i := 6) rfl; have d7 := (R3.out.ext hx4).cell (i := 7) rfl; have d8 := (R3.out.ext hx4).cell (i := 8) rfl; have d9 := (R3.out.ext hx4).cell (i := 9) rfl; have r0 := (Q3.out.ext hx4).cell (i := 0) rfl; have r1 := (Q3.out.ext hx4).cell (i := 1) rfl; have r2 := (Q3.out.ext hx4).cell (i := 2) rfl; have r3 := (Q3.out.ext hx4).cell (i := 3) rfl; have r4 := (Q3.out.ext hx4).cell (i := 4) rfl; clear hx4)
              | (go_at_call 18; (with_reducible refine (KK.out _ X4.out).mono ?_); rintro e w5 ⟨rfl, hx5⟩; have X5 := hide (X4.out.trans hx5); clear hx5))
            go_ret
            exact ⟨rfl, X4.out⟩
          | true =>
            go_wp2_with (first
              | (go_at_call 17; (with_reducible refine (KC.out _).mono ?_); rintro e w4 ⟨rfl, hx4⟩; have X4 := hide (X3.out.trans hx4); have d0 := (R3.out.ext hx4).cell (i := 0) rfl; have d1 := (R3.out.ext hx4).cell (i := 1) rfl; have d2 := (R3.out.ext hx4).cell (i := 2) rfl; have d3 := (R3.out.ext hx4).cell (i := 3) rfl; have d4 := (R3.out.ext hx4).cell (i := 4) rfl; have d5 := (R3.out.ext hx4).cell (i := 5) rfl; have d6 := (R3.out.ext hx4).cell (i := 6) rfl; have d7 := (R3.out.ext hx4).cell (i := 7) rfl; have d8 := (R3.out.ext hx4).cell (i := 8) rfl; have d9 := (R3.out.ext hx4).cell (i := 9) rfl; have r0 := (Q3.out.ext hx4).cell (i := 0) rfl; have r1 := (Q3.out.ext hx4).cell (i := 1) rfl; have r2 := (Q3.out.ext hx4).cell (i := 2) rfl; have r3 := (Q3.out.ext hx4).cell (i := 3) rfl; have r4 := (Q3.out.ext hx4).cell (i := 4) rfl; clear hx4)
              | (go_at_call 18; (with_reducible refine (KK.out _ X4.out).mono ?_); rintro e w5 ⟨rfl, hx5⟩; have X5 := hide (X4.out.trans hx5); clear hx5))
            go_ret
            exact ⟨rfl, X5.out⟩
        · have en : (nx == 0) = false := by simp [hn]
          go_wp2_with (first
            | (go_at_call 17; (with_reducible refine (KC.out _).mono ?_); rintro e w4 ⟨rfl, hx4⟩; have X4 := hide (X3.out.trans hx4); have d0 := (R3.out.ext hx4).cell (i := 0) rfl; have d1 := (R3.out.ext hx4).cell (i := 1) rfl; have d2 := (R3.out.ext hx4).cell (i := 2) rfl; have d3 := (R3.out.ext hx4).cell (i := 3) rfl; have d4 := (R3.out.ext hx4).cell (i := 4) rfl; have d5 := (R3.out.ext hx4).cell (i := 5) rfl; have d6 := (R3.out.ext hx4).cell (i := 6) rfl; have d7 := (R3.out.ext hx4).cell (i := 7) rfl; have d8 := (R3.out.ext hx4).cell (i := 8) rfl; have d9 := (R3.out.ext hx4).cell (i := 9) rfl; have r0 := (Q3.out.ext hx4).cell (i := 0) rfl; have r1 := (Q3.out.ext hx4).cell (i := 1) rfl; have r2 := (Q3.out.ext hx4).cell (i := 2) rfl; have r3 := (Q3.out.ext hx4).cell (i := 3) rfl; have r4 := (Q3.out.ext hx4).cell (i := 4) rfl; clear hx4)
            | (go_at_call 18; (with_reducible refine (KK.out _ X4.out).mono ?_); rintro e w5 ⟨rfl, hx5⟩; have X5 := hide (X4.out.trans hx5); clear hx5))
          go_ret
          exact ⟨by rw [en]; rfl, X3.out⟩
    | false =>
      by_cases hp : pv = 0
      · subst hp
        cases n with
        | true =>
          cases g1 with
          | false =>
            go_wp2_with (first
              | (go_at_call 17; (with_reducible refine (KC.out _).mono ?_); rintro e w4 ⟨rfl, hx4⟩; have X4 := hide (X3.out.trans hx4); have d0 := (R3.out.ext hx4).cell (i := 0) rfl; have d1 := (R3.out.ext hx4).cell (i := 1) rfl; have d2 := (R3.out.ext hx4).cell (i := 2) rfl; have d3 := (R3.out.ext hx4).cell (i := 3) rfl; have d4 := (R3.out.ext hx4).cell (i := 4) rfl; have d5 := (R3.out.ext hx4).cell (i := 5) rfl; have d6 := (R3.out.ext hx4).cell (i := 6) rfl; have d7 := (R3.out.ext hx4).cell (i := 7) rfl; have d8 := (R3.out.ext hx4).cell (i := 8) rfl; have d9 := (R3.out.ext hx4).cell (i := 9) rfl; have r0 := (Q3.out.ext hx4).cell (i := 0) rfl; have r1 := (Q3.out.ext hx4).cell (i := 1) rfl; have r2 := (Q3.out.ext hx4).cell (i := 2) rfl; have r3 := (Q3.out.ext hx4).cell (i := 3) rfl; have r4 := (Q3.out.ext hx4).cell (i := 4) rfl; clear hx4)
              | (go_at_call 18; (with_reducible refine (KK.out _ X4.out).mono ?_); rintro e w5 ⟨rfl, hx5⟩; have X5 := hide (X4.out.trans hx5); clear hx5))
            go_ret
            exact ⟨rfl, X4.out⟩
          | true =>
            go_wp2_with (first
              | (go_at_call 17; (with_reducible refine (KC.out _).mono ?_); rintro e w4 ⟨rfl, hx4⟩; have X4 := hide (X3.out.trans hx4); have d0 := (R3.out.ext hx4).cell (i := 0) rfl; have d1 := (R3.out.ext hx4).cell (i := 1) rfl; have d2 := (R3.out.ext hx4).cell (i := 2) rfl; have d3 := (R3.out.ext hx4).cell (i := 3) rfl; have d4 := (R3.out.ext hx4).cell (i := 4) rfl; have d5 := (R3.out.ext hx4).cell (i := 5) rfl; have d6 := (R3.out.ext hx4).cell (i := 6) rfl; have d7 := (R3.out.ext hx4).cell (i := 7) rfl; have d8 := (R3.out.ext hx4).cell (i := 8) rfl; have d9 := (R3.out.ext hx4).cell (i := 9) rfl; have r0 := (Q3.out.ext hx4).cell (i := 0) rfl; have r1 := (Q3.out.ext hx4).cell (i := 1) rfl; have r2 := (Q3.out.ext hx4).cell (i := 2) rfl; have r3 := (Q3.out.ext hx4).cell (i := 3) rfl; have r4 := (Q3.out.ext hx4).cell (i := 4) rfl; clear hx4)
              | (go_at_call 18; (with_reducible refine (KK.out _ X4.out).mono ?_); rintro e w5 ⟨rfl, hx5⟩; have X5 := hide (X4.out.trans hx5); clear hx5))
            go_ret
            exact ⟨rfl, X5.out⟩
        | false =>
          by_cases hn : nx = 0
          · subst hn
            cases g1 with
            | false =>
              go_wp2_with (first
                | (go_at_call 17; (with_reducible refine (KC.out _).mono ?_); rintro e w4 ⟨rfl, hx4⟩; have X4 := hide (X3.out.trans hx4); have d0 := (R3.out.ext hx4).cell (i := 0) rfl; have d1 := (R3.out.ext hx4).cell (i := 1) rfl; have d2 := (R3.out.ext hx4).cell (i := 2) rfl; have d3 := (R3.out.ext hx4).cell (i := 3) rfl; have d4 := (R3.out.ext hx4).cell (i := 4) rfl; have d5 := (R3.out.ext hx4).cell (i := 5) rfl; have d6 := (R3.out.ext hx4).cell (i := 6) rfl; have d7 := (R3.out.ext hx4).cell (i := 7) rfl; have d8 := (R3.out.ext hx4).cell (i := 8) rfl; have d9 := (R3.out.ext hx4).cell (i := 9) rfl; have r0 := (Q3.out.ext hx4).cell (i := 0) rfl; have r1 := (Q3.out.ext hx4).cell (i := 1) rfl; have r2 := (Q3.out.ext hx4).cell (i := 2) rfl; have r3 := (Q3.out.ext hx4).cell (i := 3) rfl; have r4 := (Q3.out.ext hx4).cell (i := 4) rfl; clear hx4)
                | (go_at_call 18; (with_reducible refine (KK.out _ X4.out).mono ?_); rintro e w5 ⟨rfl, hx5⟩; have X5 := hide (X4.out.trans hx5); clear hx5))
              go_ret
              exact ⟨rfl, X4.out⟩
            | true =>
              go_wp2_with (first
                | (go_at_call 17; (with_reducible refine (KC.out _).mono ?_); rintro e w4 ⟨rfl, hx4⟩; have X4 := hide (X3.out.trans hx4); have d0 := (R3.out.ext hx4).cell (i := 0) rfl; have d1 := (R3.out.ext hx4).cell (i := 1) rfl; have d2 := (R3.out.ext hx4).cell (i := 2) rfl; have d3 := (R3.out.ext hx4).cell (i := 3) rfl; have d4 := (R3.out.ext hx4).cell (i := 4) rfl; have d5 := (R3.out.ext hx4).cell (i := 5) rfl; have d6 := (R3.out.ext hx4).cell (i := 6) rfl; have d7 := (R3.out.ext hx4).cell (i := 7) rfl; have d8 := (R3.out.ext hx4).cell (i := 8) rfl; have d9 := (R3.out.ext hx4).cell (i := 9) rfl; have r0 := (Q3.out.ext hx4).cell (i := 0) rfl; have r1 := (Q3.out.ext hx4).cell (i := 1) rfl; have r2 := (Q3.out.ext hx4).cell (i := 2) rfl; have r3 := (Q3.out.ext hx4).cell (i := 3) rfl; have r4 := (Q3.out.ext hx4).cell (i := 4) rfl; clear hx4)
                | (go_at_call 18; (with_reducible refine (KK.out _ X4.out).mono ?_); rintro e w5 ⟨rfl, hx5⟩; have X5 := hide (X4.out.trans hx5); clear hx5))
              go_ret
              exact ⟨rfl, X5.out⟩
          · have en : (nx == 0) = false := by simp [hn]
            go_wp2_with (first
              | (go_at_call 17; (with_reducible refine (KC.out _).mono ?_); rintro e w4 ⟨rfl, hx4⟩; have X4 := hide (X3.out.trans hx4); have d0 := (R3.out.ext hx4).cell (i := 0) rfl; have d1 := (R3.out.ext hx4).cell (i := 1) rfl; have d2 := (R3.out.ext hx4).cell (i := 2) rfl; have d3 := (R3.out.ext hx4).cell (i := 3) rfl; have d4 := (R3.out.ext hx4).cell (i := 4) rfl; have d5 := (R3.out.ext hx4).cell (i := 5) rfl; have d6 := (R3.out.ext hx4).cell (i := 6) rfl; have d7 := (R3.out.ext hx4).cell (i := 7) rfl; have d8 := (R3.out.ext hx4).cell (i := 8) rfl; have d9 := (R3.out.ext hx4).cell (i := 9) rfl; have r0 := (Q3.out.ext hx4).cell (i := 0) rfl; have r1 := (Q3.out.ext hx4).cell (i := 1) rfl; have r2 := (Q3.out.ext hx4).cell (i := 2) rfl; have r3 := (Q3.out.ext hx4).cell (i := 3) rfl; have r4 := (Q3.out.ext hx4).cell (i := 4) rfl; clear hx4)
              | (go_at_call 18; (with_reducible refine (KK.out _ X4.out).mono ?_); rintro e w5 ⟨rfl, hx5⟩; have X5 := hide (X4.out.trans hx5); clear hx5))
            go_ret
            exact ⟨by rw [en]; rfl, X3.out⟩
      · have ep : (pv == 0) = false := by simp [hp]
        go_wp2_with (first
          | (go_at_call 17; (with_reducible refine (KC.out _).mono ?_); rintro e w4 ⟨rfl, hx4⟩; have X4 := hide (X3.out.trans hx4); have d0 := (R3.out.ext hx4).cell (i := 0) rfl; have d1 := (R3.out.ext hx4).cell (i := 1) rfl; have d2 := (R3.out.ext hx4).cell (i := 2) rfl; have d3 := (R3.out.ext hx4).cell (i := 3) rfl; have d4 := (R3.out.ext hx4).cell (i := 4) rfl; have d5 := (R3.out.ext hx4).cell (i := 5) rfl; have d6 := (R3.out.ext hx4).cell (i := 6) rfl; have d7 := (R3.out.ext hx4).cell (i := 7) rfl; have d8 := (R3.out.ext hx4).cell (i := 8) rfl; have d9 := (R3.out.ext hx4).cell (i := 9) rfl; have r0 := (Q3.out.ext hx4).cell (i := 0) rfl; have r1 := (Q3.out.ext hx4).cell (i := 1) rfl; have r2 := (Q3.out.ext hx4).cell (i := 2) rfl; have r3 := (Q3.out.ext hx4).cell (i := 3) rfl; have r4 := (Q3.out.ext hx4).cell (i := 4) rfl; clear hx4)
          | (go_at_call 18; (with_reducible refine (KK.out _ X4.out).mono ?_); rintro e w5 ⟨rfl, hx5⟩; have X5 := hide (X4.out.trans hx5); clear hx5))
        go_ret
        exact ⟨by rw [ep]; rfl, X3.out⟩
end Go.Proofs.YtkbmcebdhiiffaaDoor
namespace Go.Proofs.YtkbmcebdhiiffaaDoor
open Go.RowKit

set_option maxHeartbeats 400000 in
theorem uint_any (u : Int) (w : World) (h0 : 0 ≤ u) (h1 : u < 18446744073709551616) :
    Calls Tryd.prog 30 #[.int .u64 u] w (Ret w (Bytes (be64 u))) := by
  have hmk : ∀ w, (Instr.makeSlice 23 (.int .i64 8) (.int .i64 8)).run Tryd.prog w = .ok (.slice (some ⟨w.heap.size, 0, none⟩) 8 8) (w.alloc (.cells #[.int .u8 0, .int .u8 0, .int .u8 0, .int .u8 0, .int .u8 0, .int .u8 0, .int .u8 0, .int .u8 0] 5)) := fun _ => by kernel_rfl
  go_enter Tryd.func30, Tryd.ntmps30
  go_wp2
  go_rounds 9
  go_ret
  exact Ret.mk (Ext.alloc _ _) (Bytes.new _ _ _ _ (by rw [be64_cells u h0 h1]) rfl (Nat.le_refl _))

set_option maxHeartbeats 400000 in
theorem ruint_any (u : Int) (w : World) (h0 : 0 ≤ u) (h1 : u < 18446744073709551616) :
    Calls Tryd.prog 24 #[.int .u64 u] w (Ret w (Bytes (be64 u))) := by
  go_enter Tryd.func24, Tryd.ntmps24
  go_wp2
  refine wp_loop_rounds 9 ?_
  have hown : Own w w.heap.size (.slice none 0 0) [] := Own.nil _ _
  have hb : Below w.heap.size w w := Below.refl _ _
  iterate 8
    rw [rounds_succ]
    go_wp2_with (at_builtin; refine wpList_push rfl (.tmp 9) (.tmp 15) rfl w.heap.size _ _ rfl rfl (by assumption) (by omega) (by omega) (Below.size hb) (by simp) ?_; intro v1 w1 hown1 hb1; replace hb := Below.trans hb hb1; clear hb1)
  rw [rounds_succ]
  go_wp2
  go_ret
  refine Ret.mk hb ?_
  have e : be64 u = [] ++ [b8 (u / 72057594037927936)] ++ [b8 (u / 281474976710656 % 256)] ++ [b8 (u / 1099511627776 % 256)] ++ [b8 (u / 4294967296 % 256)] ++
      [b8 (u / 16777216 % 256)] ++ [b8 (u / 65536 % 256)] ++ [b8 (u / 256 % 256)] ++ [b8 (u % 256)] := by
    have e : u / 72057594037927936 % 256 = u / 72057594037927936 := by omega
    simp [be64, e]
  rw [e]
  exact Own.bytes (by assumption)

end Go.Proofs.YtkbmcebdhiiffaaDoor
namespace Go.Proofs.YtkbmcebdhiiffaaDoor
open Go.RowKit

/-- The last n bytes of a number. -/
def numN (n : Nat) (u : Int) : List UInt8 := (be64 u).drop (8 - n)
theorem numN_length (n : Nat) (u : Int) (h : n ≤ 8) : (numN n u).length = n := by rw [numN, List.length_drop, be64_length]; omega
/-- Blocks that aren't bytes stay. -/
def Stay (w w' : World) : Prop := ∀ (g : Nat) (t : TypeId) (vs : List Value), t ≠ 5 → Rw w g t vs → Rw w' g t vs
theorem Stay.ext {w w' : World} (h : Ext w w') : Stay w w' := fun _ _ _ _ hr => hr.ext h
theorem Stay.trans {a b c : World} (h : Stay a b) (k : Stay b c) : Stay a c := fun g t vs ht hr => k g t vs ht (h g t vs ht hr)
/-- What a call leaves that puts bytes behind v. -/
def AddP (w : World) (B : Nat) (l : List UInt8) (e : Ending) (w' : World) : Prop := ∃ v', e = .returned v' ∧ Own w' B v' l ∧ Below B w w' ∧ Stay w w'
theorem own_apartR {w : World} {B g : Nat} {t : TypeId} {v : Value} {l : List UInt8} {vs : List Value} (h : Rw w g t vs) (ht : t ≠ 5) (ho : Own w B v l) : some g ≠ v.ownBlock := fun e => by
  rcases ho.2 with ⟨rfl, _⟩ | ⟨g2, cap, cur, rfl, _, hg, _⟩
  · cases e
  · injection e with e
    subst e
    unfold Rw at h
    rw [hg] at h
    injection h with h
    injection h with _ h2
    exact ht h2.symm
/-- A block of another kind stays. -/
theorem Rw.grown {w w' : World} {B g : Nat} {t : TypeId} {v : Value} {l : List UInt8} {vs : List Value} (h : Rw w g t vs) (ht : t ≠ 5) (ho : Own w B v l) (hg : w.grownBy w' v.ownBlock) : Rw w' g t vs :=
  (hg.block g h.lt (own_apartR h ht ho)).trans h
theorem Ext.below {w0 w w' : World} {B : Nat} (hx : Ext w0 w) (hB : w0.heap.size ≤ B) (hb : Below B w w') : Ext w0 w' := Below.trans hx (hb.mono hB)
section
variable {ops : Array Oper} {rest : List Oper} {o : Oper} {a : Act} {Q : Exit → Act → World → Prop} {w : World}
theorem wpList_catG (hgd : Region.wanted o (yielded ops a.tmps) = true) (s x : Operand) (ho : o.op = .call { callee := .builtin .append, args := #[s, x], argTypes := #[23, 23] })
    (base : Nat) (v : Value) (l m : List UInt8) (A : Option Addr) (n c : Nat) (hs : a.eval s = v) (hx : a.eval x = .slice A n c) (hn : n = m.length) (hown : Own w base v l) (hr : Rd w A m) (hbase : base ≤ w.heap.size) (hlen : l.length + m.length ≤ 140737488355328)
    (h : ∀ v' w', Own w' base v' (l ++ m) → Below base w w' → Stay w w' → wpList Tryd.prog ops Q rest (a.put o.dst v') w') : wpList Tryd.prog ops Q (o :: rest) a w := by
  subst hn
  obtain ⟨v', w', hrun, h2, h4, h3⟩ := run_cat w base o.type v l m A c hown hr hbase hlen
  refine wpList_wanted hgd fun K hK => ?_
  unfold Oper.wp execOp
  simp only [ho, resolve, invoke, builtin, Sem.run_bind, Sem.run_pure, Result.andThen_ok, List.map_toArray, List.map_cons, List.map_nil, hs, hx, hrun]
  exact hK _ _ (h v' w' h2 h4 (fun _ _ _ ht hr => hr.grown ht hown h3))
end
set_option maxHeartbeats 800000 in
theorem appendNumber_1 (v : Value) (l : List UInt8) (u : Int) (B : Nat) (w : World) (ho : Own w B v l) (hB : B ≤ w.heap.size) (h0 : 0 ≤ u) (h1 : u < 18446744073709551616) (hl : l.length ≤ 4398046511104) :
    Calls Tryd.prog 19 #[v, .int .u64 u, .int .i64 1] w (AddP w B (l ++ numN 1 u)) := by
  have KU := hide (fun (W : World) => uint_any u W h0 h1)
  have HO := hide ho
  have HB := hide hB
  have HL := hide hl
  clear ho hB h0 h1 hl
  go_enter Tryd.func19, Tryd.ntmps19
  go_upto_region 2 with (go_at_call 30; (with_reducible refine (KU.out _).mono ?_); rintro e w1 ⟨v1, rfl, hx1, A1, c1, rfl, hc1, hr1⟩; have X1 := hide hx1; have R1 := hide hr1; clear hx1 hr1)
  have hc8 : 8 ≤ c1 := hc1
  have HLN := hide (be64_length u)
  rw [HLN.out]
  obtain ⟨b1, o1, hA1, -⟩ := R1.out (by intro e; have := HLN.out; rw [e] at this; cases this)
  subst hA1
  have RD : Hid (Rd w1 (some ⟨b1, o1 + 7, none⟩) (numN 1 u)) := hide (by have h := R1.out.drop 7; rw [add_flat] at h; exact h)
  have hck : ¬ c1 = 7 := by omega
  have hci : (7 : Int) ≤ (c1 : Int) := by omega
  have hci8 : (8 : Int) ≤ (c1 : Int) := by omega
  clear hc1
  go_wp2_with (refine wpList_catG rfl (.tmp 10) (.tmp 16) rfl B v l (numN 1 u) (some ⟨b1, o1 + 7, none⟩) 1 _ rfl rfl (numN_length _ _ (by decide)).symm (HO.out.ext X1.out) RD.out (Nat.le_trans HB.out X1.out.size) (by rw [numN_length _ _ (by decide)]; have := HL.out; omega) ?_; intro v2 w2 ho2 hb2 hs2)
  go_ret
  exact ⟨v2, rfl, ho2, (Below.mono X1.out HB.out).trans hb2, (Stay.ext X1.out).trans hs2⟩
set_option maxHeartbeats 800000 in
theorem appendNumber_2 (v : Value) (l : List UInt8) (u : Int) (B : Nat) (w : World) (ho : Own w B v l) (hB : B ≤ w.heap.size) (h0 : 0 ≤ u) (h1 : u < 18446744073709551616) (hl : l.length ≤ 4398046511104) :
    Calls Tryd.prog 19 #[v, .int .u64 u, .int .i64 2] w (AddP w B (l ++ numN 2 u)) := by
  have KU := hide (fun (W : World) => uint_any u W h0 h1)
  have HO := hide ho
  have HB := hide hB
  have HL := hide hl
  clear ho hB h0 h1 hl
  go_enter Tryd.func19, Tryd.ntmps19
  go_upto_region 2 with (go_at_call 30; (with_reducible refine (KU.out _).mono ?_); rintro e w1 ⟨v1, rfl, hx1, A1, c1, rfl, hc1, hr1⟩; have X1 := hide hx1; have R1 := hide hr1; clear hx1 hr1)
  have hc8 : 8 ≤ c1 := hc1
  have HLN := hide (be64_length u)
  rw [HLN.out]
  obtain ⟨b1, o1, hA1, -⟩ := R1.out (by intro e; have := HLN.out; rw [e] at this; cases this)
  subst hA1
  have RD : Hid (Rd w1 (some ⟨b1, o1 + 6, none⟩) (numN 2 u)) := hide (by have h := R1.out.drop 6; rw [add_flat] at h; exact h)
  have hck : ¬ c1 = 6 := by omega
  have hci : (6 : Int) ≤ (c1 : Int) := by omega
  have hci8 : (8 : Int) ≤ (c1 : Int) := by omega
  clear hc1
  go_wp2_with (refine wpList_catG rfl (.tmp 10) (.tmp 16) rfl B v l (numN 2 u) (some ⟨b1, o1 + 6, none⟩) 2 _ rfl rfl (numN_length _ _ (by decide)).symm (HO.out.ext X1.out) RD.out (Nat.le_trans HB.out X1.out.size) (by rw [numN_length _ _ (by decide)]; have := HL.out; omega) ?_; intro v2 w2 ho2 hb2 hs2)
  go_ret
  exact ⟨v2, rfl, ho2, (Below.mono X1.out HB.out).trans hb2, (Stay.ext X1.out).trans hs2⟩
set_option maxHeartbeats 800000 in
theorem appendNumber_4 (v : Value) (l : List UInt8) (u : Int) (B : Nat) (w : World) (ho : Own w B v l) (hB : B ≤ w.heap.size) (h0 : 0 ≤ u) (h1 : u < 18446744073709551616) (hl : l.length ≤ 4398046511104) :
    Calls Tryd.prog 19 #[v, .int .u64 u, .int .i64 4] w (AddP w B (l ++ numN 4 u)) := by
  have KU := hide (fun (W : World) => uint_any u W h0 h1)
  have HO := hide ho
  have HB := hide hB
  have HL := hide hl
  clear ho hB h0 h1 hl
  go_enter Tryd.func19, Tryd.ntmps19
  go_upto_region 2 with (go_at_call 30; (with_reducible refine (KU.out _).mono ?_); rintro e w1 ⟨v1, rfl, hx1, A1, c1, rfl, hc1, hr1⟩; have X1 := hide hx1; have R1 := hide hr1; clear hx1 hr1)
  have hc8 : 8 ≤ c1 := hc1
  have HLN := hide (be64_length u)
  rw [HLN.out]
  obtain ⟨b1, o1, hA1, -⟩ := R1.out (by intro e; have := HLN.out; rw [e] at this; cases this)
  subst hA1
  have RD : Hid (Rd w1 (some ⟨b1, o1 + 4, none⟩) (numN 4 u)) := hide (by have h := R1.out.drop 4; rw [add_flat] at h; exact h)
  have hck : ¬ c1 = 4 := by omega
  have hci : (4 : Int) ≤ (c1 : Int) := by omega
  have hci8 : (8 : Int) ≤ (c1 : Int) := by omega
  clear hc1
  go_wp2_with (refine wpList_catG rfl (.tmp 10) (.tmp 16) rfl B v l (numN 4 u) (some ⟨b1, o1 + 4, none⟩) 4 _ rfl rfl (numN_length _ _ (by decide)).symm (HO.out.ext X1.out) RD.out (Nat.le_trans HB.out X1.out.size) (by rw [numN_length _ _ (by decide)]; have := HL.out; omega) ?_; intro v2 w2 ho2 hb2 hs2)
  go_ret
  exact ⟨v2, rfl, ho2, (Below.mono X1.out HB.out).trans hb2, (Stay.ext X1.out).trans hs2⟩
set_option maxHeartbeats 800000 in
theorem appendNumber_8 (v : Value) (l : List UInt8) (u : Int) (B : Nat) (w : World) (ho : Own w B v l) (hB : B ≤ w.heap.size) (h0 : 0 ≤ u) (h1 : u < 18446744073709551616) (hl : l.length ≤ 4398046511104) :
    Calls Tryd.prog 19 #[v, .int .u64 u, .int .i64 8] w (AddP w B (l ++ numN 8 u)) := by
  have KU := hide (fun (W : World) => uint_any u W h0 h1)
  have HO := hide ho
  have HB := hide hB
  have HL := hide hl
  clear ho hB h0 h1 hl
  go_enter Tryd.func19, Tryd.ntmps19
  go_upto_region 2 with (go_at_call 30; (with_reducible refine (KU.out _).mono ?_); rintro e w1 ⟨v1, rfl, hx1, A1, c1, rfl, hc1, hr1⟩; have X1 := hide hx1; have R1 := hide hr1; clear hx1 hr1)
  have hc8 : 8 ≤ c1 := hc1
  have HLN := hide (be64_length u)
  rw [HLN.out]
  obtain ⟨b1, o1, hA1, -⟩ := R1.out (by intro e; have := HLN.out; rw [e] at this; cases this)
  subst hA1
  have RD : Hid (Rd w1 (some ⟨b1, o1 + 0, none⟩) (numN 8 u)) := hide (by have h := R1.out.drop 0; rw [add_flat] at h; exact h)
  have hck : ¬ c1 = 0 := by omega
  have hci : (0 : Int) ≤ (c1 : Int) := by omega
  have hci8 : (8 : Int) ≤ (c1 : Int) := by omega
  clear hc1
  go_wp2_with (refine wpList_catG rfl (.tmp 10) (.tmp 16) rfl B v l (numN 8 u) (some ⟨b1, o1 + 0, none⟩) 8 _ rfl rfl (numN_length _ _ (by decide)).symm (HO.out.ext X1.out) RD.out (Nat.le_trans HB.out X1.out.size) (by rw [numN_length _ _ (by decide)]; have := HL.out; omega) ?_; intro v2 w2 ho2 hb2 hs2)
  go_ret
  exact ⟨v2, rfl, ho2, (Below.mono X1.out HB.out).trans hb2, (Stay.ext X1.out).trans hs2⟩
/-- A record's sum. -/
def sumB (l : List UInt8) : List UInt8 := numN 4 (crc l : Int)
theorem crc_lt (l : List UInt8) : (crc l : Int) < 18446744073709551616 := by unfold crc; omega
set_option maxHeartbeats 800000 in
theorem sumOf_any (A : Option Addr) (l : List UInt8) (n c : Nat) (w : World) (hr : Rd w A l) (hn : l.length = n) (hl : n ≤ 140737488355328) (ht : Tab w) :
    Calls Tryd.prog 21 #[.slice A n c] w (Ret w (fun w' v => Own w' w.heap.size v (sumB l))) := by
  subst hn
  have KS := hide (sum_any A c l w hr hl ht)
  obtain ⟨s, HS⟩ : ∃ s : Nat, Hid (crc l = s) := ⟨_, hide rfl⟩
  have HSL : Hid ((s : Int) < 18446744073709551616) := hide (by rw [← HS.out]; exact crc_lt l)
  have HSB : Hid (numN 4 (s : Int) = sumB l) := hide (by rw [← HS.out]; rfl)
  rw [HS.out] at KS
  have hs32 : IntKind.u64.wrap (s : Int) = (s : Int) := by rw [IntKind.wrap_u64]; have := HSL.out; omega
  clear hr hl ht
  obtain ⟨n, HN⟩ : ∃ n, Hid (l.length = n) := ⟨_, hide rfl⟩
  rw [HN.out] at KS ⊢
  go_enter Tryd.func21, Tryd.ntmps21
  go_wp2_with (first
    | (go_at_call 31; (with_reducible refine KS.out.mono ?_); rintro e w1 ⟨v1, rfl, hx1, rfl⟩; have X1 := hide hx1; clear hx1)
    | (go_at_call 19; have KA := appendNumber_4 (.slice none 0 0) [] (s : Int) w.heap.size _ (Own.nil _ _) X1.out.size (by omega) HSL.out (by simp); (with_reducible refine KA.mono ?_); rintro e w2 ⟨v2, rfl, ho2, hb2, -⟩; have O2 := hide ho2; have B2 := hide hb2; clear ho2 hb2 KA))
  go_ret
  refine Ret.mk (X1.out.below (Nat.le_refl _) B2.out) ?_
  rw [← HSB.out]
  exact O2.out
end Go.Proofs.YtkbmcebdhiiffaaDoor
