/-
  The dirty pages of a record: checkFits.
  Which records there are: the program's Form.
  Numbers as eight bytes: the program's and the document's.
  Numbers and sums of records, put behind bytes of the call's own.
  The dirty pages of a record, put behind bytes of the call's own.
  A record as bytes: the program's Encode, plain.
  The document's Encode of records: its pieces.
  The document's Encode of records, kind 1.
-/
import Derived.Test.YthdahgekodcloaaDoorPkCardRcEncodes0
import Derived.Test.YthdahgekodcloaaDoorPkCardRcEncodes1

namespace Go.Proofs.YthdahgekodcloaaDoor
open Go.RowKit

def chkN (L : List (Int × Int)) (nd : Nat) (op x : Bool) : Bool := if x then decide (nd ≤ 64) && risB (-1) L else (nd == 0) && !op
def LastP (L : List (Int × Int)) (i : Nat) (last : Int) : Prop := (i = 0 ∧ last = -1) ∨ (0 < i ∧ 0 ≤ last ∧ ∃ e, L[i - 1]? = some e ∧ e.1 = last)
theorem risB_at {L : List (Int × Int)} {i : Nat} {d : Int × Int} (h : L[i]? = some d) (last : Int) : risB last (L.drop i) = (decide (last < d.1) && (decide (d.1 < 4096) && risB d.1 (L.drop (i + 1)))) := by
  obtain ⟨hl, he⟩ := List.getElem?_eq_some_iff.1 h
  rw [List.drop_eq_getElem_cons hl, he]
  rfl
set_option maxRecDepth 20000 in
set_option maxHeartbeats 3200000 in
theorem checkFits_any (k tx pv pg off nx : Int) (A B D : Option Addr) (nb a na b' nd d : Nat) (op : Bool) (p c b n x : Bool) (w : World) (L : List (Int × Int)) (hr : RdD w D L) (hn : L.length = nd) (hnd : nd ≤ 140737488351232) :
    Calls Tryd.prog 18 #[.agg #[.int .u8 k, .int .u64 tx, .int .u64 pv, .int .i64 pg, .int .i64 off, .slice A nb a, .slice B na b', .int .u64 nx, .slice D nd d, .bool op], .agg #[.bool p, .bool c, .bool b, .bool n, .bool x]] w (RetB w (chkN L nd op x)) := by
  have HR := hide hr
  have HN := hide hn
  clear hr hn
  cases x with
  | false =>
    by_cases h0 : nd = 0
    · have yh0 : ((nd : Int) == 0) = true := by simp [h0]
      by_cases h1 : op = false
      · subst h1
        have HV : chkN L nd false false = true := by simp [chkN, h0]
        rw [HV]
        clear HV
        go_enter Tryd.func18, Tryd.ntmps18
        go_wp2
        go_ret
        exact ⟨rfl, (Ext.alloc _ _).trans (Ext.alloc _ _)⟩
      · have h1 : op = true := by simpa using h1
        subst h1
        have HV : chkN L nd true false = false := by simp [chkN, h0]
        rw [HV]
        clear HV
        go_enter Tryd.func18, Tryd.ntmps18
        go_wp2
        go_ret
        exact ⟨rfl, (Ext.alloc _ _).trans (Ext.alloc _ _)⟩
    · have yh0 : ((nd : Int) == 0) = false := by simp [h0]
      have HV : chkN L nd op false = false := by simp [chkN, h0]
      rw [HV]
      clear HV
      go_enter Tryd.func18, Tryd.ntmps18
      go_wp2
      go_ret
      exact ⟨rfl, (Ext.alloc _ _).trans (Ext.alloc _ _)⟩
  | true =>
    by_cases h0 : nd ≤ 64
    · have h0i : ¬ (64 : Int) < (nd : Int) := by omega
      have HV : chkN L nd op true = risB (-1) L := by simp [chkN, h0]
      rw [HV]
      clear HV
      go_enter Tryd.func18, Tryd.ntmps18
      go_upto_region 6 with fail
      obtain ⟨W1, hX1, hR1, hg⟩ : ∃ W1, Ext w W1 ∧ Rw W1 w.heap.size 26 [.int .u8 k, .int .u64 tx, .int .u64 pv, .int .i64 pg, .int .i64 off, .slice A nb a, .slice B na b', .int .u64 nx, .slice D nd d, .bool op] ∧ (w.alloc (.cells #[.int .u8 k, .int .u64 tx, .int .u64 pv, .int .i64 pg, .int .i64 off, .slice A nb a, .slice B na b', .int .u64 nx, .slice D nd d, .bool op] 26)).alloc (.cells #[.bool p, .bool c, .bool b, .bool n, .bool true] 42) = W1 := ⟨_, (Ext.alloc _ _).trans (Ext.alloc _ _), (Rw.new w 26 [.int .u8 k, .int .u64 tx, .int .u64 pv, .int .i64 pg, .int .i64 off, .slice A nb a, .slice B na b', .int .u64 nx, .slice D nd d, .bool op]).ext (Ext.alloc _ _), rfl⟩
      rw [hg]
      obtain ⟨hb, HHB⟩ : ∃ hb, Hid (w.heap.size = hb) := ⟨_, hide rfl⟩
      rw [HHB.out] at hR1
      try rw [HHB.out]
      have X1 := hide hX1
      have R1 := hide hR1
      clear hg hX1 hR1
      go_loopw [26] (fun iv wr => ∃ (i : Nat) (last : Int), i ≤ nd ∧ iv = .int .i64 (i : Int) ∧ Hid (risB (-1) L = risB last (L.drop i)) ∧ Hid (LastP L i last) ∧ Hid (Ext w wr) ∧ Hid (Rw wr hb 26 [.int .u8 k, .int .u64 tx, .int .u64 pv, .int .i64 pg, .int .i64 off, .slice A nb a, .slice B na b', .int .u64 nx, .slice D nd d, .bool op])) (fun iv _ => nd - (intOf iv).toNat)
      case atStart => exact ⟨0, -1, Nat.zero_le _, rfl, hide rfl, hide (.inl ⟨rfl, rfl⟩), X1, R1⟩
      case round =>
        obtain ⟨i, last, hi, rfl, HB, HLP, HX, HRB⟩ := hrel
        clear X1 R1
        by_cases hlt : i < nd
        · obtain ⟨⟨y, z⟩, he⟩ : ∃ e, L[i]? = some e := ⟨_, List.getElem?_eq_getElem (by rw [HN.out]; exact hlt)⟩
          obtain ⟨bb, oo, hD, k1, k2⟩ := (HR.out.ext HX.out).at he
          subst hD
          have HSTEP := hide (risB_at he last)
          have HE := hide he
          obtain ⟨q, HQ⟩ : ∃ q, Hid (isPg y = q) := ⟨_, hide rfl⟩
          have KP := hide (fun (W : World) => (show Calls Tryd.prog 29 #[.int .i64 y] W (fun e w' => e = .returned (.bool q) ∧ w' = W) from by have h := isPage_any y W; rw [HQ.out] at h; exact h))
          have hii : (i : Int) < (nd : Int) := by omega
          have hi0 : (0 : Int) ≤ (i : Int) := by omega
          have hib : (i : Int) ≤ 64 := by omega
          clear he
          go_upto_region 8 with fail
          obtain ⟨W8, hX8, hR8, hg⟩ : ∃ W8, Ext wr W8 ∧ Rw W8 wr.heap.size 47 [.int .i64 y, .int .u64 z] ∧ wr.alloc (.cells #[.int .i64 y, .int .u64 z] 47) = W8 := ⟨_, Ext.alloc _ _, Rw.new _ _ _, rfl⟩
          rw [hg]
          obtain ⟨h8, HH8⟩ : ∃ h8, Hid (wr.heap.size = h8) := ⟨_, hide rfl⟩
          rw [HH8.out] at hR8 ⊢
          have X8 := hide (HX.out.trans hX8)
          have RB8 := hide (HRB.out.ext hX8)
          have d0 := hR8.cell (i := 0) rfl
          have f8 := RB8.out.cell (i := 8) rfl
          clear hg hX8 hR8 HX HRB k1 k2
          cases q with
          | false =>
            have HF : Hid (risB (-1) L = false) := hide (by
              rw [HB.out, HSTEP.out]
              have hq := HQ.out
              have hl := HLP.out
              have hge : -1 ≤ last := by rcases hl with ⟨_, h⟩ | ⟨_, h, _⟩ <;> omega
              simp only [isPg, Bool.and_eq_false_iff, decide_eq_false_iff_not] at hq
              simp only [Bool.and_eq_false_iff, decide_eq_false_iff_not]
              omega)
            go_quiet ((go_at_call 29; exact Calls.quiet_of_same (KP.out _)))
            go_wp2
            go_ret
            exact ⟨by rw [HF.out]; rfl, X8.out.drewN nq⟩
          | true =>
            have hpg : 0 ≤ y ∧ y < 4096 := by have hq := HQ.out; simpa [isPg] using hq
            by_cases hiz : i = 0
            · have hd : decide ((0 : Int) < (i : Int)) = false := by simp; omega
              have hdn : decide (0 < i) = false := by simp; omega
              have HBN : Hid (risB (-1) L = risB y (L.drop (i + 1))) := hide (by
                rw [HB.out, HSTEP.out]
                have hl : last = -1 := by rcases HLP.out with ⟨_, h⟩ | ⟨h, _⟩ <;> omega
                simp only [hl]
                have e1 : decide (-1 < y) = true := by simp; omega
                have e2 : decide (y < 4096) = true := by simp; omega
                rw [e1, e2]; rfl)
              have HIZ := hide hiz
              clear hiz
              go_quiet ((go_at_call 29; exact Calls.quiet_of_same (KP.out _)))
              go_wp2
              refine ⟨⟨i + 1, y, by omega, by go_num, HBN, hide (.inr ⟨Nat.succ_pos _, hpg.1, _, HE.out, rfl⟩), hide (X8.out.drewN nq), hide (RB8.out.ext ((Ext.refl _).drewN nq))⟩, by simp [intOf]; omega⟩
            · have hd : (0 : Int) < (i : Int) := by omega
              have hdn : 0 < i := by omega
              obtain ⟨j, hj⟩ : ∃ j, i = j + 1 := ⟨i - 1, by omega⟩
              have hw : IntKind.i64.wrap ((i : Int) - 1) = (j : Int) := by rw [IntKind.wrap_i64]; omega
              have hw1 : (i : Int) - 1 = (j : Int) := by omega
              have hj1 : (j : Int) < (nd : Int) := by omega
              have hj0 : (0 : Int) ≤ (j : Int) := by omega
              obtain ⟨⟨y2, z2⟩, he2, hl2, hge⟩ : ∃ e, L[j]? = some e ∧ e.1 = last ∧ 0 ≤ last := by
                rcases HLP.out with ⟨h, _⟩ | ⟨_, h2, e, h3, h4⟩
                · omega
                · rw [hj] at h3; exact ⟨e, h3, h4, h2⟩
              have hl3 : y2 = last := hl2
              obtain ⟨b3, o3, hD3, k3, -⟩ := (HR.out.ext X8.out).at he2
              injection hD3 with hD3
              injection hD3 with hD4 hD5
              subst hD4 hD5
              have HJ := hide hj
              have HGE := hide hge
              clear hj hl2 he2 hge
              subst hl3
              by_cases hle : y ≤ y2
              · have HF : Hid (risB (-1) L = false) := hide (by
                  rw [HB.out, HSTEP.out]
                  have e1 : decide (y2 < y) = false := by simp; omega
                  simp only [e1, Bool.false_and])
                clear hiz
                go_quiet ((go_at_call 29; exact Calls.quiet_of_same (KP.out _)))
                go_wp2
                go_ret
                exact ⟨by rw [HF.out]; rfl, X8.out.drewN nq⟩
              · have hle2 : decide (y ≤ y2) = false := decide_eq_false hle
                have HBN : Hid (risB (-1) L = risB y (L.drop (i + 1))) := hide (by
                  rw [HB.out, HSTEP.out]
                  have e1 : decide (y2 < y) = true := by simp; omega
                  have e2 : decide (y < 4096) = true := by simp; omega
                  rw [e1, e2]; rfl)
                clear hiz hle
                go_quiet ((go_at_call 29; exact Calls.quiet_of_same (KP.out _)))
                go_wp2
                refine ⟨⟨i + 1, y, by omega, by go_num, HBN, hide (.inr ⟨Nat.succ_pos _, hpg.1, _, HE.out, rfl⟩), hide (X8.out.drewN nq), hide (RB8.out.ext ((Ext.refl _).drewN nq))⟩, by simp [intOf]; omega⟩
        · have hii : ¬ (i : Int) < (nd : Int) := by omega
          have HT : Hid (risB (-1) L = true) := hide (by rw [HB.out, List.drop_of_length_le (by rw [HN.out]; omega)]; rfl)
          go_wp2
          go_ret
          exact ⟨by rw [HT.out]; rfl, HX.out⟩
    · have h0i : (64 : Int) < (nd : Int) := by omega
      have HV : chkN L nd op true = false := by simp [chkN]; omega
      rw [HV]
      clear HV
      go_enter Tryd.func18, Tryd.ntmps18
      go_wp2
      go_ret
      exact ⟨rfl, (Ext.alloc _ _).trans (Ext.alloc _ _)⟩
end Go.Proofs.YthdahgekodcloaaDoor
namespace Go.Proofs.YthdahgekodcloaaDoor
open Go.RowKit

theorem ret_bool {a b : Bool} (h : a = b) : Ending.returned (.bool a) = .returned (.bool b) := by rw [h]
def formN (k pv pg off nx : Int) (na nb nd : Nat) (L : List (Int × Int)) (op : Bool) : Bool := hok k && ((hpv k || (pv == 0)) && ((hnx k || (nx == 0)) && (chgN pg off na nb (hch k) (hbf k) && chkN L nd op (hck k))))
set_option maxRecDepth 20000 in
set_option maxHeartbeats 3200000 in
theorem form_any (k tx pv pg off nx : Int) (A B D : Option Addr) (nb a na b' nd d : Nat) (op : Bool) (w : World) (L : List (Int × Int)) (hr : RdD w D L) (hn : L.length = nd) (hnd : nd ≤ 140737488351232) (hna : na ≤ 140737488351232) (hnb : nb ≤ 140737488351232) (ho : -9223372036854775808 ≤ off) (ho2 : off < 9223372036854775808) :
    Calls Tryd.prog 9 #[.agg #[.int .u8 k, .int .u64 tx, .int .u64 pv, .int .i64 pg, .int .i64 off, .slice A nb a, .slice B na b', .int .u64 nx, .slice D nd d, .bool op]] w (RetB w (formN k pv pg off nx na nb nd L op)) := by
  obtain ⟨o, HO⟩ : ∃ o, Hid (hok k = o) := ⟨_, hide rfl⟩
  obtain ⟨p, HP⟩ : ∃ o, Hid (hpv k = o) := ⟨_, hide rfl⟩
  obtain ⟨c, HC⟩ : ∃ o, Hid (hch k = o) := ⟨_, hide rfl⟩
  obtain ⟨b, HB⟩ : ∃ o, Hid (hbf k = o) := ⟨_, hide rfl⟩
  obtain ⟨n, HN⟩ : ∃ o, Hid (hnx k = o) := ⟨_, hide rfl⟩
  obtain ⟨x, HX⟩ : ∃ o, Hid (hck k = o) := ⟨_, hide rfl⟩
  obtain ⟨g1, HG1⟩ : ∃ g, Hid (chgN pg off na nb c b = g) := ⟨_, hide rfl⟩
  obtain ⟨g2, HG2⟩ : ∃ g, Hid (chkN L nd op x = g) := ⟨_, hide rfl⟩
  have HV : formN k pv pg off nx na nb nd L op = (o && ((p || (pv == 0)) && ((n || (nx == 0)) && (g1 && g2)))) := by
    simp only [formN, HO.out, HP.out, HC.out, HB.out, HN.out, HX.out, HG1.out, HG2.out]
  rw [HV]
  have KP := hide (fun (W : World) => (show Calls Tryd.prog 16 #[.int .u8 k] W (fun e w' => e = .returned (.tuple #[.agg #[.bool p, .bool c, .bool b, .bool n, .bool x], .bool o]) ∧ Ext W w') from by have h := partsOf_any k W; unfold PartsP at h; rw [HO.out, HP.out, HC.out, HB.out, HN.out, HX.out] at h; exact h))
  have KC := hide (fun (W : World) => (show Calls Tryd.prog 17 #[.agg #[.int .u8 k, .int .u64 tx, .int .u64 pv, .int .i64 pg, .int .i64 off, .slice A nb a, .slice B na b', .int .u64 nx, .slice D nd d, .bool op], .agg #[.bool p, .bool c, .bool b, .bool n, .bool x]] W (RetB W g1) from by have h := changeFits_any k tx pv pg off nx A B D nb a na b' nd d op p c b n x W hna hnb ho ho2; rw [HG1.out] at h; exact h))
  have KK := hide (fun (W : World) (hW : Ext w W) => (show Calls Tryd.prog 18 #[.agg #[.int .u8 k, .int .u64 tx, .int .u64 pv, .int .i64 pg, .int .i64 off, .slice A nb a, .slice B na b', .int .u64 nx, .slice D nd d, .bool op], .agg #[.bool p, .bool c, .bool b, .bool n, .bool x]] W (RetB W g2) from by have h := checkFits_any k tx pv pg off nx A B D nb a na b' nd d op p c b n x W L (hr.ext hW) hn hnd; rw [HG2.out] at h; exact h))
  clear hr hn hnd hna hnb ho ho2 HV HO HP HC HB HN HX HG1 HG2
  go_enter Tryd.func9, Tryd.ntmps9
  go_upto_region 1 with fail
  obtain ⟨W1, hX1, hR1, hg⟩ : ∃ W1, Ext w W1 ∧ Rw W1 w.heap.size 26 [.int .u8 k, .int .u64 tx, .int .u64 pv, .int .i64 pg, .int .i64 off, .slice A nb a, .slice B na b', .int .u64 nx, .slice D nd d, .bool op] ∧ w.alloc (.cells #[.int .u8 k, .int .u64 tx, .int .u64 pv, .int .i64 pg, .int .i64 off, .slice A nb a, .slice B na b', .int .u64 nx, .slice D nd d, .bool op] 26) = W1 := ⟨_, Ext.alloc _ _, Rw.new _ _ _, rfl⟩
  rw [hg]
  obtain ⟨hb, HHB⟩ : ∃ hb, Hid (w.heap.size = hb) := ⟨_, hide rfl⟩
  rw [HHB.out] at hR1 ⊢
  have X1 := hide hX1
  have R1 := hide hR1
  have y0 := R1.out.cell (i := 0) rfl
  clear hg hX1 hR1
  go_upto_region 2 with (go_at_call 16; (with_reducible refine (KP.out _).mono ?_); rintro e w2 ⟨rfl, hx2⟩; have X2 := hide (X1.out.trans hx2); have R2 := hide (R1.out.ext hx2); clear hx2)
  clear y0
  obtain ⟨W3, hX3, hR3, hE3, hg⟩ : ∃ W3, Ext w W3 ∧ Rw W3 w2.heap.size 42 [.bool p, .bool c, .bool b, .bool n, .bool x] ∧ Ext w2 W3 ∧ w2.alloc (.cells #[.bool p, .bool c, .bool b, .bool n, .bool x] 42) = W3 := ⟨_, X2.out.trans (Ext.alloc _ _), Rw.new _ _ _, Ext.alloc _ _, rfl⟩
  rw [hg]
  obtain ⟨hq, HHQ⟩ : ∃ hq, Hid (w2.heap.size = hq) := ⟨_, hide rfl⟩
  rw [HHQ.out] at hR3 ⊢
  have X3 := hide hX3
  have R3 := hide (R2.out.ext hE3)
  have Q3 := hide hR3
  clear hg hX3 hR3 hE3 X1 X2 R1 R2 HHB HHQ KP
  have c0 := R3.out.cell (i := 0) rfl
  have c1 := R3.out.cell (i := 1) rfl
  have c2 := R3.out.cell (i := 2) rfl
  have c3 := R3.out.cell (i := 3) rfl
  have c4 := R3.out.cell (i := 4) rfl
  have c5 := R3.out.cell (i := 5) rfl
  have c6 := R3.out.cell (i := 6) rfl
  have c7 := R3.out.cell (i := 7) rfl
  have c8 := R3.out.cell (i := 8) rfl
  have c9 := R3.out.cell (i := 9) rfl
  have q0 := Q3.out.cell (i := 0) rfl
  have q1 := Q3.out.cell (i := 1) rfl
  have q2 := Q3.out.cell (i := 2) rfl
  have q3 := Q3.out.cell (i := 3) rfl
  have q4 := Q3.out.cell (i := 4) rfl
  cases o with
  | false =>
    go_wp2_with (first
      | (go_at_call 17; (with_reducible refine (KC.out _).mono ?_); rintro e w4 ⟨rfl, hx4⟩; have X4 := hide (X3.out.trans hx4); have d0 := (R3.out.ext hx4).cell (i := 0) rfl; have d1 := (R3.out.ext hx4).cell (i := 1) rfl; have d2 := (R3.out.ext hx4).cell (i := 2) rfl; have d3 := (R3.out.ext hx4).cell (i := 3) rfl; have d4 := (R3.out.ext hx4).cell (i := 4) rfl; have d5 := (R3.out.ext hx4).cell (i := 5) rfl; have d6 := (R3.out.ext hx4).cell (i := 6) rfl; have d7 := (R3.out.ext hx4).cell (i := 7) rfl; have d8 := (R3.out.ext hx4).cell (i := 8) rfl; have d9 := (R3.out.ext hx4).cell (i := 9) rfl; have r0 := (Q3.out.ext hx4).cell (i := 0) rfl; have r1 := (Q3.out.ext hx4).cell (i := 1) rfl; have r2 := (Q3.out.ext hx4).cell (i := 2) rfl; have r3 := (Q3.out.ext hx4).cell (i := 3) rfl; have r4 := (Q3.out.ext hx4).cell (i := 4) rfl; clear hx4)
      | (go_at_call 18; (with_reducible refine (KK.out _ X4.out).mono ?_); rintro e w5 ⟨rfl, hx5⟩; have X5 := hide (X4.out.trans hx5); clear hx5))
    go_ret
    exact ⟨rfl, X3.out⟩
  | true =>
    cases p with
    | true =>
      cases n with
      | true =>
        cases g1 with
        | false =>
          go_wp2_with (first
            | (go_at_call 17; (with_reducible refine (KC.out _).mono ?_); rintro e w4 ⟨rfl, hx4⟩; have X4 := hide (X3.out.trans hx4); have d0 := (R3.out.ext hx4).cell (i := 0) rfl; have d1 := (R3.out.ext hx4).cell (i := 1) rfl; have d2 := (R3.out.ext hx4).cell (i := 2) rfl; have d3 := (R3.out.ext hx4).cell (i := 3) rfl; have d4 := (R3.out.ext hx4).cell (i := 4) rfl; have d5 := (R3.out.ext hx4).cell (i := 5) rfl; have d6 := (R3.out.ext hx4).cell (i := 6) rfl; have d7 := (R3.out.ext hx4).cell (i := 7) rfl; have d8 := (R3.out.ext hx4).cell (i := 8) rfl; have d9 := (R3.out.ext hx4).cell (i := 9) rfl; have r0 := (Q3.out.ext hx4).cell (i := 0) rfl; have r1 := (Q3.out.ext hx4).cell (i := 1) rfl; have r2 := (Q3.out.ext hx4).cell (i := 2) rfl; have r3 := (Q3.out.ext hx4).cell (i := 3) rfl; have r4 := (Q3.out.ext hx4).cell (i := 4) rfl; clear hx4)
            | (go_at_call 18; (with_reducible refine (KK.out _ X4.out).mono ?_); rintro e w5 ⟨rfl, hx5⟩; have X5 := hide (X4.out.trans hx5); clear hx5))
          go_ret
          exact ⟨rfl, X4.out⟩
        | true =>
          go_wp2_with (first
            | (go_at_call 17; (with_reducible refine (KC.out _).mono ?_); rintro e w4 ⟨rfl, hx4⟩; have X4 := hide (X3.out.trans hx4); have d0 := (R3.out.ext hx4).cell (i := 0) rfl; have d1 := (R3.out.ext hx4).cell (i := 1) rfl; have d2 := (R3.out.ext hx4).cell (i := 2) rfl; have d3 := (R3.out.ext hx4).cell (i := 3) rfl; have d4 := (R3.out.ext hx4).cell (i := 4) rfl; have d5 := (R3.out.ext hx4).cell (i := 5) rfl; have d6 := (R3.out.ext hx4).cell (i := 6) rfl; have d7 := (R3.out.ext hx4).cell (i := 7) rfl; have d8 := (R3.out.ext hx4).cell (i := 8) rfl; have d9 := (R3.out.ext hx4).cell (i := 9) rfl; have r0 := (Q3.out.ext hx4).cell (i := 0) rfl; have r1 := (Q3.out.ext hx4).cell (i := 1) rfl; have r2 := (Q3.out.ext hx4).cell (i := 2) rfl; have r3 := (Q3.out.ext hx4).cell (i := 3) rfl; have r4 := (Q3.out.ext hx4).cell (i := 4) rfl; clear hx4)
            | (go_at_call 18; (with_reducible refine (KK.out _ X4.out).mono ?_); rintro e w5 ⟨rfl, hx5⟩; have X5 := hide (X4.out.trans hx5); clear hx5))
          go_ret
          exact ⟨rfl, X5.out⟩
      | false =>
        by_cases hn : nx = 0
        · subst hn
          cases g1 with
          | false =>
            go_wp2_with (first
              | (go_at_call 17; (with_reducible refine (KC.out _).mono ?_); rintro e w4 ⟨rfl, hx4⟩; have X4 := hide (X3.out.trans hx4); have d0 := (R3.out.ext hx4).cell (i := 0) rfl; have d1 := (R3.out.ext hx4).cell (i := 1) rfl; have d2 := (R3.out.ext hx4).cell (i := 2) rfl; have d3 := (R3.out.ext hx4).cell (i := 3) rfl; have d4 := (R3.out.ext hx4).cell (i := 4) rfl; have d5 := (R3.out.ext hx4).cell (i := 5) rfl; have d6 := (R3.out.ext hx4).cell (i := 6) rfl; have d7 := (R3.out.ext hx4).cell (i := 7) rfl; have d8 := (R3.out.ext hx4).cell (i := 8) rfl; have d9 := (R3.out.ext hx4).cell (i := 9) rfl; have r0 := (Q3.out.ext hx4).cell (i := 0) rfl; have r1 := (Q3.out.ext hx4).cell (i := 1) rfl; have r2 := (Q3.out.ext hx4).cell (i := 2) rfl; have r3 := (Q3.out.ext hx4).cell (i := 3) rfl; have r4 := (Q3.out.ext hx4).cell (i := 4) rfl; clear hx4)
              | (go_at_call 18; (with_reducible refine (KK.out _ X4.out).mono ?_); rintro e w5 ⟨rfl, hx5⟩; have X5 := hide (X4.out.trans hx5); clear hx5))
            go_ret
            exact ⟨rfl, X4.out⟩
          | true =>
            go_wp2_with (first
              | (go_at_call 17; (with_reducible refine (KC.out _).mono ?_); rintro e w4 ⟨rfl, hx4⟩; have X4 := hide (X3.out.trans hx4); have d0 := (R3.out.ext hx4).cell (i := 0) rfl; have d1 := (R3.out.ext hx4).cell (i := 1) rfl; have d2 := (R3.out.ext hx4).cell (i := 2) rfl; have d3 := (R3.out.ext hx4).cell (i := 3) rfl; have d4 := (R3.out.ext hx4).cell (i := 4) rfl; have d5 := (R3.out.ext hx4).cell (i := 5) rfl; have d6 := (R3.out.ext hx4).cell (i := 6) rfl; have d7 := (R3.out.ext hx4).cell (i := 7) rfl; have d8 := (R3.out.ext hx4).cell (i := 8) rfl; have d9 := (R3.out.ext hx4).cell (i := 9) rfl; have r0 := (Q3.out.ext hx4).cell (i := 0) rfl; have r1 := (Q3.out.ext hx4).cell (i := 1) rfl; have r2 := (Q3.out.ext hx4).cell (i := 2) rfl; have r3 := (Q3.out.ext hx4).cell (i := 3) rfl; have r4 := (Q3.out.ext hx4).cell (i := 4) rfl; clear hx4)
              | (go_at_call 18; (with_reducible refine (KK.out _ X4.out).mono ?_); rintro e w5 ⟨rfl, hx5⟩; have X5 := hide (X4.out.trans hx5); clear hx5))
            go_ret
            exact ⟨rfl, X5.out⟩
        · have en : (nx == 0) = false := by simp [hn]
          go_wp2_with (first
            | (go_at_call 17; (with_reducible refine (KC.out _).mono ?_); rintro e w4 ⟨rfl, hx4⟩; have X4 := hide (X3.out.trans hx4); have d0 := (R3.out.ext hx4).cell (i := 0) rfl; have d1 := (R3.out.ext hx4).cell (i := 1) rfl; have d2 := (R3.out.ext hx4).cell (i := 2) rfl; have d3 := (R3.out.ext hx4).cell (i := 3) rfl; have d4 := (R3.out.ext hx4).cell (i := 4) rfl; have d5 := (R3.out.ext hx4).cell (i := 5) rfl; have d6 := (R3.out.ext hx4).cell (i := 6) rfl; have d7 := (R3.out.ext hx4).cell (i := 7) rfl; have d8 := (R3.out.ext hx4).cell (i := 8) rfl; have d9 := (R3.out.ext hx4).cell (i := 9) rfl; have r0 := (Q3.out.ext hx4).cell (i := 0) rfl; have r1 := (Q3.out.ext hx4).cell (i := 1) rfl; have r2 := (Q3.out.ext hx4).cell (i := 2) rfl; have r3 := (Q3.out.ext hx4).cell (i := 3) rfl; have r4 := (Q3.out.ext hx4).cell (i := 4) rfl; clear hx4)
            | (go_at_call 18; (with_reducible refine (KK.out _ X4.out).mono ?_); rintro e w5 ⟨rfl, hx5⟩; have X5 := hide (X4.out.trans hx5); clear hx5))
          go_ret
          exact ⟨by rw [en]; rfl, X3.out⟩
    | false =>
      by_cases hp : pv = 0
      · subst hp
        cases n with
        | true =>
          cases g1 with
          | false =>
            go_wp2_with (first
              | (go_at_call 17; (with_reducible refine (KC.out _).mono ?_); rintro e w4 ⟨rfl, hx4⟩; have X4 := hide (X3.out.trans hx4); have d0 := (R3.out.ext hx4).cell (i := 0) rfl; have d1 := (R3.out.ext hx4).cell (i := 1) rfl; have d2 := (R3.out.ext hx4).cell (i := 2) rfl; have d3 := (R3.out.ext hx4).cell (i := 3) rfl; have d4 := (R3.out.ext hx4).cell (i := 4) rfl; have d5 := (R3.out.ext hx4).cell (i := 5) rfl; have d6 := (R3.out.ext hx4).cell (i := 6) rfl; have d7 := (R3.out.ext hx4).cell (i := 7) rfl; have d8 := (R3.out.ext hx4).cell (i := 8) rfl; have d9 := (R3.out.ext hx4).cell (i := 9) rfl; have r0 := (Q3.out.ext hx4).cell (i := 0) rfl; have r1 := (Q3.out.ext hx4).cell (i := 1) rfl; have r2 := (Q3.out.ext hx4).cell (i := 2) rfl; have r3 := (Q3.out.ext hx4).cell (i := 3) rfl; have r4 := (Q3.out.ext hx4).cell (i := 4) rfl; clear hx4)
              | (go_at_call 18; (with_reducible refine (KK.out _ X4.out).mono ?_); rintro e w5 ⟨rfl, hx5⟩; have X5 := hide (X4.out.trans hx5); clear hx5))
            go_ret
            exact ⟨rfl, X4.out⟩
          | true =>
            go_wp2_with (first
              | (go_at_call 17; (with_reducible refine (KC.out _).mono ?_); rintro e w4 ⟨rfl, hx4⟩; have X4 := hide (X3.out.trans hx4); have d0 := (R3.out.ext hx4).cell (i := 0) rfl; have d1 := (R3.out.ext hx4).cell (i := 1) rfl; have d2 := (R3.out.ext hx4).cell (i := 2) rfl; have d3 := (R3.out.ext hx4).cell (i := 3) rfl; have d4 := (R3.out.ext hx4).cell (i := 4) rfl; have d5 := (R3.out.ext hx4).cell (i := 5) rfl; have d6 := (R3.out.ext hx4).cell (i := 6) rfl; have d7 := (R3.out.ext hx4).cell (i := 7) rfl; have d8 := (R3.out.ext hx4).cell (i := 8) rfl; have d9 := (R3.out.ext hx4).cell (i := 9) rfl; have r0 := (Q3.out.ext hx4).cell (i := 0) rfl; have r1 := (Q3.out.ext hx4).cell (i := 1) rfl; have r2 := (Q3.out.ext hx4).cell (i := 2) rfl; have r3 := (Q3.out.ext hx4).cell (i := 3) rfl; have r4 := (Q3.out.ext hx4).cell (i := 4) rfl; clear hx4)
              | (go_at_call 18; (with_reducible refine (KK.out _ X4.out).mono ?_); rintro e w5 ⟨rfl, hx5⟩; have X5 := hide (X4.out.trans hx5); clear hx5))
            go_ret
            exact ⟨rfl, X5.out⟩
        | false =>
          by_cases hn : nx = 0
          · subst hn
            cases g1 with
            | false =>
              go_wp2_with (first
                | (go_at_call 17; (with_reducible refine (KC.out _).mono ?_); rintro e w4 ⟨rfl, hx4⟩; have X4 := hide (X3.out.trans hx4); have d0 := (R3.out.ext hx4).cell (i := 0) rfl; have d1 := (R3.out.ext hx4).cell (i := 1) rfl; have d2 := (R3.out.ext hx4).cell (i := 2) rfl; have d3 := (R3.out.ext hx4).cell (i := 3) rfl; have d4 := (R3.out.ext hx4).cell (i := 4) rfl; have d5 := (R3.out.ext hx4).cell (i := 5) rfl; have d6 := (R3.out.ext hx4).cell (i := 6) rfl; have d7 := (R3.out.ext hx4).cell (i := 7) rfl; have d8 := (R3.out.ext hx4).cell (i := 8) rfl; have d9 := (R3.out.ext hx4).cell (i := 9) rfl; have r0 := (Q3.out.ext hx4).cell (i := 0) rfl; have r1 := (Q3.out.ext hx4).cell (i := 1) rfl; have r2 := (Q3.out.ext hx4).cell (i := 2) rfl; have r3 := (Q3.out.ext hx4).cell (i := 3) rfl; have r4 := (Q3.out.ext hx4).cell (i := 4) rfl; clear hx4)
                | (go_at_call 18; (with_reducible refine (KK.out _ X4.out).mono ?_); rintro e w5 ⟨rfl, hx5⟩; have X5 := hide (X4.out.trans hx5); clear hx5))
              go_ret
              exact ⟨rfl, X4.out⟩
            | true =>
              go_wp2_with (first
                | (go_at_call 17; (with_reducible refine (KC.out _).mono ?_); rintro e w4 ⟨rfl, hx4⟩; have X4 := hide (X3.out.trans hx4); have d0 := (R3.out.ext hx4).cell (i := 0) rfl; have d1 := (R3.out.ext hx4).cell (i := 1) rfl; have d2 := (R3.out.ext hx4).cell (i := 2) rfl; have d3 := (R3.out.ext hx4).cell (i := 3) rfl; have d4 := (R3.out.ext hx4).cell (i := 4) rfl; have d5 := (R3.out.ext hx4).cell (i := 5) rfl; have d6 := (R3.out.ext hx4).cell (i := 6) rfl; have d7 := (R3.out.ext hx4).cell (i := 7) rfl; have d8 := (R3.out.ext hx4).cell (i := 8) rfl; have d9 := (R3.out.ext hx4).cell (i := 9) rfl; have r0 := (Q3.out.ext hx4).cell (i := 0) rfl; have r1 := (Q3.out.ext hx4).cell (i := 1) rfl; have r2 := (Q3.out.ext hx4).cell (i := 2) rfl; have r3 := (Q3.out.ext hx4).cell (i := 3) rfl; have r4 := (Q3.out.ext hx4).cell (i := 4) rfl; clear hx4)
                | (go_at_call 18; (with_reducible refine (KK.out _ X4.out).mono ?_); rintro e w5 ⟨rfl, hx5⟩; have X5 := hide (X4.out.trans hx5); clear hx5))
              go_ret
              exact ⟨rfl, X5.out⟩
          · have en : (nx == 0) = false := by simp [hn]
            go_wp2_with (first
              | (go_at_call 17; (with_reducible refine (KC.out _).mono ?_); rintro e w4 ⟨rfl, hx4⟩; have X4 := hide (X3.out.trans hx4); have d0 := (R3.out.ext hx4).cell (i := 0) rfl; have d1 := (R3.out.ext hx4).cell (i := 1) rfl; have d2 := (R3.out.ext hx4).cell (i := 2) rfl; have d3 := (R3.out.ext hx4).cell (i := 3) rfl; have d4 := (R3.out.ext hx4).cell (i := 4) rfl; have d5 := (R3.out.ext hx4).cell (i := 5) rfl; have d6 := (R3.out.ext hx4).cell (i := 6) rfl; have d7 := (R3.out.ext hx4).cell (i := 7) rfl; have d8 := (R3.out.ext hx4).cell (i := 8) rfl; have d9 := (R3.out.ext hx4).cell (i := 9) rfl; have r0 := (Q3.out.ext hx4).cell (i := 0) rfl; have r1 := (Q3.out.ext hx4).cell (i := 1) rfl; have r2 := (Q3.out.ext hx4).cell (i := 2) rfl; have r3 := (Q3.out.ext hx4).cell (i := 3) rfl; have r4 := (Q3.out.ext hx4).cell (i := 4) rfl; clear hx4)
              | (go_at_call 18; (with_reducible refine (KK.out _ X4.out).mono ?_); rintro e w5 ⟨rfl, hx5⟩; have X5 := hide (X4.out.trans hx5); clear hx5))
            go_ret
            exact ⟨by rw [en]; rfl, X3.out⟩
      · have ep : (pv == 0) = false := by simp [hp]
        go_wp2_with (first
          | (go_at_call 17; (with_reducible refine (KC.out _).mono ?_); rintro e w4 ⟨rfl, hx4⟩; have X4 := hide (X3.out.trans hx4); have d0 := (R3.out.ext hx4).cell (i := 0) rfl; have d1 := (R3.out.ext hx4).cell (i := 1) rfl; have d2 := (R3.out.ext hx4).cell (i := 2) rfl; have d3 := (R3.out.ext hx4).cell (i := 3) rfl; have d4 := (R3.out.ext hx4).cell (i := 4) rfl; have d5 := (R3.out.ext hx4).cell (i := 5) rfl; have d6 := (R3.out.ext hx4).cell (i := 6) rfl; have d7 := (R3.out.ext hx4).cell (i := 7) rfl; have d8 := (R3.out.ext hx4).cell (i := 8) rfl; have d9 := (R3.out.ext hx4).cell (i := 9) rfl; have r0 := (Q3.out.ext hx4).cell (i := 0) rfl; have r1 := (Q3.out.ext hx4).cell (i := 1) rfl; have r2 := (Q3.out.ext hx4).cell (i := 2) rfl; have r3 := (Q3.out.ext hx4).cell (i := 3) rfl; have r4 := (Q3.out.ext hx4).cell (i := 4) rfl; clear hx4)
          | (go_at_call 18; (with_reducible refine (KK.out _ X4.out).mono ?_); rintro e w5 ⟨rfl, hx5⟩; have X5 := hide (X4.out.trans hx5); clear hx5))
        go_ret
        exact ⟨by rw [ep]; rfl, X3.out⟩
end Go.Proofs.YthdahgekodcloaaDoor
namespace Go.Proofs.YthdahgekodcloaaDoor
open Go.RowKit

set_option maxHeartbeats 400000 in
theorem uint_any (u : Int) (w : World) (h0 : 0 ≤ u) (h1 : u < 18446744073709551616) :
    Calls Tryd.prog 30 #[.int .u64 u] w (Ret w (Bytes (be64 u))) := by
  have hmk : ∀ w, (Instr.makeSlice 23 (.int .i64 8) (.int .i64 8)).run Tryd.prog w = .ok (.slice (some ⟨w.heap.size, 0, none⟩) 8 8) (w.alloc (.cells #[.int .u8 0, .int .u8 0, .int .u8 0, .int .u8 0, .int .u8 0, .int .u8 0, .int .u8 0, .int .u8 0] 5)) := fun _ => by kernel_rfl
  go_enter Tryd.func30, Tryd.ntmps30
  go_wp2
  go_rounds 9
  go_ret
  exact Ret.mk (Ext.alloc _ _) (Bytes.new _ _ _ _ (by rw [be64_cells u h0 h1]) rfl (Nat.le_refl _))

set_option maxHeartbeats 400000 in
theorem ruint_any (u : Int) (w : World) (h0 : 0 ≤ u) (h1 : u < 18446744073709551616) :
    Calls Tryd.prog 24 #[.int .u64 u] w (Ret w (Bytes (be64 u))) := by
  go_enter Tryd.func24, Tryd.ntmps24
  go_wp2
  refine wp_loop_rounds 9 ?_
  have hown : Own w w.heap.size (.slice none 0 0) [] := Own.nil _ _
  have hb : Below w.heap.size w w := Below.refl _ _
  iterate 8
    rw [rounds_succ]
    go_wp2_with (at_builtin; refine wpList_push rfl (.tmp 9) (.tmp 15) rfl w.heap.size _ _ rfl rfl (by assumption) (by omega) (by omega) (Below.size hb) (by simp) ?_; intro v1 w1 hown1 hb1; replace hb := Below.trans hb hb1; clear hb1)
  rw [rounds_succ]
  go_wp2
  go_ret
  refine Ret.mk hb ?_
  have e : be64 u = [] ++ [b8 (u / 72057594037927936)] ++ [b8 (u / 281474976710656 % 256)] ++ [b8 (u / 1099511627776 % 256)] ++ [b8 (u / 4294967296 % 256)] ++
      [b8 (u / 16777216 % 256)] ++ [b8 (u / 65536 % 256)] ++ [b8 (u / 256 % 256)] ++ [b8 (u % 256)] := by
    have e : u / 72057594037927936 % 256 = u / 72057594037927936 := by omega
    simp [be64, e]
  rw [e]
  exact Own.bytes (by assumption)

end Go.Proofs.YthdahgekodcloaaDoor
namespace Go.Proofs.YthdahgekodcloaaDoor
open Go.RowKit

/-- The last n bytes of a number. -/
def numN (n : Nat) (u : Int) : List UInt8 := (be64 u).drop (8 - n)
theorem numN_length (n : Nat) (u : Int) (h : n ≤ 8) : (numN n u).length = n := by rw [numN, List.length_drop, be64_length]; omega
/-- Blocks that aren't bytes stay. -/
def Stay (w w' : World) : Prop := ∀ (g : Nat) (t : TypeId) (vs : List Value), t ≠ 5 → Rw w g t vs → Rw w' g t vs
theorem Stay.ext {w w' : World} (h : Ext w w') : Stay w w' := fun _ _ _ _ hr => hr.ext h
theorem Stay.trans {a b c : World} (h : Stay a b) (k : Stay b c) : Stay a c := fun g t vs ht hr => k g t vs ht (h g t vs ht hr)
/-- What a call leaves that puts bytes behind v. -/
def AddP (w : World) (B : Nat) (l : List UInt8) (e : Ending) (w' : World) : Prop := ∃ v', e = .returned v' ∧ Own w' B v' l ∧ Below B w w' ∧ Stay w w'
theorem own_apartR {w : World} {B g : Nat} {t : TypeId} {v : Value} {l : List UInt8} {vs : List Value} (h : Rw w g t vs) (ht : t ≠ 5) (ho : Own w B v l) : some g ≠ v.ownBlock := fun e => by
  rcases ho.2 with ⟨rfl, _⟩ | ⟨g2, cap, cur, rfl, _, hg, _⟩
  · cases e
  · injection e with e
    subst e
    unfold Rw at h
    rw [hg] at h
    injection h with h
    injection h with _ h2
    exact ht h2.symm
/-- A block of another kind stays. -/
theorem Rw.grown {w w' : World} {B g : Nat} {t : TypeId} {v : Value} {l : List UInt8} {vs : List Value} (h : Rw w g t vs) (ht : t ≠ 5) (ho : Own w B v l) (hg : w.grownBy w' v.ownBlock) : Rw w' g t vs :=
  (hg.block g h.lt (own_apartR h ht ho)).trans h
theorem Ext.below {w0 w w' : World} {B : Nat} (hx : Ext w0 w) (hB : w0.heap.size ≤ B) (hb : Below B w w') : Ext w0 w' := Below.trans hx (hb.mono hB)
section
variable {ops : Array Oper} {rest : List Oper} {o : Oper} {a : Act} {Q : Exit → Act → World → Prop} {w : World}
theorem wpList_catG (hgd : Region.wanted o (yielded ops a.tmps) = true) (s x : Operand) (ho : o.op = .call { callee := .builtin .append, args := #[s, x], argTypes := #[23, 23] })
    (base : Nat) (v : Value) (l m : List UInt8) (A : Option Addr) (n c : Nat) (hs : a.eval s = v) (hx : a.eval x = .slice A n c) (hn : n = m.length) (hown : Own w base v l) (hr : Rd w A m) (hbase : base ≤ w.heap.size) (hlen : l.length + m.length ≤ 140737488355328)
    (h : ∀ v' w', Own w' base v' (l ++ m) → Below base w w' → Stay w w' → wpList Tryd.prog ops Q rest (a.put o.dst v') w') : wpList Tryd.prog ops Q (o :: rest) a w := by
  subst hn
  obtain ⟨v', w', hrun, h2, h4, h3⟩ := run_cat w base o.type v l m A c hown hr hbase hlen
  refine wpList_wanted hgd fun K hK => ?_
  unfold Oper.wp execOp
  simp only [ho, resolve, invoke, builtin, Sem.run_bind, Sem.run_pure, Result.andThen_ok, List.map_toArray, List.map_cons, List.map_nil, hs, hx, hrun]
  exact hK _ _ (h v' w' h2 h4 (fun _ _ _ ht hr => hr.grown ht hown h3))
end
set_option maxHeartbeats 800000 in
theorem appendNumber_1 (v : Value) (l : List UInt8) (u : Int) (B : Nat) (w : World) (ho : Own w B v l) (hB : B ≤ w.heap.size) (h0 : 0 ≤ u) (h1 : u < 18446744073709551616) (hl : l.length ≤ 4398046511104) :
    Calls Tryd.prog 19 #[v, .int .u64 u, .int .i64 1] w (AddP w B (l ++ numN 1 u)) := by
  have KU := hide (fun (W : World) => uint_any u W h0 h1)
  have HO := hide ho
  have HB := hide hB
  have HL := hide hl
  clear ho hB h0 h1 hl
  go_enter Tryd.func19, Tryd.ntmps19
  go_upto_region 2 with (go_at_call 30; (with_reducible refine (KU.out _).mono ?_); rintro e w1 ⟨v1, rfl, hx1, A1, c1, rfl, hc1, hr1⟩; have X1 := hide hx1; have R1 := hide hr1; clear hx1 hr1)
  have hc8 : 8 ≤ c1 := hc1
  have HLN := hide (be64_length u)
  rw [HLN.out]
  obtain ⟨b1, o1, hA1, -⟩ := R1.out (by intro e; have := HLN.out; rw [e] at this; cases this)
  subst hA1
  have RD : Hid (Rd w1 (some ⟨b1, o1 + 7, none⟩) (numN 1 u)) := hide (by have h := R1.out.drop 7; rw [add_flat] at h; exact h)
  have hck : ¬ c1 = 7 := by omega
  have hci : (7 : Int) ≤ (c1 : Int) := by omega
  have hci8 : (8 : Int) ≤ (c1 : Int) := by omega
  clear hc1
  go_wp2_with (refine wpList_catG rfl (.tmp 10) (.tmp 16) rfl B v l (numN 1 u) (some ⟨b1, o1 + 7, none⟩) 1 _ rfl rfl (numN_length _ _ (by decide)).symm (HO.out.ext X1.out) RD.out (Nat.le_trans HB.out X1.out.size) (by rw [numN_length _ _ (by decide)]; have := HL.out; omega) ?_; intro v2 w2 ho2 hb2 hs2)
  go_ret
  exact ⟨v2, rfl, ho2, (Below.mono X1.out HB.out).trans hb2, (Stay.ext X1.out).trans hs2⟩
set_option maxHeartbeats 800000 in
theorem appendNumber_2 (v : Value) (l : List UInt8) (u : Int) (B : Nat) (w : World) (ho : Own w B v l) (hB : B ≤ w.heap.size) (h0 : 0 ≤ u) (h1 : u < 18446744073709551616) (hl : l.length ≤ 4398046511104) :
    Calls Tryd.prog 19 #[v, .int .u64 u, .int .i64 2] w (AddP w B (l ++ numN 2 u)) := by
  have KU := hide (fun (W : World) => uint_any u W h0 h1)
  have HO := hide ho
  have HB := hide hB
  have HL := hide hl
  clear ho hB h0 h1 hl
  go_enter Tryd.func19, Tryd.ntmps19
  go_upto_region 2 with (go_at_call 30; (with_reducible refine (KU.out _).mono ?_); rintro e w1 ⟨v1, rfl, hx1, A1, c1, rfl, hc1, hr1⟩; have X1 := hide hx1; have R1 := hide hr1; clear hx1 hr1)
  have hc8 : 8 ≤ c1 := hc1
  have HLN := hide (be64_length u)
  rw [HLN.out]
  obtain ⟨b1, o1, hA1, -⟩ := R1.out (by intro e; have := HLN.out; rw [e] at this; cases this)
  subst hA1
  have RD : Hid (Rd w1 (some ⟨b1, o1 + 6, none⟩) (numN 2 u)) := hide (by have h := R1.out.drop 6; rw [add_flat] at h; exact h)
  have hck : ¬ c1 = 6 := by omega
  have hci : (6 : Int) ≤ (c1 : Int) := by omega
  have hci8 : (8 : Int) ≤ (c1 : Int) := by omega
  clear hc1
  go_wp2_with (refine wpList_catG rfl (.tmp 10) (.tmp 16) rfl B v l (numN 2 u) (some ⟨b1, o1 + 6, none⟩) 2 _ rfl rfl (numN_length _ _ (by decide)).symm (HO.out.ext X1.out) RD.out (Nat.le_trans HB.out X1.out.size) (by rw [numN_length _ _ (by decide)]; have := HL.out; omega) ?_; intro v2 w2 ho2 hb2 hs2)
  go_ret
  exact ⟨v2, rfl, ho2, (Below.mono X1.out HB.out).trans hb2, (Stay.ext X1.out).trans hs2⟩
set_option maxHeartbeats 800000 in
theorem appendNumber_4 (v : Value) (l : List UInt8) (u : Int) (B : Nat) (w : World) (ho : Own w B v l) (hB : B ≤ w.heap.size) (h0 : 0 ≤ u) (h1 : u < 18446744073709551616) (hl : l.length ≤ 4398046511104) :
    Calls Tryd.prog 19 #[v, .int .u64 u, .int .i64 4] w (AddP w B (l ++ numN 4 u)) := by
  have KU := hide (fun (W : World) => uint_any u W h0 h1)
  have HO := hide ho
  have HB := hide hB
  have HL := hide hl
  clear ho hB h0 h1 hl
  go_enter Tryd.func19, Tryd.ntmps19
  go_upto_region 2 with (go_at_call 30; (with_reducible refine (KU.out _).mono ?_); rintro e w1 ⟨v1, rfl, hx1, A1, c1, rfl, hc1, hr1⟩; have X1 := hide hx1; have R1 := hide hr1; clear hx1 hr1)
  have hc8 : 8 ≤ c1 := hc1
  have HLN := hide (be64_length u)
  rw [HLN.out]
  obtain ⟨b1, o1, hA1, -⟩ := R1.out (by intro e; have := HLN.out; rw [e] at this; cases this)
  subst hA1
  have RD : Hid (Rd w1 (some ⟨b1, o1 + 4, none⟩) (numN 4 u)) := hide (by have h := R1.out.drop 4; rw [add_flat] at h; exact h)
  have hck : ¬ c1 = 4 := by omega
  have hci : (4 : Int) ≤ (c1 : Int) := by omega
  have hci8 : (8 : Int) ≤ (c1 : Int) := by omega
  clear hc1
  go_wp2_with (refine wpList_catG rfl (.tmp 10) (.tmp 16) rfl B v l (numN 4 u) (some ⟨b1, o1 + 4, none⟩) 4 _ rfl rfl (numN_length _ _ (by decide)).symm (HO.out.ext X1.out) RD.out (Nat.le_trans HB.out X1.out.size) (by rw [numN_length _ _ (by decide)]; have := HL.out; omega) ?_; intro v2 w2 ho2 hb2 hs2)
  go_ret
  exact ⟨v2, rfl, ho2, (Below.mono X1.out HB.out).trans hb2, (Stay.ext X1.out).trans hs2⟩
set_option maxHeartbeats 800000 in
theorem appendNumber_8 (v : Value) (l : List UInt8) (u : Int) (B : Nat) (w : World) (ho : Own w B v l) (hB : B ≤ w.heap.size) (h0 : 0 ≤ u) (h1 : u < 18446744073709551616) (hl : l.length ≤ 4398046511104) :
    Calls Tryd.prog 19 #[v, .int .u64 u, .int .i64 8] w (AddP w B (l ++ numN 8 u)) := by
  have KU := hide (fun (W : World) => uint_any u W h0 h1)
  have HO := hide ho
  have HB := hide hB
  have HL := hide hl
  clear ho hB h0 h1 hl
  go_enter Tryd.func19, Tryd.ntmps19
  go_upto_region 2 with (go_at_call 30; (with_reducible refine (KU.out _).mono ?_); rintro e w1 ⟨v1, rfl, hx1, A1, c1, rfl, hc1, hr1⟩; have X1 := hide hx1; have R1 := hide hr1; clear hx1 hr1)
  have hc8 : 8 ≤ c1 := hc1
  have HLN := hide (be64_length u)
  rw [HLN.out]
  obtain ⟨b1, o1, hA1, -⟩ := R1.out (by intro e; have := HLN.out; rw [e] at this; cases this)
  subst hA1
  have RD : Hid (Rd w1 (some ⟨b1, o1 + 0, none⟩) (numN 8 u)) := hide (by have h := R1.out.drop 0; rw [add_flat] at h; exact h)
  have hck : ¬ c1 = 0 := by omega
  have hci : (0 : Int) ≤ (c1 : Int) := by omega
  have hci8 : (8 : Int) ≤ (c1 : Int) := by omega
  clear hc1
  go_wp2_with (refine wpList_catG rfl (.tmp 10) (.tmp 16) rfl B v l (numN 8 u) (some ⟨b1, o1 + 0, none⟩) 8 _ rfl rfl (numN_length _ _ (by decide)).symm (HO.out.ext X1.out) RD.out (Nat.le_trans HB.out X1.out.size) (by rw [numN_length _ _ (by decide)]; have := HL.out; omega) ?_; intro v2 w2 ho2 hb2 hs2)
  go_ret
  exact ⟨v2, rfl, ho2, (Below.mono X1.out HB.out).trans hb2, (Stay.ext X1.out).trans hs2⟩
/-- A record's sum. -/
def sumB (l : List UInt8) : List UInt8 := numN 4 (crc l : Int)
theorem crc_lt (l : List UInt8) : (crc l : Int) < 18446744073709551616 := by unfold crc; omega
set_option maxHeartbeats 800000 in
theorem sumOf_any (A : Option Addr) (l : List UInt8) (n c : Nat) (w : World) (hr : Rd w A l) (hn : l.length = n) (hl : n ≤ 140737488355328) (ht : Tab w) :
    Calls Tryd.prog 21 #[.slice A n c] w (Ret w (fun w' v => Own w' w.heap.size v (sumB l))) := by
  subst hn
  have KS := hide (sum_any A c l w hr hl ht)
  obtain ⟨s, HS⟩ : ∃ s : Nat, Hid (crc l = s) := ⟨_, hide rfl⟩
  have HSL : Hid ((s : Int) < 18446744073709551616) := hide (by rw [← HS.out]; exact crc_lt l)
  have HSB : Hid (numN 4 (s : Int) = sumB l) := hide (by rw [← HS.out]; rfl)
  rw [HS.out] at KS
  have hs32 : IntKind.u64.wrap (s : Int) = (s : Int) := by rw [IntKind.wrap_u64]; have := HSL.out; omega
  clear hr hl ht
  obtain ⟨n, HN⟩ : ∃ n, Hid (l.length = n) := ⟨_, hide rfl⟩
  rw [HN.out] at KS ⊢
  go_enter Tryd.func21, Tryd.ntmps21
  go_wp2_with (first
    | (go_at_call 31; (with_reducible refine KS.out.mono ?_); rintro e w1 ⟨v1, rfl, hx1, rfl⟩; have X1 := hide hx1; clear hx1)
    | (go_at_call 19; have KA := appendNumber_4 (.slice none 0 0) [] (s : Int) w.heap.size _ (Own.nil _ _) X1.out.size (by omega) HSL.out (by simp); (with_reducible refine KA.mono ?_); rintro e w2 ⟨v2, rfl, ho2, hb2, -⟩; have O2 := hide ho2; have B2 := hide hb2; clear ho2 hb2 KA))
  go_ret
  refine Ret.mk (X1.out.below (Nat.le_refl _) B2.out) ?_
  rw [← HSB.out]
  exact O2.out
end Go.Proofs.YthdahgekodcloaaDoor
namespace Go.Proofs.YthdahgekodcloaaDoor
open Go.RowKit

def dirB (L : List (Int × Int)) : List UInt8 := L.flatMap fun d => numN 2 d.1 ++ numN 8 d.2
theorem dirB_length (L : List (Int × Int)) : (dirB L).length = 10 * L.length := by
  induction L with
  | nil => rfl
  | cons d L ih =>
    have e : dirB (d :: L) = (numN 2 d.1 ++ numN 8 d.2) ++ dirB L := by simp [dirB]
    rw [e, List.length_append, List.length_append, numN_length 2 _ (by decide), numN_length 8 _ (by decide), ih, List.length_cons]
    omega
theorem dirB_snoc (L : List (Int × Int)) (i : Nat) (e : Int × Int) (h : L[i]? = some e) : dirB (L.take (i + 1)) = dirB (L.take i) ++ (numN 2 e.1 ++ numN 8 e.2) := by
  rw [List.take_add_one, h]
  simp [dirB]
def cntN (nd : Nat) (op : Bool) : Int := 2 * (nd : Int) + if op then 1 else 0
set_option maxRecDepth 20000 in
set_option maxHeartbeats 3200000 in
theorem appendCheck_any (v : Value) (l : List UInt8) (k tx pv pg off nx : Int) (A B D : Option Addr) (nb a na b' nd d : Nat) (op : Bool) (w0 w : World) (BB : Nat) (L : List (Int × Int)) (hr : RdD w0 D L) (hx0 : Ext w0 w) (hB0 : w0.heap.size ≤ BB) (hB : BB ≤ w.heap.size) (hn : L.length = nd) (hnd : nd ≤ 64)
    (hL : ∀ e ∈ L, (0 ≤ e.1 ∧ e.1 < 4096) ∧ 0 ≤ e.2 ∧ e.2 < 18446744073709551616) (ho : Own w BB v l) (hl : l.length ≤ 1000000) :
    Calls Tryd.prog 20 #[v, .agg #[.int .u8 k, .int .u64 tx, .int .u64 pv, .int .i64 pg, .int .i64 off, .slice A nb a, .slice B na b', .int .u64 nx, .slice D nd d, .bool op]] w (AddP w BB (l ++ (numN 1 (cntN nd op) ++ dirB L))) := by
  have HR := hide hr
  have HX0 := hide hx0
  have HB0 := hide hB0
  have HB := hide hB
  have HN := hide hn
  have HL := hide hL
  have HO := hide ho
  have HLL := hide hl
  have hw2 : IntKind.u64.wrap (2 * (nd : Int)) = 2 * (nd : Int) := by rw [IntKind.wrap_u64]; omega
  have hw3 : IntKind.u64.wrap (2 * (nd : Int) + 1) = 2 * (nd : Int) + 1 := by rw [IntKind.wrap_u64]; omega
  have hndi : (nd : Int) ≤ 64 := by omega
  clear hr hx0 hB0 hB hn hL ho hl
  go_enter Tryd.func20, Tryd.ntmps20
  go_upto_region 1 with fail
  obtain ⟨W1, hX1, hR1, hg⟩ : ∃ W1, Ext w W1 ∧ Rw W1 w.heap.size 26 [.int .u8 k, .int .u64 tx, .int .u64 pv, .int .i64 pg, .int .i64 off, .slice A nb a, .slice B na b', .int .u64 nx, .slice D nd d, .bool op] ∧ w.alloc (.cells #[.int .u8 k, .int .u64 tx, .int .u64 pv, .int .i64 pg, .int .i64 off, .slice A nb a, .slice B na b', .int .u64 nx, .slice D nd d, .bool op] 26) = W1 := ⟨_, Ext.alloc _ _, Rw.new _ _ _, rfl⟩
  rw [hg]
  obtain ⟨hb, HHB⟩ : ∃ hb, Hid (w.heap.size = hb) := ⟨_, hide rfl⟩
  rw [HHB.out] at hR1 ⊢
  have X1 := hide hX1
  have R1 := hide hR1
  have c8 := hR1.cell (i := 8) rfl
  have c9 := hR1.cell (i := 9) rfl
  clear hg hX1 hR1
  cases op with
  | false =>
    go_upto_region 4 with fail
    have KA := hide (appendNumber_1 v l (2 * (nd : Int)) BB W1 (HO.out.ext X1.out) (Nat.le_trans HB.out X1.out.size) (by omega) (by omega) (by have := HLL.out; omega))
    go_upto_region 5 with (go_at_call 19; (with_reducible refine KA.out.mono ?_); rintro e w2 ⟨v2, rfl, ho2, hb2, hs2⟩; have O2 := hide ho2; have B2 : Hid (Below BB w w2) := hide ((Below.mono X1.out HB.out).trans hb2); have S2 : Hid (Stay w w2) := hide ((Stay.ext X1.out).trans hs2); have R2 := hide (hs2 hb _ _ (by decide) R1.out); clear ho2 hb2 hs2)
    clear c8 c9 KA
    have c8 := R2.out.cell (i := 8) rfl
    obtain ⟨l1, HL1⟩ : ∃ l1, Hid (l ++ numN 1 (2 * (nd : Int)) = l1) := ⟨_, hide rfl⟩
    rw [HL1.out] at O2
    have HLN : Hid (l1.length ≤ 1000001) := hide (by rw [← HL1.out, List.length_append, numN_length 1 _ (by decide)]; have := HLL.out; omega)
    have HEND : Hid (l ++ (numN 1 (cntN nd false) ++ dirB L) = l1 ++ dirB L) := hide (by rw [← HL1.out, List.append_assoc]; simp [cntN])
    go_upto_region 6 with fail
    go_loopw [0, 23] (fun pz iv wr => ∃ (i : Nat) (v' : Value), i ≤ nd ∧ v' = pz ∧ iv = .int .i64 (i : Int) ∧ Hid (Own wr BB v' (l1 ++ dirB (L.take i))) ∧ Hid (Below BB w wr) ∧ Hid (Stay w wr)) (fun _ iv _ => nd - (intOf iv).toNat)
    case atStart => exact ⟨0, _, Nat.zero_le _, rfl, rfl, hide (by rw [List.take_zero]; show Own _ _ _ (l1 ++ []); rw [List.append_nil]; exact O2.out), B2, S2⟩
    case round =>
      obtain ⟨i, v', hi, rfl, rfl, HOW, HBW, HSW⟩ := hrel
      clear O2 B2 S2 R2 c8
      by_cases hlt : i < nd
      · obtain ⟨⟨y, z⟩, he⟩ : ∃ e, L[i]? = some e := ⟨_, List.getElem?_eq_getElem (by rw [HN.out]; exact hlt)⟩
        obtain ⟨hy, hz⟩ := HL.out _ (List.mem_of_getElem? he)
        have HZ := hide hz
        have hy0 : 0 ≤ y := hy.1
        have hy1 : y < 4096 := hy.2
        obtain ⟨bb, oo, hD, k1, k2⟩ := (HR.out.ext (HX0.out.below HB0.out HBW.out)).at he
        subst hD
        have HE := hide he
        have hii : (i : Int) < (nd : Int) := by omega
        have hi0 : (0 : Int) ≤ (i : Int) := by omega
        have hwy : IntKind.u64.wrap y = y := by rw [IntKind.wrap_u64]; omega
        clear he hz hy
        go_upto_region 8 with fail
        obtain ⟨W8, hX8, hR8, hg⟩ : ∃ W8, Ext wr W8 ∧ Rw W8 wr.heap.size 47 [.int .i64 y, .int .u64 z] ∧ wr.alloc (.cells #[.int .i64 y, .int .u64 z] 47) = W8 := ⟨_, Ext.alloc _ _, Rw.new _ _ _, rfl⟩
        rw [hg]
        obtain ⟨h8, HH8⟩ : ∃ h8, Hid (wr.heap.size = h8) := ⟨_, hide rfl⟩
        rw [HH8.out] at hR8 ⊢
        have hBW8 : BB ≤ W8.heap.size := Nat.le_trans (Nat.le_trans HB.out HBW.out.size) hX8.size
        have B8 : Hid (Below BB w W8) := hide (HBW.out.trans (Below.mono hX8 (Nat.le_trans HB.out HBW.out.size)))
        have S8 : Hid (Stay w W8) := hide (HSW.out.trans (Stay.ext hX8))
        have R8 := hide hR8
        have d0 := hR8.cell (i := 0) rfl
        have KA2 := hide (appendNumber_2 v' (l1 ++ dirB (L.take i)) y BB W8 (HOW.out.ext hX8) hBW8 hy0 (by omega) (by rw [List.length_append, dirB_length, List.length_take]; have := HLN.out; omega))
        clear hg hX8 hR8 k1 k2 hBW8
        go_upto_region 9 with (go_at_call 19; (with_reducible refine KA2.out.mono ?_); rintro e w9 ⟨v9, rfl, ho9, hb9, hs9⟩; have O9 := hide ho9; have B9 : Hid (Below BB w w9) := hide (B8.out.trans hb9); have S9 : Hid (Stay w w9) := hide (S8.out.trans hs9); have R9 := hide (hs9 h8 _ _ (by decide) R8.out); clear ho9 hb9 hs9)
        clear d0 KA2 B8 S8 R8
        have d1 := R9.out.cell (i := 1) rfl
        have KA3 := hide (appendNumber_8 v9 (l1 ++ dirB (L.take i) ++ numN 2 y) z BB w9 O9.out (Nat.le_trans HB.out B9.out.size) HZ.out.1 HZ.out.2 (by rw [List.length_append, List.length_append, dirB_length, List.length_take, numN_length 2 _ (by decide)]; have := HLN.out; omega))
        go_upto_region 10 with (go_at_call 19; (with_reducible refine KA3.out.mono ?_); rintro e w10 ⟨v10, rfl, ho10, hb10, hs10⟩; have OX := hide ho10; have BX : Hid (Below BB w w10) := hide (B9.out.trans hb10); have SX : Hid (Stay w w10) := hide (S9.out.trans hs10); clear ho10 hb10 hs10)
        clear d1 KA3 B9 S9 R9 O9 hwy
        go_wp2
        refine ⟨⟨i + 1, _, by omega, rfl, by go_num, hide (by rw [dirB_snoc L i _ HE.out, ← List.append_assoc, ← List.append_assoc]; exact OX.out), BX, SX⟩, by simp [intOf]; omega⟩
      · have hii : ¬ (i : Int) < (nd : Int) := by omega
        go_wp2
        go_ret
        refine ⟨_, rfl, ?_, HBW.out, HSW.out⟩
        rw [HEND.out]
        have h := HOW.out
        rw [List.take_of_length_le (by rw [HN.out]; omega)] at h
        exact h
  | true =>
    go_upto_region 4 with fail
    have KA := hide (appendNumber_1 v l (2 * (nd : Int) + 1) BB W1 (HO.out.ext X1.out) (Nat.le_trans HB.out X1.out.size) (by omega) (by omega) (by have := HLL.out; omega))
    go_upto_region 5 with (go_at_call 19; (with_reducible refine KA.out.mono ?_); rintro e w2 ⟨v2, rfl, ho2, hb2, hs2⟩; have O2 := hide ho2; have B2 : Hid (Below BB w w2) := hide ((Below.mono X1.out HB.out).trans hb2); have S2 : Hid (Stay w w2) := hide ((Stay.ext X1.out).trans hs2); have R2 := hide (hs2 hb _ _ (by decide) R1.out); clear ho2 hb2 hs2)
    clear c8 c9 KA
    have c8 := R2.out.cell (i := 8) rfl
    obtain ⟨l1, HL1⟩ : ∃ l1, Hid (l ++ numN 1 (2 * (nd : Int) + 1) = l1) := ⟨_, hide rfl⟩
    rw [HL1.out] at O2
    have HLN : Hid (l1.length ≤ 1000001) := hide (by rw [← HL1.out, List.length_append, numN_length 1 _ (by decide)]; have := HLL.out; omega)
    have HEND : Hid (l ++ (numN 1 (cntN nd true) ++ dirB L) = l1 ++ dirB L) := hide (by rw [← HL1.out, List.append_assoc]; simp [cntN])
    go_upto_region 6 with fail
    go_loopw [0, 23] (fun pz iv wr => ∃ (i : Nat) (v' : Value), i ≤ nd ∧ v' = pz ∧ iv = .int .i64 (i : Int) ∧ Hid (Own wr BB v' (l1 ++ dirB (L.take i))) ∧ Hid (Below BB w wr) ∧ Hid (Stay w wr)) (fun _ iv _ => nd - (intOf iv).toNat)
    case atStart => exact ⟨0, _, Nat.zero_le _, rfl, rfl, hide (by rw [List.take_zero]; show Own _ _ _ (l1 ++ []); rw [List.append_nil]; exact O2.out), B2, S2⟩
    case round =>
      obtain ⟨i, v', hi, rfl, rfl, HOW, HBW, HSW⟩ := hrel
      clear O2 B2 S2 R2 c8
      by_cases hlt : i < nd
      · obtain ⟨⟨y, z⟩, he⟩ : ∃ e, L[i]? = some e := ⟨_, List.getElem?_eq_getElem (by rw [HN.out]; exact hlt)⟩
        obtain ⟨hy, hz⟩ := HL.out _ (List.mem_of_getElem? he)
        have HZ := hide hz
        have hy0 : 0 ≤ y := hy.1
        have hy1 : y < 4096 := hy.2
        obtain ⟨bb, oo, hD, k1, k2⟩ := (HR.out.ext (HX0.out.below HB0.out HBW.out)).at he
        subst hD
        have HE := hide he
        have hii : (i : Int) < (nd : Int) := by omega
        have hi0 : (0 : Int) ≤ (i : Int) := by omega
        have hwy : IntKind.u64.wrap y = y := by rw [IntKind.wrap_u64]; omega
        clear he hz hy
        go_upto_region 8 with fail
        obtain ⟨W8, hX8, hR8, hg⟩ : ∃ W8, Ext wr W8 ∧ Rw W8 wr.heap.size 47 [.int .i64 y, .int .u64 z] ∧ wr.alloc (.cells #[.int .i64 y, .int .u64 z] 47) = W8 := ⟨_, Ext.alloc _ _, Rw.new _ _ _, rfl⟩
        rw [hg]
        obtain ⟨h8, HH8⟩ : ∃ h8, Hid (wr.heap.size = h8) := ⟨_, hide rfl⟩
        rw [HH8.out] at hR8 ⊢
        have hBW8 : BB ≤ W8.heap.size := Nat.le_trans (Nat.le_trans HB.out HBW.out.size) hX8.size
        have B8 : Hid (Below BB w W8) := hide (HBW.out.trans (Below.mono hX8 (Nat.le_trans HB.out HBW.out.size)))
        have S8 : Hid (Stay w W8) := hide (HSW.out.trans (Stay.ext hX8))
        have R8 := hide hR8
        have d0 := hR8.cell (i := 0) rfl
        have KA2 := hide (appendNumber_2 v' (l1 ++ dirB (L.take i)) y BB W8 (HOW.out.ext hX8) hBW8 hy0 (by omega) (by rw [List.length_append, dirB_length, List.length_take]; have := HLN.out; omega))
        clear hg hX8 hR8 k1 k2 hBW8
        go_upto_region 9 with (go_at_call 19; (with_reducible refine KA2.out.mono ?_); rintro e w9 ⟨v9, rfl, ho9, hb9, hs9⟩; have O9 := hide ho9; have B9 : Hid (Below BB w w9) := hide (B8.out.trans hb9); have S9 : Hid (Stay w w9) := hide (S8.out.trans hs9); have R9 := hide (hs9 h8 _ _ (by decide) R8.out); clear ho9 hb9 hs9)
        clear d0 KA2 B8 S8 R8
        have d1 := R9.out.cell (i := 1) rfl
        have KA3 := hide (appendNumber_8 v9 (l1 ++ dirB (L.take i) ++ numN 2 y) z BB w9 O9.out (Nat.le_trans HB.out B9.out.size) HZ.out.1 HZ.out.2 (by rw [List.length_append, List.length_append, dirB_length, List.length_take, numN_length 2 _ (by decide)]; have := HLN.out; omega))
        go_upto_region 10 with (go_at_call 19; (with_reducible refine KA3.out.mono ?_); rintro e w10 ⟨v10, rfl, ho10, hb10, hs10⟩; have OX := hide ho10; have BX : Hid (Below BB w w10) := hide (B9.out.trans hb10); have SX : Hid (Stay w w10) := hide (S9.out.trans hs10); clear ho10 hb10 hs10)
        clear d1 KA3 B9 S9 R9 O9 hwy
        go_wp2
        refine ⟨⟨i + 1, _, by omega, rfl, by go_num, hide (by rw [dirB_snoc L i _ HE.out, ← List.append_assoc, ← List.append_assoc]; exact OX.out), BX, SX⟩, by simp [intOf]; omega⟩
      · have hii : ¬ (i : Int) < (nd : Int) := by omega
        go_wp2
        go_ret
        refine ⟨_, rfl, ?_, HBW.out, HSW.out⟩
        rw [HEND.out]
        have h := HOW.out
        rw [List.take_of_length_le (by rw [HN.out]; omega)] at h
        exact h
end Go.Proofs.YthdahgekodcloaaDoor
namespace Go.Proofs.YthdahgekodcloaaDoor
open Go.RowKit

/-- A record's bytes but for its sum. -/
def recB (k tx pv pg off nx : Int) (bf af : List UInt8) (L : List (Int × Int)) (op : Bool) : List UInt8 :=
  numN 1 k ++ (numN 8 tx ++ ((if hpv k then numN 8 pv else []) ++ ((if hch k then numN 2 pg ++ (numN 2 off ++ (numN 2 (af.length : Int) ++ (bf ++ af))) else []) ++ ((if hnx k then numN 8 nx else []) ++ (if hck k then numN 1 (cntN L.length op) ++ dirB L else [])))))
def fullB (k tx pv pg off nx : Int) (bf af : List UInt8) (L : List (Int × Int)) (op : Bool) : List UInt8 := recB k tx pv pg off nx bf af L op ++ sumB (recB k tx pv pg off nx bf af L op)
theorem risB_mem : ∀ (L : List (Int × Int)) (last : Int), -1 ≤ last → risB last L = true → ∀ e ∈ L, 0 ≤ e.1 ∧ e.1 < 4096
  | [], _, _, _, e, he => by cases he
  | x :: L, last, hl, h, e, he => by
    simp only [risB, Bool.and_eq_true, decide_eq_true_eq] at h
    rcases List.mem_cons.1 he with rfl | he
    · omega
    · exact risB_mem L x.1 (by omega) h.2.2 e he
def EncP (w : World) (l : List UInt8) (e : Ending) (w' : World) : Prop := ∃ v', e = .returned (.tuple #[v', .int .i64 0]) ∧ Own w' w.heap.size v' l ∧ Ext w w'
theorem own_mono {w : World} {B B' : Nat} {v : Value} {l : List UInt8} (h : Own w B v l) (hB : B' ≤ B) : Own w B' v l := by
  refine ⟨h.1, ?_⟩
  rcases h.2 with hn | ⟨g, cap, cur, rfl, hb, rest⟩
  · exact .inl hn
  · exact .inr ⟨g, cap, cur, rfl, Nat.le_trans hB hb, rest⟩
end Go.Proofs.YthdahgekodcloaaDoor
namespace Go.Proofs.YthdahgekodcloaaDoor
open Go.RowKit

def NumP (w : World) (n : Nat) (l : List UInt8) (e : Ending) (w' : World) : Prop := ∃ A c, e = .returned (.slice A n c) ∧ n ≤ c ∧ Rd w' A l ∧ Ext w w'
theorem runum (u : Int) (w : World) (h0 : 0 ≤ u) (h1 : u < 18446744073709551616) : Calls Tryd.prog 24 #[.int .u64 u] w (NumP w 8 (numN 8 u)) :=
  (ruint_any u w h0 h1).mono fun e w' ⟨v, he, hx, A, c, hv, hc, hr⟩ => ⟨A, c, by rw [he, hv, be64_length], by rw [be64_length] at hc; exact hc, hr, hx⟩
theorem own_one (W : World) (B : Nat) (hB : B ≤ W.heap.size) (n : Int) (h0 : 0 ≤ n) (h1 : n < 256) : Own (W.alloc (.cells #[.int .u8 n] 5)) B (.slice (some ⟨W.heap.size, 0, none⟩) 1 1) [b8 n] :=
  ⟨rfl, .inr ⟨W.heap.size, 1, #[.int .u8 n], rfl, hB, heap_alloc_new W _, Nat.le_refl _, by unfold maxLen; decide, rfl, by simp [bs, b8_toNat h0 h1]⟩⟩
theorem rd_two (w : World) (t : TypeId) (a b : Int) (ha : 0 ≤ a ∧ a < 256) (hb : 0 ≤ b ∧ b < 256) : Rd (w.alloc (.cells #[.int .u8 a, .int .u8 b] t)) (some ⟨w.heap.size, 0, none⟩) [b8 a, b8 b] := by
  have h := Rd.new w t [b8 a, b8 b] []
  simpa [bs, b8_toNat ha.1 ha.2, b8_toNat hb.1 hb.2] using h
set_option maxHeartbeats 400000 in
theorem two_any (u : Int) (w : World) (h0 : 0 ≤ u) (h1 : u < 65536) : Calls Tryd.prog 25 #[.int .i64 u] w (NumP w 2 (numN 2 u)) := by
  have e1 : u.tdiv 256 = u / 256 := Int.tdiv_eq_ediv_of_nonneg h0
  have e2 : u.tmod 256 = u % 256 := Int.tmod_eq_emod_of_nonneg h0
  have hq0 : 0 ≤ u / 256 := by omega
  have hq1 : u / 256 < 256 := by omega
  have hm0 : 0 ≤ u % 256 := by omega
  have hm1 : u % 256 < 256 := by omega
  go_enter Tryd.func25, Tryd.ntmps25
  go_wp2
  go_ret
  refine ⟨_, _, rfl, Nat.le_refl _, ?_, Ext.alloc _ _⟩
  have e : numN 2 u = [b8 (u / 256 % 256), b8 (u % 256)] := rfl
  rw [e, show u / 256 % 256 = u / 256 from by omega]
  exact rd_two _ _ _ _ ⟨hq0, hq1⟩ ⟨hm0, hm1⟩
end Go.Proofs.YthdahgekodcloaaDoor
namespace Go.Proofs.YthdahgekodcloaaDoor
open Go.RowKit

set_option maxRecDepth 20000 in
set_option maxHeartbeats 6400000 in
theorem rencode_1 (tx pv pg off nx : Int) (A B D : Option Addr) (nb a na b' nd d : Nat) (op : Bool) (w : World) (bf af : List UInt8) (L : List (Int × Int)) (ht : Tab w) (hb0 : Rd w A bf) (ha0 : Rd w B af) (hr : RdD w D L) (hbn : bf.length = nb) (han : af.length = na) (hn : L.length = nd) (hnd : nd ≤ 140737488351232) (hna : na ≤ 140737488351232) (hnb : nb ≤ 140737488351232) (ho : -9223372036854775808 ≤ off) (ho2 : off < 9223372036854775808) (htx0 : 0 ≤ tx) (htx : tx < 18446744073709551616) (hpv0 : 0 ≤ pv) (hpv1 : pv < 18446744073709551616) (hnx0 : 0 ≤ nx) (hnx1 : nx < 18446744073709551616) (hdl : ∀ e ∈ L, 0 ≤ e.2 ∧ e.2 < 18446744073709551616) (hf : formN 1 pv pg off nx na nb nd L op = true) :
    Calls Tryd.prog 13 #[.agg #[.int .u8 1, .int .u64 tx, .int .u64 pv, .int .i64 pg, .int .i64 off, .slice A nb a, .slice B na b', .int .u64 nx, .slice D nd d, .bool op]] w (fun e w' => ∃ v', e = .returned v' ∧ Own w' w.heap.size v' (fullB 1 tx pv pg off nx bf af L op) ∧ Ext w w') := by
  have HT := hide ht
  have HBF := hide hb0
  have HAF := hide ha0
  have HD := hide hr
  have HBN := hide hbn
  have HAN := hide han
  have HN := hide hn
  have HTX := hide (And.intro htx0 htx)
  have HPV := hide (And.intro hpv0 hpv1)
  have HNX := hide (And.intro hnx0 hnx1)
  clear ht hb0 ha0 hr hbn han hn htx0 htx hpv0 hpv1 hnx0 hnx1 hdl hf ho ho2
  go_enter Tryd.func13, Tryd.ntmps13
  go_upto_region 1 with fail
  obtain ⟨W1, hX1, hR1, hg⟩ : ∃ W1, Ext w W1 ∧ Rw W1 w.heap.size 26 [.int .u8 1, .int .u64 tx, .int .u64 pv, .int .i64 pg, .int .i64 off, .slice A nb a, .slice B na b', .int .u64 nx, .slice D nd d, .bool op] ∧ w.alloc (.cells #[.int .u8 1, .int .u64 tx, .int .u64 pv, .int .i64 pg, .int .i64 off, .slice A nb a, .slice B na b', .int .u64 nx, .slice D nd d, .bool op] 26) = W1 := ⟨_, Ext.alloc _ _, Rw.new _ _ _, rfl⟩
  rw [hg]
  obtain ⟨hb, HHB⟩ : ∃ hb, Hid (w.heap.size = hb) := ⟨_, hide rfl⟩
  rw [HHB.out] at hR1 ⊢
  have X1 := hide hX1
  have R1 := hide hR1
  have c0 := hR1.cell (i := 0) rfl
  clear hg hX1 hR1
  obtain ⟨BB, HBB⟩ : ∃ BB, Hid (W1.heap.size = BB) := ⟨_, hide rfl⟩
  go_upto_region 2 with fail
  obtain ⟨W2, hX2, hO2, hg⟩ : ∃ W, Ext W1 W ∧ Own W BB (.slice (some ⟨BB, 0, none⟩) 1 1) (numN 1 1) ∧ W1.alloc (.cells #[.int .u8 1] 5) = W := ⟨_, Ext.alloc _ _, by rw [← HBB.out]; exact own_one W1 _ (Nat.le_refl _) 1 (by decide) (by decide), rfl⟩
  rw [hg, HBB.out]
  have XW2 := hide (X1.out.trans hX2)
  have R2 := hide (R1.out.ext hX2)
  have O2 := hide hO2
  have X2 := XW2
  have HB0 : Hid (w.heap.size ≤ BB) := hide (by rw [← HBB.out]; exact X1.out.size)
  have Y2 : Hid (Below BB W2 W2) := hide (Below.refl _ _)
  have HBW : Hid (BB ≤ W2.heap.size) := hide (by rw [← HBB.out]; exact hX2.size)
  have HL2 : Hid ((numN 1 1).length ≤ 1) := hide (by rw [numN_length 1 _ (by decide)]; exact Nat.le_refl _)
  clear hg hX2 hO2 X1 R1 c0
  have c0 := R2.out.cell (i := 0) rfl
  have c1 := R2.out.cell (i := 1) rfl
  have c2 := R2.out.cell (i := 2) rfl
  have c3 := R2.out.cell (i := 3) rfl
  have c4 := R2.out.cell (i := 4) rfl
  have c5 := R2.out.cell (i := 5) rfl
  have c6 := R2.out.cell (i := 6) rfl
  have c7 := R2.out.cell (i := 7) rfl
  have c8 := R2.out.cell (i := 8) rfl
  have c9 := R2.out.cell (i := 9) rfl
  have KA := hide (fun (W : World) => runum tx W HTX.out.1 HTX.out.2)
  go_upto_region 3 with (first
    | (go_at_call 24; (with_reducible refine (KA.out _).mono ?_); rintro e ma0 ⟨Aa0, ca0, rfl, hca, hra, hxa⟩; have RA0 := hide hra; have XA0 := hide hxa; clear hra hxa hca)
    | (refine wpList_catG rfl (.tmp 10) (.tmp 13) rfl BB (.slice (some ⟨BB, 0, none⟩) 1 1) (numN 1 1) (numN 8 tx) Aa0 8 ca0 rfl rfl (numN_length 8 _ (by decide)).symm (O2.out.ext XA0.out) RA0.out (Nat.le_trans (Nat.le_trans HBW.out Y2.out.size) XA0.out.size) (by rw [numN_length 8 _ (by decide)]; have := HL2.out; omega) ?_; intro z0 m0 ho hb2 hs2; have Op0 := hide ho; have Yp0 : Hid (Below BB W2 m0) := hide ((Y2.out.trans (Below.mono XA0.out (Nat.le_trans HBW.out Y2.out.size))).trans hb2); have Xp0 : Hid (Ext w m0) := hide (XW2.out.below HB0.out Yp0.out); have Rp0 := hide (hs2 hb _ _ (by decide) (R2.out.ext XA0.out)); clear ho hb2 hs2))
  clear KA RA0 XA0
  clear R2 O2
  clear c0 c1 c2 c3 c4 c5 c6 c7 c8 c9
  have c0 := Rp0.out.cell (i := 0) rfl
  have c1 := Rp0.out.cell (i := 1) rfl
  have c2 := Rp0.out.cell (i := 2) rfl
  have c3 := Rp0.out.cell (i := 3) rfl
  have c4 := Rp0.out.cell (i := 4) rfl
  have c5 := Rp0.out.cell (i := 5) rfl
  have c6 := Rp0.out.cell (i := 6) rfl
  have c7 := Rp0.out.cell (i := 7) rfl
  have c8 := Rp0.out.cell (i := 8) rfl
  have c9 := Rp0.out.cell (i := 9) rfl
  obtain ⟨l0, HEp0⟩ : ∃ l, Hid ((numN 1 1) ++ numN 8 tx = l) := ⟨_, hide rfl⟩
  rw [HEp0.out] at Op0
  have HLp0 : Hid (l0.length ≤ 9) := hide (by rw [← HEp0.out, List.length_append, numN_length 8 _ (by decide)]; have := HL2.out; omega)
  have HREC : Hid (recB 1 tx pv pg off nx bf af L op = l0) := hide (by
    rw [← HEp0.out]
    simp [recB, hpv, hch, hnx, hck])
  obtain ⟨AZ, cz, hvz, hcz, hrz⟩ := Op0.out.bytes
  subst hvz
  obtain ⟨nz, HNZ⟩ : ∃ n, Hid (l0.length = n) := ⟨_, hide rfl⟩
  rw [HNZ.out] at Op0 ⊢
  have KS := hide (show Calls Tryd.prog 26 #[.slice AZ nz cz] m0 _ from HNZ.out ▸ rsum_any AZ cz l0 m0 hrz (by have := HLp0.out; omega))
  clear hcz hrz
  obtain ⟨cr, HCR⟩ : ∃ n, Hid (crc l0 = n) := ⟨_, hide rfl⟩
  rw [HCR.out] at KS
  have hcr0 : (0 : Int) ≤ (cr : Int) := by omega
  have hcr1 : (cr : Int) < 4294967296 := by rw [← HCR.out]; unfold crc; omega
  have KU := hide (fun (W : World) => runum (cr : Int) W hcr0 (by omega))
  have HSB : Hid (sumB l0 = (numN 8 (cr : Int)).drop 4) := hide (by unfold sumB; rw [HCR.out]; rfl)
  go_upto_region 24 with (first
    | (go_at_call 26; (with_reducible refine KS.out.mono ?_); rintro e ws ⟨vs, rfl, hxs, rfl⟩; have XS := hide hxs; clear hxs)
    | (go_at_call 24; (with_reducible refine (KU.out _).mono ?_); rintro e wu ⟨Au, cu, rfl, hcu, hru, hxu⟩; have XU := hide (XS.out.trans hxu); have RU := hide hru; have HCU := hide hcu; clear hxu hru hcu))
  have h4c : 4 ≤ cu := by have := HCU.out; omega
  obtain ⟨bu, ou, hAu, -⟩ := RU.out (by intro h; have := congrArg List.length h; rw [numN_length 8 _ (by decide)] at this; cases this)
  subst hAu
  have RD := hide (RU.out.drop 4)
  rw [← HSB.out] at RD
  have RE : Hid (Rd wu (some ⟨bu, ou + 4, none⟩) (sumB l0)) := RD
  have h8c : 8 ≤ cu := HCU.out
  have h8n : ¬ cu < 8 := by omega
  clear RD RU KU KS
  go_wp2_with (go_loud (refine wpList_catG rfl (.tmp 108) (.tmp 110) rfl BB (.slice AZ nz cz) l0 (sumB l0) (some ⟨bu, ou + 4, none⟩) 4 _ rfl rfl (numN_length 4 _ (by decide)).symm (Op0.out.ext XU.out) RE.out (Nat.le_trans (Nat.le_trans HBW.out Yp0.out.size) XU.out.size) (by rw [show (sumB l0).length = 4 from numN_length 4 _ (by decide)]; have := HLp0.out; omega) ?_; intro vf wf ho hb2 hs2))
  go_ret
  refine ⟨vf, rfl, ?_, XW2.out.below HB0.out ((Yp0.out.trans (Below.mono XU.out (Nat.le_trans HBW.out Yp0.out.size))).trans hb2)⟩
  rw [fullB, HREC.out]
  exact own_mono ho HB0.out
end Go.Proofs.YthdahgekodcloaaDoor
