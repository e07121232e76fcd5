/-
  Which records there are: the program's Form.
-/
import Derived.Test.YthdahgekodcloaaDoorRcK
namespace Go.Proofs.YthdahgekodcloaaDoor
open Go.RowKit

theorem ret_bool {a b : Bool} (h : a = b) : Ending.returned (.bool a) = .returned (.bool b) := by rw [h]
def formN (k pv pg off nx : Int) (na nb nd : Nat) (L : List (Int × Int)) (op : Bool) : Bool := hok k && ((hpv k || (pv == 0)) && ((hnx k || (nx == 0)) && (chgN pg off na nb (hch k) (hbf k) && chkN L nd op (hck k))))
set_option maxRecDepth 20000 in
set_option maxHeartbeats 3200000 in
theorem form_any (k tx pv pg off nx : Int) (A B D : Option Addr) (nb a na b' nd d : Nat) (op : Bool) (w : World) (L : List (Int × Int)) (hr : RdD w D L) (hn : L.length = nd) (hnd : nd ≤ 140737488351232) (hna : na ≤ 140737488351232) (hnb : nb ≤ 140737488351232) (ho : -9223372036854775808 ≤ off) (ho2 : off < 9223372036854775808) :
    Calls Tryd.prog 9 #[.agg #[.int .u8 k, .int .u64 tx, .int .u64 pv, .int .i64 pg, .int .i64 off, .slice A nb a, .slice B na b', .int .u64 nx, .slice D nd d, .bool op]] w (RetB w (formN k pv pg off nx na nb nd L op)) := by
  obtain ⟨o, HO⟩ : ∃ o, Hid (hok k = o) := ⟨_, hide rfl⟩
  obtain ⟨p, HP⟩ : ∃ o, Hid (hpv k = o) := ⟨_, hide rfl⟩
  obtain ⟨c, HC⟩ : ∃ o, Hid (hch k = o) := ⟨_, hide rfl⟩
  obtain ⟨b, HB⟩ : ∃ o, Hid (hbf k = o) := ⟨_, hide rfl⟩
  obtain ⟨n, HN⟩ : ∃ o, Hid (hnx k = o) := ⟨_, hide rfl⟩
  obtain ⟨x, HX⟩ : ∃ o, Hid (hck k = o) := ⟨_, hide rfl⟩
  obtain ⟨g1, HG1⟩ : ∃ g, Hid (chgN pg off na nb c b = g) := ⟨_, hide rfl⟩
  obtain ⟨g2, HG2⟩ : ∃ g, Hid (chkN L nd op x = g) := ⟨_, hide rfl⟩
  have HV : formN k pv pg off nx na nb nd L op = (o && ((p || (pv == 0)) && ((n || (nx == 0)) && (g1 && g2)))) := by
    simp only [formN, HO.out, HP.out, HC.out, HB.out, HN.out, HX.out, HG1.out, HG2.out]
  rw [HV]
  have KP := hide (fun (W : World) => (show Calls Tryd.prog 16 #[.int .u8 k] W (fun e w' => e = .returned (.tuple #[.agg #[.bool p, .bool c, .bool b, .bool n, .bool x], .bool o]) ∧ Ext W w') from by have h := partsOf_any k W; unfold PartsP at h; rw [HO.out, HP.out, HC.out, HB.out, HN.out, HX.out] at h; exact h))
  have KC := hide (fun (W : World) => (show Calls Tryd.prog 17 #[.agg #[.int .u8 k, .int .u64 tx, .int .u64 pv, .int .i64 pg, .int .i64 off, .slice A nb a, .slice B na b', .int .u64 nx, .slice D nd d, .bool op], .agg #[.bool p, .bool c, .bool b, .bool n, .bool x]] W (RetB W g1) from by have h := changeFits_any k tx pv pg off nx A B D nb a na b' nd d op p c b n x W hna hnb ho ho2; rw [HG1.out] at h; exact h))
  have KK := hide (fun (W : World) (hW : Ext w W) => (show Calls Tryd.prog 18 #[.agg #[.int .u8 k, .int .u64 tx, .int .u64 pv, .int .i64 pg, .int .i64 off, .slice A nb a, .slice B na b', .int .u64 nx, .slice D nd d, .bool op], .agg #[.bool p, .bool c, .bool b, .bool n, .bool x]] W (RetB W g2) from by have h := checkFits_any k tx pv pg off nx A B D nb a na b' nd d op p c b n x W L (hr.ext hW) hn hnd; rw [HG2.out] at h; exact h))
  clear hr hn hnd hna hnb ho ho2 HV HO HP HC HB HN HX HG1 HG2
  go_enter Tryd.func9, Tryd.ntmps9
  go_upto_region 1 with fail
  obtain ⟨W1, hX1, hR1, hg⟩ : ∃ W1, Ext w W1 ∧ Rw W1 w.heap.size 26 [.int .u8 k, .int .u64 tx, .int .u64 pv, .int .i64 pg, .int .i64 off, .slice A nb a, .slice B na b', .int .u64 nx, .slice D nd d, .bool op] ∧ w.alloc (.cells #[.int .u8 k, .int .u64 tx, .int .u64 pv, .int .i64 pg, .int .i64 off, .slice A nb a, .slice B na b', .int .u64 nx, .slice D nd d, .bool op] 26) = W1 := ⟨_, Ext.alloc _ _, Rw.new _ _ _, rfl⟩
  rw [hg]
  obtain ⟨hb, HHB⟩ : ∃ hb, Hid (w.heap.size = hb) := ⟨_, hide rfl⟩
  rw [HHB.out] at hR1 ⊢
  have X1 := hide hX1
  have R1 := hide hR1
  have y0 := R1.out.cell (i := 0) rfl
  clear hg hX1 hR1
  go_upto_region 2 with (go_at_call 16; (with_reducible refine (KP.out _).mono ?_); rintro e w2 ⟨rfl, hx2⟩; have X2 := hide (X1.out.trans hx2); have R2 := hide (R1.out.ext hx2); clear hx2)
  clear y0
  obtain ⟨W3, hX3, hR3, hE3, hg⟩ : ∃ W3, Ext w W3 ∧ Rw W3 w2.heap.size 42 [.bool p, .bool c, .bool b, .bool n, .bool x] ∧ Ext w2 W3 ∧ w2.alloc (.cells #[.bool p, .bool c, .bool b, .bool n, .bool x] 42) = W3 := ⟨_, X2.out.trans (Ext.alloc _ _), Rw.new _ _ _, Ext.alloc _ _, rfl⟩
  rw [hg]
  obtain ⟨hq, HHQ⟩ : ∃ hq, Hid (w2.heap.size = hq) := ⟨_, hide rfl⟩
  rw [HHQ.out] at hR3 ⊢
  have X3 := hide hX3
  have R3 := hide (R2.out.ext hE3)
  have Q3 := hide hR3
  clear hg hX3 hR3 hE3 X1 X2 R1 R2 HHB HHQ KP
  have c0 := R3.out.cell (i := 0) rfl
  have c1 := R3.out.cell (i := 1) rfl
  have c2 := R3.out.cell (i := 2) rfl
  have c3 := R3.out.cell (i := 3) rfl
  have c4 := R3.out.cell (i := 4) rfl
  have c5 := R3.out.cell (i := 5) rfl
  have c6 := R3.out.cell (i := 6) rfl
  have c7 := R3.out.cell (i := 7) rfl
  have c8 := R3.out.cell (i := 8) rfl
  have c9 := R3.out.cell (i := 9) rfl
  have q0 := Q3.out.cell (i := 0) rfl
  have q1 := Q3.out.cell (i := 1) rfl
  have q2 := Q3.out.cell (i := 2) rfl
  have q3 := Q3.out.cell (i := 3) rfl
  have q4 := Q3.out.cell (i := 4) rfl
  cases o with
  | false =>
    go_wp2_with (first
      | (go_at_call 17; (with_reducible refine (KC.out _).mono ?_); rintro e w4 ⟨rfl, hx4⟩; have X4 := hide (X3.out.trans hx4); have d0 := (R3.out.ext hx4).cell (i := 0) rfl; have d1 := (R3.out.ext hx4).cell (i := 1) rfl; have d2 := (R3.out.ext hx4).cell (i := 2) rfl; have d3 := (R3.out.ext hx4).cell (i := 3) rfl; have d4 := (R3.out.ext hx4).cell (i := 4) rfl; have d5 := (R3.out.ext hx4).cell (i := 5) rfl; have d6 := (R3.out.ext hx4).cell (i := 6) rfl; have d7 := (R3.out.ext hx4).cell (i := 7) rfl; have d8 := (R3.out.ext hx4).cell (i := 8) rfl; have d9 := (R3.out.ext hx4).cell (i := 9) rfl; have r0 := (Q3.out.ext hx4).cell (i := 0) rfl; have r1 := (Q3.out.ext hx4).cell (i := 1) rfl; have r2 := (Q3.out.ext hx4).cell (i := 2) rfl; have r3 := (Q3.out.ext hx4).cell (i := 3) rfl; have r4 := (Q3.out.ext hx4).cell (i := 4) rfl; clear hx4)
      | (go_at_call 18; (with_reducible refine (KK.out _ X4.out).mono ?_); rintro e w5 ⟨rfl, hx5⟩; have X5 := hide (X4.out.trans hx5); clear hx5))
    go_ret
    exact ⟨rfl, X3.out⟩
  | true =>
    cases p with
    | true =>
      cases n with
      | true =>
        cases g1 with
        | false =>
          go_wp2_with (first
            | (go_at_call 17; (with_reducible refine (KC.out _).mono ?_); rintro e w4 ⟨rfl, hx4⟩; have X4 := hide (X3.out.trans hx4); have d0 := (R3.out.ext hx4).cell (i := 0) rfl; have d1 := (R3.out.ext hx4).cell (i := 1) rfl; have d2 := (R3.out.ext hx4).cell (i := 2) rfl; have d3 := (R3.out.ext hx4).cell (i := 3) rfl; have d4 := (R3.out.ext hx4).cell (i := 4) rfl; have d5 := (R3.out.ext hx4).cell (i := 5) rfl; have d6 := (R3.out.ext hx4).cell (i := 6) rfl; have d7 := (R3.out.ext hx4).cell (i := 7) rfl; have d8 := (R3.out.ext hx4).cell (i := 8) rfl; have d9 := (R3.out.ext hx4).cell (i := 9) rfl; have r0 := (Q3.out.ext hx4).cell (i := 0) rfl; have r1 := (Q3.out.ext hx4).cell (i := 1) rfl; have r2 := (Q3.out.ext hx4).cell (i := 2) rfl; have r3 := (Q3.out.ext hx4).cell (i := 3) rfl; have r4 := (Q3.out.ext hx4).cell (i := 4) rfl; clear hx4)
            | (go_at_call 18; (with_reducible refine (KK.out _ X4.out).mono ?_); rintro e w5 ⟨rfl, hx5⟩; have X5 := hide (X4.out.trans hx5); clear hx5))
          go_ret
          exact ⟨rfl, X4.out⟩
        | true =>
          go_wp2_with (first
            | (go_at_call 17; (with_reducible refine (KC.out _).mono ?_); rintro e w4 ⟨rfl, hx4⟩; have X4 := hide (X3.out.trans hx4); have d0 := (R3.out.ext hx4).cell (i := 0) rfl; have d1 := (R3.out.ext hx4).cell (i := 1) rfl; have d2 := (R3.out.ext hx4).cell (i := 2) rfl; have d3 := (R3.out.ext hx4).cell (i := 3) rfl; have d4 := (R3.out.ext hx4).cell (i := 4) rfl; have d5 := (R3.out.ext hx4).cell (i := 5) rfl; have d6 := (R3.out.ext hx4).cell (i := 6) rfl; have d7 := (R3.out.ext hx4).cell (i := 7) rfl; have d8 := (R3.out.ext hx4).cell (i := 8) rfl; have d9 := (R3.out.ext hx4).cell (i := 9) rfl; have r0 := (Q3.out.ext hx4).cell (i := 0) rfl; have r1 := (Q3.out.ext hx4).cell (i := 1) rfl; have r2 := (Q3.out.ext hx4).cell (i := 2) rfl; have r3 := (Q3.out.ext hx4).cell (i := 3) rfl; have r4 := (Q3.out.ext hx4).cell (i := 4) rfl; clear hx4)
            | (go_at_call 18; (with_reducible refine (KK.out _ X4.out).mono ?_); rintro e w5 ⟨rfl, hx5⟩; have X5 := hide (X4.out.trans hx5); clear hx5))
          go_ret
          exact ⟨rfl, X5.out⟩
      | false =>
        by_cases hn : nx = 0
        · subst hn
          cases g1 with
          | false =>
            go_wp2_with (first
              | (go_at_call 17; (with_reducible refine (KC.out _).mono ?_); rintro e w4 ⟨rfl, hx4⟩; have X4 := hide (X3.out.trans hx4); have d0 := (R3.out.ext hx4).cell (i := 0) rfl; have d1 := (R3.out.ext hx4).cell (i := 1) rfl; have d2 := (R3.out.ext hx4).cell (i := 2) rfl; have d3 := (R3.out.ext hx4).cell (i := 3) rfl; have d4 := (R3.out.ext hx4).cell (i := 4) rfl; have d5 := (R3.out.ext hx4).cell (i := 5) rfl; have d6 := (R3.out.ext hx4).cell (i := 6) rfl; have d7 := (R3.out.ext hx4).cell (i := 7) rfl; have d8 := (R3.out.ext hx4).cell (i := 8) rfl; have d9 := (R3.out.ext hx4).cell (i := 9) rfl; have r0 := (Q3.out.ext hx4).cell (i := 0) rfl; have r1 := (Q3.out.ext hx4).cell (i := 1) rfl; have r2 := (Q3.out.ext hx4).cell (i := 2) rfl; have r3 := (Q3.out.ext hx4).cell (i := 3) rfl; have r4 := (Q3.out.ext hx4).cell (i := 4) rfl; clear hx4)
              | (go_at_call 18; (with_reducible refine (KK.out _ X4.out).mono ?_); rintro e w5 ⟨rfl, hx5⟩; have X5 := hide (X4.out.trans hx5); clear hx5))
            go_ret
            exact ⟨rfl, X4.out⟩
          | true =>
            go_wp2_with (first
              | (go_at_call 17; (with_reducible refine (KC.out _).mono ?_); rintro e w4 ⟨rfl, hx4⟩; have X4 := hide (X3.out.trans hx4); have d0 := (R3.out.ext hx4).cell (i := 0) rfl; have d1 := (R3.out.ext hx4).cell (i := 1) rfl; have d2 := (R3.out.ext hx4).cell (i := 2) rfl; have d3 := (R3.out.ext hx4).cell (i := 3) rfl; have d4 := (R3.out.ext hx4).cell (i := 4) rfl; have d5 := (R3.out.ext hx4).cell (i := 5) rfl; have d6 := (R3.out.ext hx4).cell (i := 6) rfl; have d7 := (R3.out.ext hx4).cell (i := 7) rfl; have d8 := (R3.out.ext hx4).cell (i := 8) rfl; have d9 := (R3.out.ext hx4).cell (i := 9) rfl; have r0 := (Q3.out.ext hx4).cell (i := 0) rfl; have r1 := (Q3.out.ext hx4).cell (i := 1) rfl; have r2 := (Q3.out.ext hx4).cell (i := 2) rfl; have r3 := (Q3.out.ext hx4).cell (i := 3) rfl; have r4 := (Q3.out.ext hx4).cell (i := 4) rfl; clear hx4)
              | (go_at_call 18; (with_reducible refine (KK.out _ X4.out).mono ?_); rintro e w5 ⟨rfl, hx5⟩; have X5 := hide (X4.out.trans hx5); clear hx5))
            go_ret
            exact ⟨rfl, X5.out⟩
        · have en : (nx == 0) = false := by simp [hn]
          go_wp2_with (first
            | (go_at_call 17; (with_reducible refine (KC.out _).mono ?_); rintro e w4 ⟨rfl, hx4⟩; have X4 := hide (X3.out.trans hx4); have d0 := (R3.out.ext hx4).cell (i := 0) rfl; have d1 := (R3.out.ext hx4).cell (i := 1) rfl; have d2 := (R3.out.ext hx4).cell (i := 2) rfl; have d3 := (R3.out.ext hx4).cell (i := 3) rfl; have d4 := (R3.out.ext hx4).cell (i := 4) rfl; have d5 := (R3.out.ext hx4).cell (i := 5) rfl; have d6 := (R3.out.ext hx4).cell (i := 6) rfl; have d7 := (R3.out.ext hx4).cell (i := 7) rfl; have d8 := (R3.out.ext hx4).cell (i := 8) rfl; have d9 := (R3.out.ext hx4).cell (i := 9) rfl; have r0 := (Q3.out.ext hx4).cell (i := 0) rfl; have r1 := (Q3.out.ext hx4).cell (i := 1) rfl; have r2 := (Q3.out.ext hx4).cell (i := 2) rfl; have r3 := (Q3.out.ext hx4).cell (i := 3) rfl; have r4 := (Q3.out.ext hx4).cell (i := 4) rfl; clear hx4)
            | (go_at_call 18; (with_reducible refine (KK.out _ X4.out).mono ?_); rintro e w5 ⟨rfl, hx5⟩; have X5 := hide (X4.out.trans hx5); clear hx5))
          go_ret
          exact ⟨by rw [en]; rfl, X3.out⟩
    | false =>
      by_cases hp : pv = 0
      · subst hp
        cases n with
        | true =>
          cases g1 with
          | false =>
            go_wp2_with (first
              | (go_at_call 17; (with_reducible refine (KC.out _).mono ?_); rintro e w4 ⟨rfl, hx4⟩; have X4 := hide (X3.out.trans hx4); have d0 := (R3.out.ext hx4).cell (i := 0) rfl; have d1 := (R3.out.ext hx4).cell (i := 1) rfl; have d2 := (R3.out.ext hx4).cell (i := 2) rfl; have d3 := (R3.out.ext hx4).cell (i := 3) rfl; have d4 := (R3.out.ext hx4).cell (i := 4) rfl; have d5 := (R3.out.ext hx4).cell (i := 5) rfl; have d6 := (R3.out.ext hx4).cell (i := 6) rfl; have d7 := (R3.out.ext hx4).cell (i := 7) rfl; have d8 := (R3.out.ext hx4).cell (i := 8) rfl; have d9 := (R3.out.ext hx4).cell (i := 9) rfl; have r0 := (Q3.out.ext hx4).cell (i := 0) rfl; have r1 := (Q3.out.ext hx4).cell (i := 1) rfl; have r2 := (Q3.out.ext hx4).cell (i := 2) rfl; have r3 := (Q3.out.ext hx4).cell (i := 3) rfl; have r4 := (Q3.out.ext hx4).cell (i := 4) rfl; clear hx4)
              | (go_at_call 18; (with_reducible refine (KK.out _ X4.out).mono ?_); rintro e w5 ⟨rfl, hx5⟩; have X5 := hide (X4.out.trans hx5); clear hx5))
            go_ret
            exact ⟨rfl, X4.out⟩
          | true =>
            go_wp2_with (first
              | (go_at_call 17; (with_reducible refine (KC.out _).mono ?_); rintro e w4 ⟨rfl, hx4⟩; have X4 := hide (X3.out.trans hx4); have d0 := (R3.out.ext hx4).cell (i := 0) rfl; have d1 := (R3.out.ext hx4).cell (i := 1) rfl; have d2 := (R3.out.ext hx4).cell (i := 2) rfl; have d3 := (R3.out.ext hx4).cell (i := 3) rfl; have d4 := (R3.out.ext hx4).cell (i := 4) rfl; have d5 := (R3.out.ext hx4).cell (i := 5) rfl; have d6 := (R3.out.ext hx4).cell (i := 6) rfl; have d7 := (R3.out.ext hx4).cell (i := 7) rfl; have d8 := (R3.out.ext hx4).cell (i := 8) rfl; have d9 := (R3.out.ext hx4).cell (i := 9) rfl; have r0 := (Q3.out.ext hx4).cell (i := 0) rfl; have r1 := (Q3.out.ext hx4).cell (i := 1) rfl; have r2 := (Q3.out.ext hx4).cell (i := 2) rfl; have r3 := (Q3.out.ext hx4).cell (i := 3) rfl; have r4 := (Q3.out.ext hx4).cell (i := 4) rfl; clear hx4)
              | (go_at_call 18; (with_reducible refine (KK.out _ X4.out).mono ?_); rintro e w5 ⟨rfl, hx5⟩; have X5 := hide (X4.out.trans hx5); clear hx5))
            go_ret
            exact ⟨rfl, X5.out⟩
        | false =>
          by_cases hn : nx = 0
          · subst hn
            cases g1 with
            | false =>
              go_wp2_with (first
                | (go_at_call 17; (with_reducible refine (KC.out _).mono ?_); rintro e w4 ⟨rfl, hx4⟩; have X4 := hide (X3.out.trans hx4); have d0 := (R3.out.ext hx4).cell (i := 0) rfl; have d1 := (R3.out.ext hx4).cell (i := 1) rfl; have d2 := (R3.out.ext hx4).cell (i := 2) rfl; have d3 := (R3.out.ext hx4).cell (i := 3) rfl; have d4 := (R3.out.ext hx4).cell (i := 4) rfl; have d5 := (R3.out.ext hx4).cell (i := 5) rfl; have d6 := (R3.out.ext hx4).cell (i := 6) rfl; have d7 := (R3.out.ext hx4).cell (i := 7) rfl; have d8 := (R3.out.ext hx4).cell (i := 8) rfl; have d9 := (R3.out.ext hx4).cell (i := 9) rfl; have r0 := (Q3.out.ext hx4).cell (i := 0) rfl; have r1 := (Q3.out.ext hx4).cell (i := 1) rfl; have r2 := (Q3.out.ext hx4).cell (i := 2) rfl; have r3 := (Q3.out.ext hx4).cell (i := 3) rfl; have r4 := (Q3.out.ext hx4).cell (i := 4) rfl; clear hx4)
                | (go_at_call 18; (with_reducible refine (KK.out _ X4.out).mono ?_); rintro e w5 ⟨rfl, hx5⟩; have X5 := hide (X4.out.trans hx5); clear hx5))
              go_ret
              exact ⟨rfl, X4.out⟩
            | true =>
              go_wp2_with (first
                | (go_at_call 17; (with_reducible refine (KC.out _).mono ?_); rintro e w4 ⟨rfl, hx4⟩; have X4 := hide (X3.out.trans hx4); have d0 := (R3.out.ext hx4).cell (i := 0) rfl; have d1 := (R3.out.ext hx4).cell (i := 1) rfl; have d2 := (R3.out.ext hx4).cell (i := 2) rfl; have d3 := (R3.out.ext hx4).cell (i := 3) rfl; have d4 := (R3.out.ext hx4).cell (i := 4) rfl; have d5 := (R3.out.ext hx4).cell (i := 5) rfl; have d6 := (R3.out.ext hx4).cell (i := 6) rfl; have d7 := (R3.out.ext hx4).cell (i := 7) rfl; have d8 := (R3.out.ext hx4).cell (i := 8) rfl; have d9 := (R3.out.ext hx4).cell (i := 9) rfl; have r0 := (Q3.out.ext hx4).cell (i := 0) rfl; have r1 := (Q3.out.ext hx4).cell (i := 1) rfl; have r2 := (Q3.out.ext hx4).cell (i := 2) rfl; have r3 := (Q3.out.ext hx4).cell (i := 3) rfl; have r4 := (Q3.out.ext hx4).cell (i := 4) rfl; clear hx4)
                | (go_at_call 18; (with_reducible refine (KK.out _ X4.out).mono ?_); rintro e w5 ⟨rfl, hx5⟩; have X5 := hide (X4.out.trans hx5); clear hx5))
              go_ret
              exact ⟨rfl, X5.out⟩
          · have en : (nx == 0) = false := by simp [hn]
            go_wp2_with (first
              | (go_at_call 17; (with_reducible refine (KC.out _).mono ?_); rintro e w4 ⟨rfl, hx4⟩; have X4 := hide (X3.out.trans hx4); have d0 := (R3.out.ext hx4).cell (i := 0) rfl; have d1 := (R3.out.ext hx4).cell (i := 1) rfl; have d2 := (R3.out.ext hx4).cell (i := 2) rfl; have d3 := (R3.out.ext hx4).cell (i := 3) rfl; have d4 := (R3.out.ext hx4).cell (i := 4) rfl; have d5 := (R3.out.ext hx4).cell (i := 5) rfl; have d6 := (R3.out.ext hx4).cell (i := 6) rfl; have d7 := (R3.out.ext hx4).cell (i := 7) rfl; have d8 := (R3.out.ext hx4).cell (i := 8) rfl; have d9 := (R3.out.ext hx4).cell (i := 9) rfl; have r0 := (Q3.out.ext hx4).cell (i := 0) rfl; have r1 := (Q3.out.ext hx4).cell (i := 1) rfl; have r2 := (Q3.out.ext hx4).cell (i := 2) rfl; have r3 := (Q3.out.ext hx4).cell (i := 3) rfl; have r4 := (Q3.out.ext hx4).cell (i := 4) rfl; clear hx4)
              | (go_at_call 18; (with_reducible refine (KK.out _ X4.out).mono ?_); rintro e w5 ⟨rfl, hx5⟩; have X5 := hide (X4.out.trans hx5); clear hx5))
            go_ret
            exact ⟨by rw [en]; rfl, X3.out⟩
      · have ep : (pv == 0) = false := by simp [hp]
        go_wp2_with (first
          | (go_at_call 17; (with_reducible refine (KC.out _).mono ?_); rintro e w4 ⟨rfl, hx4⟩; have X4 := hide (X3.out.trans hx4); have d0 := (R3.out.ext hx4).cell (i := 0) rfl; have d1 := (R3.out.ext hx4).cell (i := 1) rfl; have d2 := (R3.out.ext hx4).cell (i := 2) rfl; have d3 := (R3.out.ext hx4).cell (i := 3) rfl; have d4 := (R3.out.ext hx4).cell (i := 4) rfl; have d5 := (R3.out.ext hx4).cell (i := 5) rfl; have d6 := (R3.out.ext hx4).cell (i := 6) rfl; have d7 := (R3.out.ext hx4).cell (i := 7) rfl; have d8 := (R3.out.ext hx4).cell (i := 8) rfl; have d9 := (R3.out.ext hx4).cell (i := 9) rfl; have r0 := (Q3.out.ext hx4).cell (i := 0) rfl; have r1 := (Q3.out.ext hx4).cell (i := 1) rfl; have r2 := (Q3.out.ext hx4).cell (i := 2) rfl; have r3 := (Q3.out.ext hx4).cell (i := 3) rfl; have r4 := (Q3.out.ext hx4).cell (i := 4) rfl; clear hx4)
          | (go_at_call 18; (with_reducible refine (KK.out _ X4.out).mono ?_); rintro e w5 ⟨rfl, hx5⟩; have X5 := hide (X4.out.trans hx5); clear hx5))
        go_ret
        exact ⟨by rw [ep]; rfl, X3.out⟩
end Go.Proofs.YthdahgekodcloaaDoor
