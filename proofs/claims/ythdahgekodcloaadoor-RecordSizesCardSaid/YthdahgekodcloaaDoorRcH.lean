/-
  Which records there are: the document's Form.
-/
import Derived.Test.YthdahgekodcloaaDoorRcH1
import Derived.Test.YthdahgekodcloaaDoorRcH2
import Derived.Test.YthdahgekodcloaaDoorRcH3
import Derived.Test.YthdahgekodcloaaDoorRcH4
import Derived.Test.YthdahgekodcloaaDoorRcH5
import Derived.Test.YthdahgekodcloaaDoorRcH6
namespace Go.Proofs.YthdahgekodcloaaDoor
open Go.RowKit

set_option maxRecDepth 20000 in
set_option maxHeartbeats 1600000 in
theorem rform_any (k : Int) (tx pv pg off nx : Int) (A B D : Option Addr) (nb a na b' nd d : Nat) (op : Bool) (w : World) (L : List (Int × Int)) (hr : RdD w D L) (hn : L.length = nd) (hnd : nd ≤ 140737488351232) (hna : na ≤ 140737488351232) (hnb : nb ≤ 140737488351232) (ho : -9223372036854775808 ≤ off) (ho2 : off < 9223372036854775808) :
    Calls Tryd.prog 10 #[.agg #[.int .u8 k, .int .u64 tx, .int .u64 pv, .int .i64 pg, .int .i64 off, .slice A nb a, .slice B na b', .int .u64 nx, .slice D nd d, .bool op]] w (RetB w (formN k pv pg off nx na nb nd L op)) := by
  by_cases h1 : k = 1
  · subst h1; exact rform_1 tx pv pg off nx A B D nb a na b' nd d op w L hr hn hnd hna hnb ho ho2
  by_cases h2 : k = 2
  · subst h2; exact rform_2 tx pv pg off nx A B D nb a na b' nd d op w L hr hn hnd hna hnb ho ho2
  by_cases h3 : k = 3
  · subst h3; exact rform_3 tx pv pg off nx A B D nb a na b' nd d op w L hr hn hnd hna hnb ho ho2
  by_cases h4 : k = 4
  · subst h4; exact rform_4 tx pv pg off nx A B D nb a na b' nd d op w L hr hn hnd hna hnb ho ho2
  by_cases h5 : k = 5
  · subst h5; exact rform_5 tx pv pg off nx A B D nb a na b' nd d op w L hr hn hnd hna hnb ho ho2
  by_cases h6 : k = 6
  · subst h6; exact rform_6 tx pv pg off nx A B D nb a na b' nd d op w L hr hn hnd hna hnb ho ho2
  have HV : formN k pv pg off nx na nb nd L op = false := by
    have e2 : hok k = false := by simp only [hok, Bool.and_eq_false_iff, decide_eq_false_iff_not]; omega
    simp [formN, e2]
  rw [HV]
  by_cases hk : k < 1
  · clear hr hn hnd hna hnb ho ho2 h1 h2 h3 h4 h5 h6
    go_enter Tryd.func10, Tryd.ntmps10
    go_upto_region 1 with fail
    obtain ⟨W1, hX1, hR1, hg⟩ : ∃ W1, Ext w W1 ∧ Rw W1 w.heap.size 26 [.int .u8 k, .int .u64 tx, .int .u64 pv, .int .i64 pg, .int .i64 off, .slice A nb a, .slice B na b', .int .u64 nx, .slice D nd d, .bool op] ∧ w.alloc (.cells #[.int .u8 k, .int .u64 tx, .int .u64 pv, .int .i64 pg, .int .i64 off, .slice A nb a, .slice B na b', .int .u64 nx, .slice D nd d, .bool op] 26) = W1 := ⟨_, Ext.alloc _ _, Rw.new _ _ _, rfl⟩
    rw [hg]
    obtain ⟨hb, HHB⟩ : ∃ hb, Hid (w.heap.size = hb) := ⟨_, hide rfl⟩
    rw [HHB.out] at hR1 ⊢
    have X1 := hide hX1
    have c0 := hR1.cell (i := 0) rfl
    have c1 := hR1.cell (i := 1) rfl
    have c2 := hR1.cell (i := 2) rfl
    have c3 := hR1.cell (i := 3) rfl
    have c4 := hR1.cell (i := 4) rfl
    have c5 := hR1.cell (i := 5) rfl
    have c6 := hR1.cell (i := 6) rfl
    have c7 := hR1.cell (i := 7) rfl
    have c8 := hR1.cell (i := 8) rfl
    have c9 := hR1.cell (i := 9) rfl
    clear hg hX1 hR1
    go_wp2
    go_ret
    exact ⟨rfl, X1.out⟩
  · have hk6 : (6 : Int) < k := by omega
    have hk2 : decide (k < 1) = false := decide_eq_false hk
    clear hr hn hnd hna hnb ho ho2 h1 h2 h3 h4 h5 h6
    go_enter Tryd.func10, Tryd.ntmps10
    go_upto_region 1 with fail
    obtain ⟨W1, hX1, hR1, hg⟩ : ∃ W1, Ext w W1 ∧ Rw W1 w.heap.size 26 [.int .u8 k, .int .u64 tx, .int .u64 pv, .int .i64 pg, .int .i64 off, .slice A nb a, .slice B na b', .int .u64 nx, .slice D nd d, .bool op] ∧ w.alloc (.cells #[.int .u8 k, .int .u64 tx, .int .u64 pv, .int .i64 pg, .int .i64 off, .slice A nb a, .slice B na b', .int .u64 nx, .slice D nd d, .bool op] 26) = W1 := ⟨_, Ext.alloc _ _, Rw.new _ _ _, rfl⟩
    rw [hg]
    obtain ⟨hb, HHB⟩ : ∃ hb, Hid (w.heap.size = hb) := ⟨_, hide rfl⟩
    rw [HHB.out] at hR1 ⊢
    have X1 := hide hX1
    have c0 := hR1.cell (i := 0) rfl
    have c1 := hR1.cell (i := 1) rfl
    have c2 := hR1.cell (i := 2) rfl
    have c3 := hR1.cell (i := 3) rfl
    have c4 := hR1.cell (i := 4) rfl
    have c5 := hR1.cell (i := 5) rfl
    have c6 := hR1.cell (i := 6) rfl
    have c7 := hR1.cell (i := 7) rfl
    have c8 := hR1.cell (i := 8) rfl
    have c9 := hR1.cell (i := 9) rfl
    clear hg hX1 hR1
    go_wp2
    go_ret
    exact ⟨rfl, X1.out⟩
end Go.Proofs.YthdahgekodcloaaDoor
