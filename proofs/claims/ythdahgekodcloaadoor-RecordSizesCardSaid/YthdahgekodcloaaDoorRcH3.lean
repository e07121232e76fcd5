/-
  Which records there are: the document's Form.
-/
import Derived.Test.YthdahgekodcloaaDoorRcG
namespace Go.Proofs.YthdahgekodcloaaDoor
open Go.RowKit

set_option maxRecDepth 20000 in
set_option maxHeartbeats 6400000 in
theorem rform_3 (tx pv pg off nx : Int) (A B D : Option Addr) (nb a na b' nd d : Nat) (op : Bool) (w : World) (L : List (Int × Int)) (hr : RdD w D L) (hn : L.length = nd) (hnd : nd ≤ 140737488351232) (hna : na ≤ 140737488351232) (hnb : nb ≤ 140737488351232) (ho : -9223372036854775808 ≤ off) (ho2 : off < 9223372036854775808) :
    Calls Tryd.prog 10 #[.agg #[.int .u8 3, .int .u64 tx, .int .u64 pv, .int .i64 pg, .int .i64 off, .slice A nb a, .slice B na b', .int .u64 nx, .slice D nd d, .bool op]] w (RetB w (formN 3 pv pg off nx na nb nd L op)) := by
  have HR := hide hr
  have HL := hide hn
  have HO := hide (And.intro ho ho2)
  clear hr hn ho ho2
  go_enter Tryd.func10, Tryd.ntmps10
  go_upto_region 1 with fail
  obtain ⟨W1, hX1, hR1, hg⟩ : ∃ W1, Ext w W1 ∧ Rw W1 w.heap.size 26 [.int .u8 3, .int .u64 tx, .int .u64 pv, .int .i64 pg, .int .i64 off, .slice A nb a, .slice B na b', .int .u64 nx, .slice D nd d, .bool op] ∧ w.alloc (.cells #[.int .u8 3, .int .u64 tx, .int .u64 pv, .int .i64 pg, .int .i64 off, .slice A nb a, .slice B na b', .int .u64 nx, .slice D nd d, .bool op] 26) = W1 := ⟨_, Ext.alloc _ _, Rw.new _ _ _, rfl⟩
  rw [hg]
  obtain ⟨hb, HHB⟩ : ∃ hb, Hid (w.heap.size = hb) := ⟨_, hide rfl⟩
  rw [HHB.out] at hR1 ⊢
  have X1 := hide hX1
  have c0 := hR1.cell (i := 0) rfl
  have c1 := hR1.cell (i := 1) rfl
  have c2 := hR1.cell (i := 2) rfl
  have c3 := hR1.cell (i := 3) rfl
  have c4 := hR1.cell (i := 4) rfl
  have c5 := hR1.cell (i := 5) rfl
  have c6 := hR1.cell (i := 6) rfl
  have c7 := hR1.cell (i := 7) rfl
  have c8 := hR1.cell (i := 8) rfl
  have c9 := hR1.cell (i := 9) rfl
  clear hg hX1 hR1
  by_cases tnb : nb = 0
  · subst tnb
    by_cases tnd : nd = 0
    · subst tnd
      by_cases hop : op = false
      · subst hop
        by_cases hp1 : 0 ≤ pg
        · have dp1 : ¬ (pg : Int) < 0 := by omega
          have ddp1 : decide ((pg : Int) < 0) = false := by simp; omega
          by_cases hp2 : pg ≤ 4095
          · have dp2 : ¬ (4095 : Int) < pg := by omega
            have ddp2 : decide ((4095 : Int) < pg) = false := by simp; omega
            by_cases hn1 : 1 ≤ na
            · have dn1 : ¬ (na : Int) < 1 := by omega
              have dn1b : decide ((na : Int) < 1) = false := by simp; omega
              by_cases hn2 : na ≤ 512
              · have dn2 : ¬ (512 : Int) < (na : Int) := by omega
                by_cases ho1 : 0 ≤ off
                · have do1 : ¬ (off : Int) < 0 := by omega
                  have ddo1 : decide ((off : Int) < 0) = false := by simp; omega
                  by_cases ho2 : off ≤ 512 - (na : Int)
                  · have do2 : ¬ (512 - (na : Int) : Int) < off := by omega
                    have ddo2 : decide ((512 - (na : Int) : Int) < off) = false := by simp; omega
                    have HLN : Hid (L = []) := hide (List.length_eq_zero_iff.1 HL.out)
                    go_wp2
                    go_rounds 1
                    go_wp2
                    go_ret
                    exact ⟨ret_bool (Eq.symm (by
                      rw [HLN.out]
                      try simp [formN, hok, hpv, hch, hbf, hnx, hck, chgN, chkN, isPg, risB]
                      all_goals (try omega))), X1.out⟩
                  · have do2 : (512 - (na : Int) : Int) < off := by omega
                    go_wp2
                    go_ret
                    exact ⟨ret_bool (Eq.symm (by
                      rw [Bool.eq_false_iff]
                      intro h
                      try simp [formN, hok, hpv, hch, hbf, hnx, hck, chgN, chkN, isPg] at h
                      all_goals (try omega))), X1.out⟩
                · have do1 : (off : Int) < 0 := by omega
                  go_wp2
                  go_ret
                  exact ⟨ret_bool (Eq.symm (by
                    rw [Bool.eq_false_iff]
                    intro h
                    try simp [formN, hok, hpv, hch, hbf, hnx, hck, chgN, chkN, isPg] at h
                    all_goals (try omega))), X1.out⟩
              · have dn2 : (512 : Int) < (na : Int) := by omega
                go_wp2
                go_ret
                exact ⟨ret_bool (Eq.symm (by
                  rw [Bool.eq_false_iff]
                  intro h
                  try simp [formN, hok, hpv, hch, hbf, hnx, hck, chgN, chkN, isPg] at h
                  all_goals (try omega))), X1.out⟩
            · have dn1 : (na : Int) < 1 := by omega
              go_wp2
              go_ret
              exact ⟨ret_bool (Eq.symm (by
                rw [Bool.eq_false_iff]
                intro h
                try simp [formN, hok, hpv, hch, hbf, hnx, hck, chgN, chkN, isPg] at h
                all_goals (try omega))), X1.out⟩
          · have dp2 : (4095 : Int) < pg := by omega
            go_wp2
            go_ret
            exact ⟨ret_bool (Eq.symm (by
              rw [Bool.eq_false_iff]
              intro h
              try simp [formN, hok, hpv, hch, hbf, hnx, hck, chgN, chkN, isPg] at h
              all_goals (try omega))), X1.out⟩
        · have dp1 : (pg : Int) < 0 := by omega
          go_wp2
          go_ret
          exact ⟨ret_bool (Eq.symm (by
            rw [Bool.eq_false_iff]
            intro h
            try simp [formN, hok, hpv, hch, hbf, hnx, hck, chgN, chkN, isPg] at h
            all_goals (try omega))), X1.out⟩
      · have hop2 : op = true := by simpa using hop
        subst hop2
        go_wp2
        go_ret
        exact ⟨ret_bool (Eq.symm (by
          rw [Bool.eq_false_iff]
          intro h
          try simp [formN, hok, hpv, hch, hbf, hnx, hck, chgN, chkN, isPg] at h
          all_goals (try omega))), X1.out⟩
    · have znd : 0 < nd := by omega
      have fnd : (0 : Int) < (nd : Int) := by omega
      go_wp2
      go_ret
      exact ⟨ret_bool (Eq.symm (by
        rw [Bool.eq_false_iff]
        intro h
        try simp [formN, hok, hpv, hch, hbf, hnx, hck, chgN, chkN, isPg] at h
        all_goals (try omega))), X1.out⟩
  · have znb : 0 < nb := by omega
    have fnb : (0 : Int) < (nb : Int) := by omega
    go_wp2
    go_ret
    exact ⟨ret_bool (Eq.symm (by
      rw [Bool.eq_false_iff]
      intro h
      try simp [formN, hok, hpv, hch, hbf, hnx, hck, chgN, chkN, isPg] at h
      all_goals (try omega))), X1.out⟩
end Go.Proofs.YthdahgekodcloaaDoor
