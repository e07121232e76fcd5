/-
  Which records there are: the document's Form.
  Which records there are: the document's Form.
  Which records there are: the document's Form.
  Which records there are: the document's Form.
  Which records there are: the document's Form.
  Which records there are: the document's Form.
  The document's example of records; how long records are.
  Decode of what Encode wrote.
-/
import Derived.Test.YtkbmcebdhiiffaaDoorPkCardRcDecodes3
import Derived.Test.YtkbmcebdhiiffaaDoorPkCardRcDecodes11
import Derived.Test.YtkbmcebdhiiffaaDoorPkCardRcDecodes13
set_option linter.unusedVariables false
set_option linter.unusedSimpArgs false

namespace Go.Proofs.YtkbmcebdhiiffaaDoor
open Go.RowKit

set_option maxRecDepth 20000 in
set_option maxHeartbeats 6400000 in
theorem rform_2 (tx pv pg off nx : Int) (A B D : Option Addr) (nb a na b' nd d : Nat) (op : Bool) (w : World) (L : List (Int × Int)) (hr : RdD w D L) (hn : L.length = nd) (hnd : nd ≤ 140737488351232) (hna : na ≤ 140737488351232) (hnb : nb ≤ 140737488351232) (ho : -9223372036854775808 ≤ off) (ho2 : off < 9223372036854775808) :
    Calls Tryd.prog 10 #[.agg #[.int .u8 2, .int .u64 tx, .int .u64 pv, .int .i64 pg, .int .i64 off, .slice A nb a, .slice B na b', .int .u64 nx, .slice D nd d, .bool op]] w (RetB w (formN 2 pv pg off nx na nb nd L op)) := by
  have HR := hide hr
  have HL := hide hn
  have HO := hide (And.intro ho ho2)
  clear hr hn ho ho2
  go_enter Tryd.func10, Tryd.ntmps10
  go_upto_region 1 with fail
  obtain ⟨W1, hX1, hR1, hg⟩ : ∃ W1, Ext w W1 ∧ Rw W1 w.heap.size 26 [.int .u8 2, .int .u64 tx, .int .u64 pv, .int .i64 pg, .int .i64 off, .slice A nb a, .slice B na b', .int .u64 nx, .slice D nd d, .bool op] ∧ w.alloc (.cells #[.int .u8 2, .int .u64 tx, .int .u64 pv, .int .i64 pg, .int .i64 off, .slice A nb a, .slice B na b', .int .u64 nx, .slice D nd d, .bool op] 26) = W1 := ⟨_, Ext.alloc _ _, Rw.new _ _ _, rfl⟩
  rw [hg]
  obtain ⟨hb, HHB⟩ : ∃ hb, Hid (w.heap.size = hb) := ⟨_, hide rfl⟩
  rw [HHB.out] at hR1 ⊢
  have X1 := hide hX1
  have c0 := hR1.cell (i := 0) rfl
  have c1 := hR1.cell (i := 1) rfl
  have c2 := hR1.cell (i := 2) rfl
  have c3 := hR1.cell (i := 3) rfl
  have c4 := hR1.cell (i := 4) rfl
  have c5 := hR1.cell (i := 5) rfl
  have c6 := hR1.cell (i := 6) rfl
  have c7 := hR1.cell (i := 7) rfl
  have c8 := hR1.cell (i := 8) rfl
  have c9 := hR1.cell (i := 9) rfl
  clear hg hX1 hR1
  by_cases tnx : nx = 0
  · subst tnx
    by_cases tnd : nd = 0
    · subst tnd
      by_cases hop : op = false
      · subst hop
        by_cases hp1 : 0 ≤ pg
        · have dp1 : ¬ (pg : Int) < 0 := by omega
          have ddp1 : decide ((pg : Int) < 0) = false := by simp; omega
          by_cases hp2 : pg ≤ 4095
          · have dp2 : ¬ (4095 : Int) < pg := by omega
            have ddp2 : decide ((4095 : Int) < pg) = false := by simp; omega
            by_cases hn1 : 1 ≤ na
            · have dn1 : ¬ (na : Int) < 1 := by omega
              have dn1b : decide ((na : Int) < 1) = false := by simp; omega
              by_cases hn2 : na ≤ 512
              · have dn2 : ¬ (512 : Int) < (na : Int) := by omega
                by_cases ho1 : 0 ≤ off
                · have do1 : ¬ (off : Int) < 0 := by omega
                  have ddo1 : decide ((off : Int) < 0) = false := by simp; omega
                  by_cases ho2 : off ≤ 512 - (na : Int)
                  · have do2 : ¬ (512 - (na : Int) : Int) < off := by omega
                    have ddo2 : decide ((512 - (na : Int) : Int) < off) = false := by simp; omega
                    by_cases hbn : nb = na
                    · subst hbn
                      have HLN : Hid (L = []) := hide (List.length_eq_zero_iff.1 HL.out)
                      go_wp2
                      go_rounds 1
                      go_wp2
                      go_ret
                      exact ⟨ret_bool (Eq.symm (by
                        rw [HLN.out]
                        try simp [formN, hok, hpv, hch, hbf, hnx, hck, chgN, chkN, isPg, risB]
                        all_goals (try omega))), X1.out⟩
                    · have eb : ((nb : Int) != (na : Int)) = true := by simp; omega
                      go_wp2
                      go_ret
                      exact ⟨ret_bool (Eq.symm (by
                        rw [Bool.eq_false_iff]
                        intro h
                        try simp [formN, hok, hpv, hch, hbf, hnx, hck, chgN, chkN, isPg] at h
                        all_goals (try omega))), X1.out⟩
                  · have do2 : (512 - (na : Int) : Int) < off := by omega
                    go_wp2
                    go_ret
                    exact ⟨ret_bool (Eq.symm (by
                      rw [Bool.eq_false_iff]
                      intro h
                      try simp [formN, hok, hpv, hch, hbf, hnx, hck, chgN, chkN, isPg] at h
                      all_goals (try omega))), X1.out⟩
                · have do1 : (off : Int) < 0 := by omega
                  go_wp2
                  go_ret
                  exact ⟨ret_bool (Eq.symm (by
                    rw [Bool.eq_false_iff]
                    intro h
                    try simp [formN, hok, hpv, hch, hbf, hnx, hck, chgN, chkN, isPg] at h
                    all_goals (try omega))), X1.out⟩
              · have dn2 : (512 : Int) < (na : Int) := by omega
                go_wp2
                go_ret
                exact ⟨ret_bool (Eq.symm (by
                  rw [Bool.eq_false_iff]
                  intro h
                  try simp [formN, hok, hpv, hch, hbf, hnx, hck, chgN, chkN, isPg] at h
                  all_goals (try omega))), X1.out⟩
            · have dn1 : (na : Int) < 1 := by omega
              go_wp2
              go_ret
              exact ⟨ret_bool (Eq.symm (by
                rw [Bool.eq_false_iff]
                intro h
                try simp [formN, hok, hpv, hch, hbf, hnx, hck, chgN, chkN, isPg] at h
                all_goals (try omega))), X1.out⟩
          · have dp2 : (4095 : Int) < pg := by omega
            go_wp2
            go_ret
            exact ⟨ret_bool (Eq.symm (by
              rw [Bool.eq_false_iff]
              intro h
              try simp [formN, hok, hpv, hch, hbf, hnx, hck, chgN, chkN, isPg] at h
              all_goals (try omega))), X1.out⟩
        · have dp1 : (pg : Int) < 0 := by omega
          go_wp2
          go_ret
          exact ⟨ret_bool (Eq.symm (by
            rw [Bool.eq_false_iff]
            intro h
            try simp [formN, hok, hpv, hch, hbf, hnx, hck, chgN, chkN, isPg] at h
            all_goals (try omega))), X1.out⟩
      · have hop2 : op = true := by simpa using hop
        subst hop2
        go_wp2
        go_ret
        exact ⟨ret_bool (Eq.symm (by
          rw [Bool.eq_false_iff]
          intro h
          try simp [formN, hok, hpv, hch, hbf, hnx, hck, chgN, chkN, isPg] at h
          all_goals (try omega))), X1.out⟩
    · have znd : 0 < nd := by omega
      have fnd : (0 : Int) < (nd : Int) := by omega
      go_wp2
      go_ret
      exact ⟨ret_bool (Eq.symm (by
        rw [Bool.eq_false_iff]
        intro h
        try simp [formN, hok, hpv, hch, hbf, hnx, hck, chgN, chkN, isPg] at h
        all_goals (try omega))), X1.out⟩
  · have znx : (nx != 0) = true := by simp [tnx]
    go_wp2
    go_ret
    exact ⟨ret_bool (Eq.symm (by
      rw [Bool.eq_false_iff]
      intro h
      try simp [formN, hok, hpv, hch, hbf, hnx, hck, chgN, chkN, isPg] at h
      all_goals (try omega))), X1.out⟩
end Go.Proofs.YtkbmcebdhiiffaaDoor
namespace Go.Proofs.YtkbmcebdhiiffaaDoor
open Go.RowKit

set_option maxRecDepth 20000 in
set_option maxHeartbeats 6400000 in
theorem rform_3 (tx pv pg off nx : Int) (A B D : Option Addr) (nb a na b' nd d : Nat) (op : Bool) (w : World) (L : List (Int × Int)) (hr : RdD w D L) (hn : L.length = nd) (hnd : nd ≤ 140737488351232) (hna : na ≤ 140737488351232) (hnb : nb ≤ 140737488351232) (ho : -9223372036854775808 ≤ off) (ho2 : off < 9223372036854775808) :
    Calls Tryd.prog 10 #[.agg #[.int .u8 3, .int .u64 tx, .int .u64 pv, .int .i64 pg, .int .i64 off, .slice A nb a, .slice B na b', .int .u64 nx, .slice D nd d, .bool op]] w (RetB w (formN 3 pv pg off nx na nb nd L op)) := by
  have HR := hide hr
  have HL := hide hn
  have HO := hide (And.intro ho ho2)
  clear hr hn ho ho2
  go_enter Tryd.func10, Tryd.ntmps10
  go_upto_region 1 with fail
  obtain ⟨W1, hX1, hR1, hg⟩ : ∃ W1, Ext w W1 ∧ Rw W1 w.heap.size 26 [.int .u8 3, .int .u64 tx, .int .u64 pv, .int .i64 pg, .int .i64 off, .slice A nb a, .slice B na b', .int .u64 nx, .slice D nd d, .bool op] ∧ w.alloc (.cells #[.int .u8 3, .int .u64 tx, .int .u64 pv, .int .i64 pg, .int .i64 off, .slice A nb a, .slice B na b', .int .u64 nx, .slice D nd d, .bool op] 26) = W1 := ⟨_, Ext.alloc _ _, Rw.new _ _ _, rfl⟩
  rw [hg]
  obtain ⟨hb, HHB⟩ : ∃ hb, Hid (w.heap.size = hb) := ⟨_, hide rfl⟩
  rw [HHB.out] at hR1 ⊢
  have X1 := hide hX1
  have c0 := hR1.cell (i := 0) rfl
  have c1 := hR1.cell (i := 1) rfl
  have c2 := hR1.cell (i := 2) rfl
  have c3 := hR1.cell (i := 3) rfl
  have c4 := hR1.cell (i := 4) rfl
  have c5 := hR1.cell (i := 5) rfl
  have c6 := hR1.cell (i := 6) rfl
  have c7 := hR1.cell (i := 7) rfl
  have c8 := hR1.cell (i := 8) rfl
  have c9 := hR1.cell (i := 9) rfl
  clear hg hX1 hR1
  by_cases tnb : nb = 0
  · subst tnb
    by_cases tnd : nd = 0
    · subst tnd
      by_cases hop : op = false
      · subst hop
        by_cases hp1 : 0 ≤ pg
        · have dp1 : ¬ (pg : Int) < 0 := by omega
          have ddp1 : decide ((pg : Int) < 0) = false := by simp; omega
          by_cases hp2 : pg ≤ 4095
          · have dp2 : ¬ (4095 : Int) < pg := by omega
            have ddp2 : decide ((4095 : Int) < pg) = false := by simp; omega
            by_cases hn1 : 1 ≤ na
            · have dn1 : ¬ (na : Int) < 1 := by omega
              have dn1b : decide ((na : Int) < 1) = false := by simp; omega
              by_cases hn2 : na ≤ 512
              · have dn2 : ¬ (512 : Int) < (na : Int) := by omega
                by_cases ho1 : 0 ≤ off
                · have do1 : ¬ (off : Int) < 0 := by omega
                  have ddo1 : decide ((off : Int) < 0) = false := by simp; omega
                  by_cases ho2 : off ≤ 512 - (na : Int)
                  · have do2 : ¬ (512 - (na : Int) : Int) < off := by omega
                    have ddo2 : decide ((512 - (na : Int) : Int) < off) = false := by simp; omega
                    have HLN : Hid (L = []) := hide (List.length_eq_zero_iff.1 HL.out)
                    go_wp2
                    go_rounds 1
                    go_wp2
                    go_ret
                    exact ⟨ret_bool (Eq.symm (by
                      rw [HLN.out]
                      try simp [formN, hok, hpv, hch, hbf, hnx, hck, chgN, chkN, isPg, risB]
                      all_goals (try omega))), X1.out⟩
                  · have do2 : (512 - (na : Int) : Int) < off := by omega
                    go_wp2
                    go_ret
                    exact ⟨ret_bool (Eq.symm (by
                      rw [Bool.eq_false_iff]
                      intro h
                      try simp [formN, hok, hpv, hch, hbf, hnx, hck, chgN, chkN, isPg] at h
                      all_goals (try omega))), X1.out⟩
                · have do1 : (off : Int) < 0 := by omega
                  go_wp2
                  go_ret
                  exact ⟨ret_bool (Eq.symm (by
                    rw [Bool.eq_false_iff]
                    intro h
                    try simp [formN, hok, hpv, hch, hbf, hnx, hck, chgN, chkN, isPg] at h
                    all_goals (try omega))), X1.out⟩
              · have dn2 : (512 : Int) < (na : Int) := by omega
                go_wp2
                go_ret
                exact ⟨ret_bool (Eq.symm (by
                  rw [Bool.eq_false_iff]
                  intro h
                  try simp [formN, hok, hpv, hch, hbf, hnx, hck, chgN, chkN, isPg] at h
                  all_goals (try omega))), X1.out⟩
            · have dn1 : (na : Int) < 1 := by omega
              go_wp2
              go_ret
              exact ⟨ret_bool (Eq.symm (by
                rw [Bool.eq_false_iff]
                intro h
                try simp [formN, hok, hpv, hch, hbf, hnx, hck, chgN, chkN, isPg] at h
                all_goals (try omega))), X1.out⟩
          · have dp2 : (4095 : Int) < pg := by omega
            go_wp2
            go_ret
            exact ⟨ret_bool (Eq.symm (by
              rw [Bool.eq_false_iff]
              intro h
              try simp [formN, hok, hpv, hch, hbf, hnx, hck, chgN, chkN, isPg] at h
              all_goals (try omega))), X1.out⟩
        · have dp1 : (pg : Int) < 0 := by omega
          go_wp2
          go_ret
          exact ⟨ret_bool (Eq.symm (by
            rw [Bool.eq_false_iff]
            intro h
            try simp [formN, hok, hpv, hch, hbf, hnx, hck, chgN, chkN, isPg] at h
            all_goals (try omega))), X1.out⟩
      · have hop2 : op = true := by simpa using hop
        subst hop2
        go_wp2
        go_ret
        exact ⟨ret_bool (Eq.symm (by
          rw [Bool.eq_false_iff]
          intro h
          try simp [formN, hok, hpv, hch, hbf, hnx, hck, chgN, chkN, isPg] at h
          all_goals (try omega))), X1.out⟩
    · have znd : 0 < nd := by omega
      have fnd : (0 : Int) < (nd : Int) := by omega
      go_wp2
      go_ret
      exact ⟨ret_bool (Eq.symm (by
        rw [Bool.eq_false_iff]
        intro h
        try simp [formN, hok, hpv, hch, hbf, hnx, hck, chgN, chkN, isPg] at h
        all_goals (try omega))), X1.out⟩
  · have znb : 0 < nb := by omega
    have fnb : (0 : Int) < (nb : Int) := by omega
    go_wp2
    go_ret
    exact ⟨ret_bool (Eq.symm (by
      rw [Bool.eq_false_iff]
      intro h
      try simp [formN, hok, hpv, hch, hbf, hnx, hck, chgN, chkN, isPg] at h
      all_goals (try omega))), X1.out⟩
end Go.Proofs.YtkbmcebdhiiffaaDoor
namespace Go.Proofs.YtkbmcebdhiiffaaDoor
open Go.RowKit

set_option maxRecDepth 20000 in
set_option maxHeartbeats 6400000 in
theorem rform_4 (tx pv pg off nx : Int) (A B D : Option Addr) (nb a na b' nd d : Nat) (op : Bool) (w : World) (L : List (Int × Int)) (hr : RdD w D L) (hn : L.length = nd) (hnd : nd ≤ 140737488351232) (hna : na ≤ 140737488351232) (hnb : nb ≤ 140737488351232) (ho : -9223372036854775808 ≤ off) (ho2 : off < 9223372036854775808) :
    Calls Tryd.prog 10 #[.agg #[.int .u8 4, .int .u64 tx, .int .u64 pv, .int .i64 pg, .int .i64 off, .slice A nb a, .slice B na b', .int .u64 nx, .slice D nd d, .bool op]] w (RetB w (formN 4 pv pg off nx na nb nd L op)) := by
  have HR := hide hr
  have HL := hide hn
  have HO := hide (And.intro ho ho2)
  clear hr hn ho ho2
  go_enter Tryd.func10, Tryd.ntmps10
  go_upto_region 1 with fail
  obtain ⟨W1, hX1, hR1, hg⟩ : ∃ W1, Ext w W1 ∧ Rw W1 w.heap.size 26 [.int .u8 4, .int .u64 tx, .int .u64 pv, .int .i64 pg, .int .i64 off, .slice A nb a, .slice B na b', .int .u64 nx, .slice D nd d, .bool op] ∧ w.alloc (.cells #[.int .u8 4, .int .u64 tx, .int .u64 pv, .int .i64 pg, .int .i64 off, .slice A nb a, .slice B na b', .int .u64 nx, .slice D nd d, .bool op] 26) = W1 := ⟨_, Ext.alloc _ _, Rw.new _ _ _, rfl⟩
  rw [hg]
  obtain ⟨hb, HHB⟩ : ∃ hb, Hid (w.heap.size = hb) := ⟨_, hide rfl⟩
  rw [HHB.out] at hR1 ⊢
  have X1 := hide hX1
  have c0 := hR1.cell (i := 0) rfl
  have c1 := hR1.cell (i := 1) rfl
  have c2 := hR1.cell (i := 2) rfl
  have c3 := hR1.cell (i := 3) rfl
  have c4 := hR1.cell (i := 4) rfl
  have c5 := hR1.cell (i := 5) rfl
  have c6 := hR1.cell (i := 6) rfl
  have c7 := hR1.cell (i := 7) rfl
  have c8 := hR1.cell (i := 8) rfl
  have c9 := hR1.cell (i := 9) rfl
  clear hg hX1 hR1
  by_cases tpg : pg = 0
  · subst tpg
    by_cases toff : off = 0
    · subst toff
      by_cases tna : na = 0
      · subst tna
        by_cases tnb : nb = 0
        · subst tnb
          by_cases tnx : nx = 0
          · subst tnx
            by_cases tnd : nd = 0
            · subst tnd
              by_cases hop : op = false
              · subst hop
                have HLN : Hid (L = []) := hide (List.length_eq_zero_iff.1 HL.out)
                go_wp2
                go_rounds 1
                go_wp2
                go_ret
                exact ⟨ret_bool (Eq.symm (by
                  rw [HLN.out]
                  try simp [formN, hok, hpv, hch, hbf, hnx, hck, chgN, chkN, isPg, risB]
                  all_goals (try omega))), X1.out⟩
              · have hop2 : op = true := by simpa using hop
                subst hop2
                go_wp2
                go_ret
                exact ⟨ret_bool (Eq.symm (by
                  rw [Bool.eq_false_iff]
                  intro h
                  try simp [formN, hok, hpv, hch, hbf, hnx, hck, chgN, chkN, isPg] at h
                  all_goals (try omega))), X1.out⟩
            · have znd : 0 < nd := by omega
              have fnd : (0 : Int) < (nd : Int) := by omega
              go_wp2
              go_ret
              exact ⟨ret_bool (Eq.symm (by
                rw [Bool.eq_false_iff]
                intro h
                try simp [formN, hok, hpv, hch, hbf, hnx, hck, chgN, chkN, isPg] at h
                all_goals (try omega))), X1.out⟩
          · have znx : (nx != 0) = true := by simp [tnx]
            go_wp2
            go_ret
            exact ⟨ret_bool (Eq.symm (by
              rw [Bool.eq_false_iff]
              intro h
              try simp [formN, hok, hpv, hch, hbf, hnx, hck, chgN, chkN, isPg] at h
              all_goals (try omega))), X1.out⟩
        · have znb : 0 < nb := by omega
          have fnb : (0 : Int) < (nb : Int) := by omega
          go_wp2
          go_ret
          exact ⟨ret_bool (Eq.symm (by
            rw [Bool.eq_false_iff]
            intro h
            try simp [formN, hok, hpv, hch, hbf, hnx, hck, chgN, chkN, isPg] at h
            all_goals (try omega))), X1.out⟩
      · have zna : 0 < na := by omega
        have fna : (0 : Int) < (na : Int) := by omega
        go_wp2
        go_ret
        exact ⟨ret_bool (Eq.symm (by
          rw [Bool.eq_false_iff]
          intro h
          try simp [formN, hok, hpv, hch, hbf, hnx, hck, chgN, chkN, isPg] at h
          all_goals (try omega))), X1.out⟩
    · have zoff : (off != 0) = true := by simp [toff]
      go_wp2
      go_ret
      exact ⟨ret_bool (Eq.symm (by
        rw [Bool.eq_false_iff]
        intro h
        try simp [formN, hok, hpv, hch, hbf, hnx, hck, chgN, chkN, isPg] at h
        all_goals (try omega))), X1.out⟩
  · have zpg : (pg != 0) = true := by simp [tpg]
    go_wp2
    go_ret
    exact ⟨ret_bool (Eq.symm (by
      rw [Bool.eq_false_iff]
      intro h
      try simp [formN, hok, hpv, hch, hbf, hnx, hck, chgN, chkN, isPg] at h
      all_goals (try omega))), X1.out⟩
end Go.Proofs.YtkbmcebdhiiffaaDoor
namespace Go.Proofs.YtkbmcebdhiiffaaDoor
open Go.RowKit

set_option maxRecDepth 20000 in
set_option maxHeartbeats 6400000 in
theorem rform_5 (tx pv pg off nx : Int) (A B D : Option Addr) (nb a na b' nd d : Nat) (op : Bool) (w : World) (L : List (Int × Int)) (hr : RdD w D L) (hn : L.length = nd) (hnd : nd ≤ 140737488351232) (hna : na ≤ 140737488351232) (hnb : nb ≤ 140737488351232) (ho : -9223372036854775808 ≤ off) (ho2 : off < 9223372036854775808) :
    Calls Tryd.prog 10 #[.agg #[.int .u8 5, .int .u64 tx, .int .u64 pv, .int .i64 pg, .int .i64 off, .slice A nb a, .slice B na b', .int .u64 nx, .slice D nd d, .bool op]] w (RetB w (formN 5 pv pg off nx na nb nd L op)) := by
  have HR := hide hr
  have HL := hide hn
  have HO := hide (And.intro ho ho2)
  clear hr hn ho ho2
  go_enter Tryd.func10, Tryd.ntmps10
  go_upto_region 1 with fail
  obtain ⟨W1, hX1, hR1, hg⟩ : ∃ W1, Ext w W1 ∧ Rw W1 w.heap.size 26 [.int .u8 5, .int .u64 tx, .int .u64 pv, .int .i64 pg, .int .i64 off, .slice A nb a, .slice B na b', .int .u64 nx, .slice D nd d, .bool op] ∧ w.alloc (.cells #[.int .u8 5, .int .u64 tx, .int .u64 pv, .int .i64 pg, .int .i64 off, .slice A nb a, .slice B na b', .int .u64 nx, .slice D nd d, .bool op] 26) = W1 := ⟨_, Ext.alloc _ _, Rw.new _ _ _, rfl⟩
  rw [hg]
  obtain ⟨hb, HHB⟩ : ∃ hb, Hid (w.heap.size = hb) := ⟨_, hide rfl⟩
  rw [HHB.out] at hR1 ⊢
  have X1 := hide hX1
  have c0 := hR1.cell (i := 0) rfl
  have c1 := hR1.cell (i := 1) rfl
  have c2 := hR1.cell (i := 2) rfl
  have c3 := hR1.cell (i := 3) rfl
  have c4 := hR1.cell (i := 4) rfl
  have c5 := hR1.cell (i := 5) rfl
  have c6 := hR1.cell (i := 6) rfl
  have c7 := hR1.cell (i := 7) rfl
  have c8 := hR1.cell (i := 8) rfl
  have c9 := hR1.cell (i := 9) rfl
  clear hg hX1 hR1
  by_cases tpg : pg = 0
  · subst tpg
    by_cases toff : off = 0
    · subst toff
      by_cases tna : na = 0
      · subst tna
        by_cases tnb : nb = 0
        · subst tnb
          by_cases tnx : nx = 0
          · subst tnx
            by_cases tnd : nd = 0
            · subst tnd
              by_cases hop : op = false
              · subst hop
                have HLN : Hid (L = []) := hide (List.length_eq_zero_iff.1 HL.out)
                go_wp2
                go_rounds 1
                go_wp2
                go_ret
                exact ⟨ret_bool (Eq.symm (by
                  rw [HLN.out]
                  try simp [formN, hok, hpv, hch, hbf, hnx, hck, chgN, chkN, isPg, risB]
                  all_goals (try omega))), X1.out⟩
              · have hop2 : op = true := by simpa using hop
                subst hop2
                go_wp2
                go_ret
                exact ⟨ret_bool (Eq.symm (by
                  rw [Bool.eq_false_iff]
                  intro h
                  try simp [formN, hok, hpv, hch, hbf, hnx, hck, chgN, chkN, isPg] at h
                  all_goals (try omega))), X1.out⟩
            · have znd : 0 < nd := by omega
              have fnd : (0 : Int) < (nd : Int) := by omega
              go_wp2
              go_ret
              exact ⟨ret_bool (Eq.symm (by
                rw [Bool.eq_false_iff]
                intro h
                try simp [formN, hok, hpv, hch, hbf, hnx, hck, chgN, chkN, isPg] at h
                all_goals (try omega))), X1.out⟩
          · have znx : (nx != 0) = true := by simp [tnx]
            go_wp2
            go_ret
            exact ⟨ret_bool (Eq.symm (by
              rw [Bool.eq_false_iff]
              intro h
              try simp [formN, hok, hpv, hch, hbf, hnx, hck, chgN, chkN, isPg] at h
              all_goals (try omega))), X1.out⟩
        · have znb : 0 < nb := by omega
          have fnb : (0 : Int) < (nb : Int) := by omega
          go_wp2
          go_ret
          exact ⟨ret_bool (Eq.symm (by
            rw [Bool.eq_false_iff]
            intro h
            try simp [formN, hok, hpv, hch, hbf, hnx, hck, chgN, chkN, isPg] at h
            all_goals (try omega))), X1.out⟩
      · have zna : 0 < na := by omega
        have fna : (0 : Int) < (na : Int) := by omega
        go_wp2
        go_ret
        exact ⟨ret_bool (Eq.symm (by
          rw [Bool.eq_false_iff]
          intro h
          try simp [formN, hok, hpv, hch, hbf, hnx, hck, chgN, chkN, isPg] at h
          all_goals (try omega))), X1.out⟩
    · have zoff : (off != 0) = true := by simp [toff]
      go_wp2
      go_ret
      exact ⟨ret_bool (Eq.symm (by
        rw [Bool.eq_false_iff]
        intro h
        try simp [formN, hok, hpv, hch, hbf, hnx, hck, chgN, chkN, isPg] at h
        all_goals (try omega))), X1.out⟩
  · have zpg : (pg != 0) = true := by simp [tpg]
    go_wp2
    go_ret
    exact ⟨ret_bool (Eq.symm (by
      rw [Bool.eq_false_iff]
      intro h
      try simp [formN, hok, hpv, hch, hbf, hnx, hck, chgN, chkN, isPg] at h
      all_goals (try omega))), X1.out⟩
end Go.Proofs.YtkbmcebdhiiffaaDoor
namespace Go.Proofs.YtkbmcebdhiiffaaDoor
open Go.RowKit

set_option maxRecDepth 20000 in
set_option maxHeartbeats 6400000 in
theorem rform_6 (tx pv pg off nx : Int) (A B D : Option Addr) (nb a na b' nd d : Nat) (op : Bool) (w : World) (L : List (Int × Int)) (hr : RdD w D L) (hn : L.length = nd) (hnd : nd ≤ 140737488351232) (hna : na ≤ 140737488351232) (hnb : nb ≤ 140737488351232) (ho : -9223372036854775808 ≤ off) (ho2 : off < 9223372036854775808) :
    Calls Tryd.prog 10 #[.agg #[.int .u8 6, .int .u64 tx, .int .u64 pv, .int .i64 pg, .int .i64 off, .slice A nb a, .slice B na b', .int .u64 nx, .slice D nd d, .bool op]] w (RetB w (formN 6 pv pg off nx na nb nd L op)) := by
  have HR := hide hr
  have HL := hide hn
  have HO := hide (And.intro ho ho2)
  clear hr hn ho ho2
  go_enter Tryd.func10, Tryd.ntmps10
  go_upto_region 1 with fail
  obtain ⟨W1, hX1, hR1, hg⟩ : ∃ W1, Ext w W1 ∧ Rw W1 w.heap.size 26 [.int .u8 6, .int .u64 tx, .int .u64 pv, .int .i64 pg, .int .i64 off, .slice A nb a, .slice B na b', .int .u64 nx, .slice D nd d, .bool op] ∧ w.alloc (.cells #[.int .u8 6, .int .u64 tx, .int .u64 pv, .int .i64 pg, .int .i64 off, .slice A nb a, .slice B na b', .int .u64 nx, .slice D nd d, .bool op] 26) = W1 := ⟨_, Ext.alloc _ _, Rw.new _ _ _, rfl⟩
  rw [hg]
  obtain ⟨hb, HHB⟩ : ∃ hb, Hid (w.heap.size = hb) := ⟨_, hide rfl⟩
  rw [HHB.out] at hR1 ⊢
  have X1 := hide hX1
  have c0 := hR1.cell (i := 0) rfl
  have c1 := hR1.cell (i := 1) rfl
  have c2 := hR1.cell (i := 2) rfl
  have c3 := hR1.cell (i := 3) rfl
  have c4 := hR1.cell (i := 4) rfl
  have c5 := hR1.cell (i := 5) rfl
  have c6 := hR1.cell (i := 6) rfl
  have c7 := hR1.cell (i := 7) rfl
  have c8 := hR1.cell (i := 8) rfl
  have c9 := hR1.cell (i := 9) rfl
  clear hg hX1 hR1
  by_cases tpg : pg = 0
  · subst tpg
    by_cases toff : off = 0
    · subst toff
      by_cases tna : na = 0
      · subst tna
        by_cases tnb : nb = 0
        · subst tnb
          by_cases tnx : nx = 0
          · subst tnx
            go_upto_region 14 with fail
            go_loop [5, 6] (fun lv iv => ∃ (i : Nat) (last : Int), i ≤ nd ∧ iv = .int .i64 (i : Int) ∧ lv = .int .i64 last ∧ Hid (risB (-1) L = risB last (L.drop i))) (fun _ iv => nd - (intOf iv).toNat)
            case atStart => exact ⟨0, -1, Nat.zero_le _, rfl, rfl, hide rfl⟩
            case round =>
              obtain ⟨i, last, hi, rfl, rfl, HBB⟩ := hrel
              by_cases hlt : i < nd
              · obtain ⟨⟨y, z⟩, he⟩ : ∃ e, L[i]? = some e := ⟨_, List.getElem?_eq_getElem (by rw [HL.out]; exact hlt)⟩
                obtain ⟨bb, oo, hD, k1, -⟩ := (HR.out.ext X1.out).at he
                subst hD
                have HSTEP := hide (risB_at he last)
                have hii : (i : Int) < (nd : Int) := by omega
                have hi0 : (0 : Int) ≤ (i : Int) := by omega
                have hib : (i : Int) ≤ 140737488351232 := by omega
                clear he
                by_cases hle : y ≤ last
                · have HF : Hid (risB (-1) L = false) := hide (by
                    rw [HBB.out, HSTEP.out]
                    have e1 : decide (last < y) = false := by simp; omega
                    simp only [e1, Bool.false_and])
                  go_wp2
                  go_ret
                  exact ⟨ret_bool (Eq.symm (by simp [formN, hok, hpv, hch, hbf, hnx, hck, chgN, chkN, HF.out])), X1.out⟩
                · have hle2 : decide (y ≤ last) = false := decide_eq_false hle
                  by_cases hg : y < 4096
                  · have hg2 : ¬ (4095 : Int) < y := by omega
                    have HN2 : Hid (risB (-1) L = risB y (L.drop (i + 1))) := hide (by
                      rw [HBB.out, HSTEP.out]
                      have e1 : decide (last < y) = true := by simp; omega
                      have e2 : decide (y < 4096) = true := by simp; omega
                      rw [e1, e2]; rfl)
                    clear hle hg
                    go_wp2
                    refine ⟨⟨i + 1, y, by omega, by go_num, rfl, HN2⟩, by simp [intOf]; omega⟩
                  · have hg2 : (4095 : Int) < y := by omega
                    have HF : Hid (risB (-1) L = false) := hide (by
                      rw [HBB.out, HSTEP.out]
                      have e1 : decide (y < 4096) = false := by simp; omega
                      simp only [e1, Bool.false_and, Bool.and_false])
                    clear hle hg
                    go_wp2
                    go_ret
                    exact ⟨ret_bool (Eq.symm (by simp [formN, hok, hpv, hch, hbf, hnx, hck, chgN, chkN, HF.out])), X1.out⟩
              · have hii : ¬ (i : Int) < (nd : Int) := by omega
                have HT : Hid (risB (-1) L = true) := hide (by rw [HBB.out, List.drop_of_length_le (by rw [HL.out]; omega)]; rfl)
                by_cases h64 : nd ≤ 64
                · have h64i : (nd : Int) ≤ 64 := by omega
                  go_wp2
                  go_ret
                  exact ⟨ret_bool (a := true) (Eq.symm (by simp [formN, hok, hpv, hch, hbf, hnx, hck, chgN, chkN, HT.out, h64])), X1.out⟩
                · have h64i : decide ((nd : Int) ≤ 64) = false := by simp; omega
                  go_wp2
                  go_ret
                  exact ⟨ret_bool (a := false) (Eq.symm (by
                    rw [Bool.eq_false_iff]
                    intro h
                    try simp [formN, hok, hpv, hch, hbf, hnx, hck, chgN, chkN] at h
                    all_goals (try omega))), X1.out⟩
          · have znx : (nx != 0) = true := by simp [tnx]
            go_wp2
            go_ret
            exact ⟨ret_bool (Eq.symm (by
              rw [Bool.eq_false_iff]
              intro h
              try simp [formN, hok, hpv, hch, hbf, hnx, hck, chgN, chkN, isPg] at h
              all_goals (try omega))), X1.out⟩
        · have znb : 0 < nb := by omega
          have fnb : (0 : Int) < (nb : Int) := by omega
          go_wp2
          go_ret
          exact ⟨ret_bool (Eq.symm (by
            rw [Bool.eq_false_iff]
            intro h
            try simp [formN, hok, hpv, hch, hbf, hnx, hck, chgN, chkN, isPg] at h
            all_goals (try omega))), X1.out⟩
      · have zna : 0 < na := by omega
        have fna : (0 : Int) < (na : Int) := by omega
        go_wp2
        go_ret
        exact ⟨ret_bool (Eq.symm (by
          rw [Bool.eq_false_iff]
          intro h
          try simp [formN, hok, hpv, hch, hbf, hnx, hck, chgN, chkN, isPg] at h
          all_goals (try omega))), X1.out⟩
    · have zoff : (off != 0) = true := by simp [toff]
      go_wp2
      go_ret
      exact ⟨ret_bool (Eq.symm (by
        rw [Bool.eq_false_iff]
        intro h
        try simp [formN, hok, hpv, hch, hbf, hnx, hck, chgN, chkN, isPg] at h
        all_goals (try omega))), X1.out⟩
  · have zpg : (pg != 0) = true := by simp [tpg]
    go_wp2
    go_ret
    exact ⟨ret_bool (Eq.symm (by
      rw [Bool.eq_false_iff]
      intro h
      try simp [formN, hok, hpv, hch, hbf, hnx, hck, chgN, chkN, isPg] at h
      all_goals (try omega))), X1.out⟩
end Go.Proofs.YtkbmcebdhiiffaaDoor
namespace Go.Proofs.YtkbmcebdhiiffaaDoor
open Go.RowKit

set_option maxRecDepth 20000 in
set_option maxHeartbeats 1600000 in
theorem rform_any (k : Int) (tx pv pg off nx : Int) (A B D : Option Addr) (nb a na b' nd d : Nat) (op : Bool) (w : World) (L : List (Int × Int)) (hr : RdD w D L) (hn : L.length = nd) (hnd : nd ≤ 140737488351232) (hna : na ≤ 140737488351232) (hnb : nb ≤ 140737488351232) (ho : -9223372036854775808 ≤ off) (ho2 : off < 9223372036854775808) :
    Calls Tryd.prog 10 #[.agg #[.int .u8 k, .int .u64 tx, .int .u64 pv, .int .i64 pg, .int .i64 off, .slice A nb a, .slice B na b', .int .u64 nx, .slice D nd d, .bool op]] w (RetB w (formN k pv pg off nx na nb nd L op)) := by
  by_cases h1 : k = 1
  · subst h1; exact rform_1 tx pv pg off nx A B D nb a na b' nd d op w L hr hn hnd hna hnb ho ho2
  by_cases h2 : k = 2
  · subst h2; exact rform_2 tx pv pg off nx A B D nb a na b' nd d op w L hr hn hnd hna hnb ho ho2
  by_cases h3 : k = 3
  · subst h3; exact rform_3 tx pv pg off nx A B D nb a na b' nd d op w L hr hn hnd hna hnb ho ho2
  by_cases h4 : k = 4
  · subst h4; exact rform_4 tx pv pg off nx A B D nb a na b' nd d op w L hr hn hnd hna hnb ho ho2
  by_cases h5 : k = 5
  · subst h5; exact rform_5 tx pv pg off nx A B D nb a na b' nd d op w L hr hn hnd hna hnb ho ho2
  by_cases h6 : k = 6
  · subst h6; exact rform_6 tx pv pg off nx A B D nb a na b' nd d op w L hr hn hnd hna hnb ho ho2
  have HV : formN k pv pg off nx na nb nd L op = false := by
    have e2 : hok k = false := by simp only [hok, Bool.and_eq_false_iff, decide_eq_false_iff_not]; omega
    simp [formN, e2]
  rw [HV]
  by_cases hk : k < 1
  · clear hr hn hnd hna hnb ho ho2 h1 h2 h3 h4 h5 h6
    go_enter Tryd.func10, Tryd.ntmps10
    go_upto_region 1 with fail
    obtain ⟨W1, hX1, hR1, hg⟩ : ∃ W1, Ext w W1 ∧ Rw W1 w.heap.size 26 [.int .u8 k, .int .u64 tx, .int .u64 pv, .int .i64 pg, .int .i64 off, .slice A nb a, .slice B na b', .int .u64 nx, .slice D nd d, .bool op] ∧ w.alloc (.cells #[.int .u8 k, .int .u64 tx, .int .u64 pv, .int .i64 pg, .int .i64 off, .slice A nb a, .slice B na b', .int .u64 nx, .slice D nd d, .bool op] 26) = W1 := ⟨_, Ext.alloc _ _, Rw.new _ _ _, rfl⟩
    rw [hg]
    obtain ⟨hb, HHB⟩ : ∃ hb, Hid (w.heap.size = hb) := ⟨_, hide rfl⟩
    rw [HHB.out] at hR1 ⊢
    have X1 := hide hX1
    have c0 := hR1.cell (i := 0) rfl
    have c1 := hR1.cell (i := 1) rfl
    have c2 := hR1.cell (i := 2) rfl
    have c3 := hR1.cell (i := 3) rfl
    have c4 := hR1.cell (i := 4) rfl
    have c5 := hR1.cell (i := 5) rfl
    have c6 := hR1.cell (i := 6) rfl
    have c7 := hR1.cell (i := 7) rfl
    have c8 := hR1.cell (i := 8) rfl
    have c9 := hR1.cell (i := 9) rfl
    clear hg hX1 hR1
    go_wp2
    go_ret
    exact ⟨rfl, X1.out⟩
  · have hk6 : (6 : Int) < k := by omega
    have hk2 : decide (k < 1) = false := decide_eq_false hk
    clear hr hn hnd hna hnb ho ho2 h1 h2 h3 h4 h5 h6
    go_enter Tryd.func10, Tryd.ntmps10
    go_upto_region 1 with fail
    obtain ⟨W1, hX1, hR1, hg⟩ : ∃ W1, Ext w W1 ∧ Rw W1 w.heap.size 26 [.int .u8 k, .int .u64 tx, .int .u64 pv, .int .i64 pg, .int .i64 off, .slice A nb a, .slice B na b', .int .u64 nx, .slice D nd d, .bool op] ∧ w.alloc (.cells #[.int .u8 k, .int .u64 tx, .int .u64 pv, .int .i64 pg, .int .i64 off, .slice A nb a, .slice B na b', .int .u64 nx, .slice D nd d, .bool op] 26) = W1 := ⟨_, Ext.alloc _ _, Rw.new _ _ _, rfl⟩
    rw [hg]
    obtain ⟨hb, HHB⟩ : ∃ hb, Hid (w.heap.size = hb) := ⟨_, hide rfl⟩
    rw [HHB.out] at hR1 ⊢
    have X1 := hide hX1
    have c0 := hR1.cell (i := 0) rfl
    have c1 := hR1.cell (i := 1) rfl
    have c2 := hR1.cell (i := 2) rfl
    have c3 := hR1.cell (i := 3) rfl
    have c4 := hR1.cell (i := 4) rfl
    have c5 := hR1.cell (i := 5) rfl
    have c6 := hR1.cell (i := 6) rfl
    have c7 := hR1.cell (i := 7) rfl
    have c8 := hR1.cell (i := 8) rfl
    have c9 := hR1.cell (i := 9) rfl
    clear hg hX1 hR1
    go_wp2
    go_ret
    exact ⟨rfl, X1.out⟩
end Go.Proofs.YtkbmcebdhiiffaaDoor
namespace Go.Proofs.YtkbmcebdhiiffaaDoor
open Go.RowKit

theorem fullB_length (k tx pv pg off nx : Int) (bf af : List UInt8) (L : List (Int × Int)) (op : Bool) : (fullB k tx pv pg off nx bf af L op).length = 13 + (if hpv k then 8 else 0) + (if hch k then 6 + bf.length + af.length else 0) + (if hnx k then 8 else 0) + (if hck k then 1 + 10 * L.length else 0) := by
  have e : (recB k tx pv pg off nx bf af L op).length = 9 + (if hpv k then 8 else 0) + (if hch k then 6 + bf.length + af.length else 0) + (if hnx k then 8 else 0) + (if hck k then 1 + 10 * L.length else 0) := by
    unfold recB
    simp only [List.length_append, numN_length 1 _ (show 1 ≤ 8 by decide), numN_length 8 _ (show 8 ≤ 8 by decide)]
    have i1 : (if hpv k then numN 8 pv else []).length = if hpv k then 8 else 0 := by split <;> simp [numN_length]
    have i2 : (if hch k then numN 2 pg ++ (numN 2 off ++ (numN 2 (af.length : Int) ++ (bf ++ af))) else []).length = if hch k then 6 + bf.length + af.length else 0 := by
      split
      · simp only [List.length_append, numN_length 2 _ (show 2 ≤ 8 by decide)]; omega
      · rfl
    have i3 : (if hnx k then numN 8 nx else []).length = if hnx k then 8 else 0 := by split <;> simp [numN_length]
    have i4 : (if hck k then numN 1 (cntN L.length op) ++ dirB L else []).length = if hck k then 1 + 10 * L.length else 0 := by
      split
      · simp only [List.length_append, numN_length 1 _ (show 1 ≤ 8 by decide), dirB_length]
      · rfl
    rw [i1, i2, i3, i4]
    omega
  unfold fullB
  rw [List.length_append, e, show (sumB (recB k tx pv pg off nx bf af L op)).length = 4 from numN_length 4 _ (by decide)]
  omega
theorem enc_lit (k tx : Int) (w : World) (ht : Tab w) (htx0 : 0 ≤ tx) (htx : tx < 18446744073709551616) (m : Nat) (hm : (fullB k tx 0 0 0 0 [] [] [] false).length = m) (hf : formN k 0 0 0 0 0 0 0 [] false = true) :
    Calls Tryd.prog 11 #[.agg #[.int .u8 k, .int .u64 tx, .int .u64 0, .int .i64 0, .int .i64 0, .slice none 0 0, .slice none 0 0, .int .u64 0, .slice none 0 0, .bool false]] w (fun e w' => ∃ A c, e = .returned (.tuple #[.slice A m c, .int .i64 0]) ∧ Ext w w') :=
  (encode_yes k tx 0 0 0 0 none none none 0 0 0 0 0 0 false w [] [] [] ht (Rd.nil _ _) (Rd.nil _ _) (RdD.nil _ _) rfl rfl rfl (by decide) (by decide) (by decide) (by decide) (by decide) htx0 htx (by decide) (by decide) (by decide) (by decide) (fun e h => by cases h) hf).mono fun e w' ⟨v, he, hv, hx⟩ => by
    obtain ⟨A, c, rfl, _, _⟩ := hv.bytes
    exact ⟨A, c, by rw [he, hm], hx⟩
set_option maxRecDepth 20000 in
set_option maxHeartbeats 1600000 in
theorem awake_any (w : World) (ht : Tab w) : Calls Tryd.prog 8 #[] w (RetB w true) := by
  have K1 := hide (fun (W : World) (hW : Ext w W) => enc_lit 1 1 W (ht.ext hW) (by decide) (by decide) 13 (by rw [fullB_length]; rfl) (by decide))
  have K2 := hide (fun (W : World) (hW : Ext w W) => enc_lit 4 0 W (ht.ext hW) (by decide) (by decide) 21 (by rw [fullB_length]; rfl) (by decide))
  clear ht
  go_enter Tryd.func8, Tryd.ntmps8
  go_upto_region 2 with (go_at_call 11; (with_reducible refine (K1.out _ (Ext.refl _)).mono ?_); rintro e w1 ⟨A1, c1, rfl, hx1⟩; have X1 := hide hx1; clear hx1)
  go_upto_region 3 with (go_at_call 11; (with_reducible refine (K2.out _ X1.out).mono ?_); rintro e w2 ⟨A2, c2, rfl, hx2⟩; have X2 := hide (X1.out.trans hx2); clear hx2)
  go_wp2
  go_ret
  exact ⟨rfl, X2.out⟩
end Go.Proofs.YtkbmcebdhiiffaaDoor
namespace Go.Proofs.YtkbmcebdhiiffaaDoor
open Go.RowKit

theorem back_any (k tx pv pg off nx : Int) (bf af : List UInt8) (L : List (Int × Int)) (op : Bool) (htx0 : 0 ≤ tx) (htx : tx < 18446744073709551616) (hpv0 : 0 ≤ pv) (hpv1 : pv < 18446744073709551616) (hnx0 : 0 ≤ nx) (hnx1 : nx < 18446744073709551616) (hdl : ∀ e ∈ L, 0 ≤ e.2 ∧ e.2 < 18446744073709551616)
    (hf : formN k pv pg off nx af.length bf.length L.length L op = true) : rdRec (recB k tx pv pg off nx bf af L op, false) = (⟨k, tx, pv, pg, off, bf, af, nx, L, op⟩, ([], false)) := by
  have hk : 1 ≤ k ∧ k ≤ 6 := by
    have h := hf
    simp only [formN, Bool.and_eq_true] at h
    have h := h.1
    simpa [hok] using h
  rcases (by omega : k = 1 ∨ k = 2 ∨ k = 3 ∨ k = 4 ∨ k = 5 ∨ k = 6) with rfl | rfl | rfl | rfl | rfl | rfl
  · exact back_1 tx pv pg off nx bf af L op htx0 htx hpv0 hpv1 hnx0 hnx1 hdl hf
  · exact back_2 tx pv pg off nx bf af L op htx0 htx hpv0 hpv1 hnx0 hnx1 hdl hf
  · exact back_3 tx pv pg off nx bf af L op htx0 htx hpv0 hpv1 hnx0 hnx1 hdl hf
  · exact back_4 tx pv pg off nx bf af L op htx0 htx hpv0 hpv1 hnx0 hnx1 hdl hf
  · exact back_5 tx pv pg off nx bf af L op htx0 htx hpv0 hpv1 hnx0 hnx1 hdl hf
  · exact back_6 tx pv pg off nx bf af L op htx0 htx hpv0 hpv1 hnx0 hnx1 hdl hf
theorem decV_full (k tx pv pg off nx : Int) (bf af : List UInt8) (L : List (Int × Int)) (op : Bool) (htx0 : 0 ≤ tx) (htx : tx < 18446744073709551616) (hpv0 : 0 ≤ pv) (hpv1 : pv < 18446744073709551616) (hnx0 : 0 ≤ nx) (hnx1 : nx < 18446744073709551616) (hdl : ∀ e ∈ L, 0 ≤ e.2 ∧ e.2 < 18446744073709551616)
    (hf : formN k pv pg off nx af.length bf.length L.length L op = true) : decV (fullB k tx pv pg off nx bf af L op) = (0, some ⟨k, tx, pv, pg, off, bf, af, nx, L, op⟩) := by
  have h4 : (sumB (recB k tx pv pg off nx bf af L op)).length = 4 := numN_length 4 _ (by decide)
  have hlen := fullB_length k tx pv pg off nx bf af L op
  have e1 : (fullB k tx pv pg off nx bf af L op).take ((fullB k tx pv pg off nx bf af L op).length - 4) = recB k tx pv pg off nx bf af L op := by
    unfold fullB
    rw [List.length_append, h4, Nat.add_sub_cancel, List.take_left]
  have e2 : (fullB k tx pv pg off nx bf af L op).drop ((fullB k tx pv pg off nx bf af L op).length - 4) = sumB (recB k tx pv pg off nx bf af L op) := by
    unfold fullB
    rw [List.length_append, h4, Nat.add_sub_cancel, List.drop_left]
  unfold decV
  rw [e1, e2, if_neg (by rw [hlen]; omega), if_neg (by simp), back_any k tx pv pg off nx bf af L op htx0 htx hpv0 hpv1 hnx0 hnx1 hdl hf, if_pos ⟨rfl, hf⟩]
def DecYes (w : World) (k tx pv pg off nx : Int) (bf af : List UInt8) (L : List (Int × Int)) (op : Bool) (e : Ending) (w' : World) : Prop := Ext w w' ∧ ∃ A5 c5 A6 c6 A8 c8, e = .returned (.tuple #[.agg #[.int .u8 k, .int .u64 tx, .int .u64 pv, .int .i64 pg, .int .i64 off, .slice A5 bf.length c5, .slice A6 af.length c6, .int .u64 nx, .slice A8 L.length c8, .bool op], .int .i64 0]) ∧
  Own w' w.heap.size (.slice A5 bf.length c5) bf ∧ Own w' w.heap.size (.slice A6 af.length c6) af ∧ OwnD w' w.heap.size (.slice A8 L.length c8) L ∧ ∀ b, (Value.slice A5 bf.length c5).ownBlock = some b → (Value.slice A6 af.length c6).ownBlock ≠ some b
theorem decode_full (k tx pv pg off nx : Int) (bf af : List UInt8) (L : List (Int × Int)) (op : Bool) (A : Option Addr) (n c : Nat) (w : World) (ht : Tab w) (hr : Rd w A (fullB k tx pv pg off nx bf af L op)) (hn : (fullB k tx pv pg off nx bf af L op).length = n) (hnc : n ≤ c) (hl : n ≤ 140737488351232)
    (htx0 : 0 ≤ tx) (htx : tx < 18446744073709551616) (hpv0 : 0 ≤ pv) (hpv1 : pv < 18446744073709551616) (hnx0 : 0 ≤ nx) (hnx1 : nx < 18446744073709551616) (hdl : ∀ e ∈ L, 0 ≤ e.2 ∧ e.2 < 18446744073709551616) (hf : formN k pv pg off nx af.length bf.length L.length L op = true) :
    Calls Tryd.prog 12 #[.slice A n c] w (DecYes w k tx pv pg off nx bf af L op) := by
  refine (decode_any A _ n c w hr hn hnc hl ht).mono fun e w' h => ?_
  rw [decV_full k tx pv pg off nx bf af L op htx0 htx hpv0 hpv1 hnx0 hnx1 hdl hf] at h
  obtain ⟨hx, v5, v6, v8, he, o5, o6, o8, hd⟩ := h
  obtain ⟨A5, c5, rfl, _, _⟩ := o5.bytes
  obtain ⟨A6, c6, rfl, _, _⟩ := o6.bytes
  obtain ⟨A8, c8, rfl, _, _⟩ := o8.slice
  exact ⟨hx, A5, c5, A6, c6, A8, c8, he, o5, o6, o8, hd⟩
theorem formN_small {k pv pg off nx : Int} {na nb nd : Nat} {L : List (Int × Int)} {op : Bool} (hf : formN k pv pg off nx na nb nd L op = true) : na ≤ 512 ∧ nb ≤ 512 ∧ nd ≤ 64 := by
  have hk : 1 ≤ k ∧ k ≤ 6 := by
    have h := hf
    simp only [formN, Bool.and_eq_true] at h
    have h := h.1
    simpa [hok] using h
  rcases (by omega : k = 1 ∨ k = 2 ∨ k = 3 ∨ k = 4 ∨ k = 5 ∨ k = 6) with rfl | rfl | rfl | rfl | rfl | rfl <;> (simp [formN, hok, hpv, hch, hbf, hnx, hck, chgN, chkN, isPg] at hf; omega)
end Go.Proofs.YtkbmcebdhiiffaaDoor
