/-
  Which records there are: the document's Form.
-/
import Derived.Test.YthdahgekodcloaaDoorRcG
namespace Go.Proofs.YthdahgekodcloaaDoor
open Go.RowKit

set_option maxRecDepth 20000 in
set_option maxHeartbeats 6400000 in
theorem rform_6 (tx pv pg off nx : Int) (A B D : Option Addr) (nb a na b' nd d : Nat) (op : Bool) (w : World) (L : List (Int × Int)) (hr : RdD w D L) (hn : L.length = nd) (hnd : nd ≤ 140737488351232) (hna : na ≤ 140737488351232) (hnb : nb ≤ 140737488351232) (ho : -9223372036854775808 ≤ off) (ho2 : off < 9223372036854775808) :
    Calls Tryd.prog 10 #[.agg #[.int .u8 6, .int .u64 tx, .int .u64 pv, .int .i64 pg, .int .i64 off, .slice A nb a, .slice B na b', .int .u64 nx, .slice D nd d, .bool op]] w (RetB w (formN 6 pv pg off nx na nb nd L op)) := by
  have HR := hide hr
  have HL := hide hn
  have HO := hide (And.intro ho ho2)
  clear hr hn ho ho2
  go_enter Tryd.func10, Tryd.ntmps10
  go_upto_region 1 with fail
  obtain ⟨W1, hX1, hR1, hg⟩ : ∃ W1, Ext w W1 ∧ Rw W1 w.heap.size 26 [.int .u8 6, .int .u64 tx, .int .u64 pv, .int .i64 pg, .int .i64 off, .slice A nb a, .slice B na b', .int .u64 nx, .slice D nd d, .bool op] ∧ w.alloc (.cells #[.int .u8 6, .int .u64 tx, .int .u64 pv, .int .i64 pg, .int .i64 off, .slice A nb a, .slice B na b', .int .u64 nx, .slice D nd d, .bool op] 26) = W1 := ⟨_, Ext.alloc _ _, Rw.new _ _ _, rfl⟩
  rw [hg]
  obtain ⟨hb, HHB⟩ : ∃ hb, Hid (w.heap.size = hb) := ⟨_, hide rfl⟩
  rw [HHB.out] at hR1 ⊢
  have X1 := hide hX1
  have c0 := hR1.cell (i := 0) rfl
  have c1 := hR1.cell (i := 1) rfl
  have c2 := hR1.cell (i := 2) rfl
  have c3 := hR1.cell (i := 3) rfl
  have c4 := hR1.cell (i := 4) rfl
  have c5 := hR1.cell (i := 5) rfl
  have c6 := hR1.cell (i := 6) rfl
  have c7 := hR1.cell (i := 7) rfl
  have c8 := hR1.cell (i := 8) rfl
  have c9 := hR1.cell (i := 9) rfl
  clear hg hX1 hR1
  by_cases tpg : pg = 0
  · subst tpg
    by_cases toff : off = 0
    · subst toff
      by_cases tna : na = 0
      · subst tna
        by_cases tnb : nb = 0
        · subst tnb
          by_cases tnx : nx = 0
          · subst tnx
            go_upto_region 14 with fail
            go_loop [5, 6] (fun lv iv => ∃ (i : Nat) (last : Int), i ≤ nd ∧ iv = .int .i64 (i : Int) ∧ lv = .int .i64 last ∧ Hid (risB (-1) L = risB last (L.drop i))) (fun _ iv => nd - (intOf iv).toNat)
            case atStart => exact ⟨0, -1, Nat.zero_le _, rfl, rfl, hide rfl⟩
            case round =>
              obtain ⟨i, last, hi, rfl, rfl, HBB⟩ := hrel
              by_cases hlt : i < nd
              · obtain ⟨⟨y, z⟩, he⟩ : ∃ e, L[i]? = some e := ⟨_, List.getElem?_eq_getElem (by rw [HL.out]; exact hlt)⟩
                obtain ⟨bb, oo, hD, k1, -⟩ := (HR.out.ext X1.out).at he
                subst hD
                have HSTEP := hide (risB_at he last)
                have hii : (i : Int) < (nd : Int) := by omega
                have hi0 : (0 : Int) ≤ (i : Int) := by omega
                have hib : (i : Int) ≤ 140737488351232 := by omega
                clear he
                by_cases hle : y ≤ last
                · have HF : Hid (risB (-1) L = false) := hide (by
                    rw [HBB.out, HSTEP.out]
                    have e1 : decide (last < y) = false := by simp; omega
                    simp only [e1, Bool.false_and])
                  go_wp2
                  go_ret
                  exact ⟨ret_bool (Eq.symm (by simp [formN, hok, hpv, hch, hbf, hnx, hck, chgN, chkN, HF.out])), X1.out⟩
                · have hle2 : decide (y ≤ last) = false := decide_eq_false hle
                  by_cases hg : y < 4096
                  · have hg2 : ¬ (4095 : Int) < y := by omega
                    have HN2 : Hid (risB (-1) L = risB y (L.drop (i + 1))) := hide (by
                      rw [HBB.out, HSTEP.out]
                      have e1 : decide (last < y) = true := by simp; omega
                      have e2 : decide (y < 4096) = true := by simp; omega
                      rw [e1, e2]; rfl)
                    clear hle hg
                    go_wp2
                    refine ⟨⟨i + 1, y, by omega, by go_num, rfl, HN2⟩, by simp [intOf]; omega⟩
                  · have hg2 : (4095 : Int) < y := by omega
                    have HF : Hid (risB (-1) L = false) := hide (by
                      rw [HBB.out, HSTEP.out]
                      have e1 : decide (y < 4096) = false := by simp; omega
                      simp only [e1, Bool.false_and, Bool.and_false])
                    clear hle hg
                    go_wp2
                    go_ret
                    exact ⟨ret_bool (Eq.symm (by simp [formN, hok, hpv, hch, hbf, hnx, hck, chgN, chkN, HF.out])), X1.out⟩
              · have hii : ¬ (i : Int) < (nd : Int) := by omega
                have HT : Hid (risB (-1) L = true) := hide (by rw [HBB.out, List.drop_of_length_le (by rw [HL.out]; omega)]; rfl)
                by_cases h64 : nd ≤ 64
                · have h64i : (nd : Int) ≤ 64 := by omega
                  go_wp2
                  go_ret
                  exact ⟨ret_bool (a := true) (Eq.symm (by simp [formN, hok, hpv, hch, hbf, hnx, hck, chgN, chkN, HT.out, h64])), X1.out⟩
                · have h64i : decide ((nd : Int) ≤ 64) = false := by simp; omega
                  go_wp2
                  go_ret
                  exact ⟨ret_bool (a := false) (Eq.symm (by
                    rw [Bool.eq_false_iff]
                    intro h
                    try simp [formN, hok, hpv, hch, hbf, hnx, hck, chgN, chkN] at h
                    all_goals (try omega))), X1.out⟩
          · have znx : (nx != 0) = true := by simp [tnx]
            go_wp2
            go_ret
            exact ⟨ret_bool (Eq.symm (by
              rw [Bool.eq_false_iff]
              intro h
              try simp [formN, hok, hpv, hch, hbf, hnx, hck, chgN, chkN, isPg] at h
              all_goals (try omega))), X1.out⟩
        · have znb : 0 < nb := by omega
          have fnb : (0 : Int) < (nb : Int) := by omega
          go_wp2
          go_ret
          exact ⟨ret_bool (Eq.symm (by
            rw [Bool.eq_false_iff]
            intro h
            try simp [formN, hok, hpv, hch, hbf, hnx, hck, chgN, chkN, isPg] at h
            all_goals (try omega))), X1.out⟩
      · have zna : 0 < na := by omega
        have fna : (0 : Int) < (na : Int) := by omega
        go_wp2
        go_ret
        exact ⟨ret_bool (Eq.symm (by
          rw [Bool.eq_false_iff]
          intro h
          try simp [formN, hok, hpv, hch, hbf, hnx, hck, chgN, chkN, isPg] at h
          all_goals (try omega))), X1.out⟩
    · have zoff : (off != 0) = true := by simp [toff]
      go_wp2
      go_ret
      exact ⟨ret_bool (Eq.symm (by
        rw [Bool.eq_false_iff]
        intro h
        try simp [formN, hok, hpv, hch, hbf, hnx, hck, chgN, chkN, isPg] at h
        all_goals (try omega))), X1.out⟩
  · have zpg : (pg != 0) = true := by simp [tpg]
    go_wp2
    go_ret
    exact ⟨ret_bool (Eq.symm (by
      rw [Bool.eq_false_iff]
      intro h
      try simp [formN, hok, hpv, hch, hbf, hnx, hck, chgN, chkN, isPg] at h
      all_goals (try omega))), X1.out⟩
end Go.Proofs.YthdahgekodcloaaDoor
