/-
  LineParses: for every text the law answers true: the walk.
-/
import Derived.Test.YtceccaafajkbfaaDoorLinA
import Derived.Test.YtceccaafajkbfaaDoorLinZ
import Derived.Test.YtceccaafajkbfaaDoorLinS
namespace Go.Proofs.YtceccaafajkbfaaDoor
open Go.RowKit

theorem parseS_count (l : List UInt8) : (parseS l).2.1.length ≤ 301 := by
  unfold parseS
  rcases h : wordsS l with ⟨W, p, e⟩
  have hc := wordsS_count h
  simp only
  split
  · simp
  · cases W with
    | nil => simp
    | cons x t =>
      simp only
      cases verbS x with
      | none => simp
      | some r =>
        simp only
        split
        · simp only
          simp at hc
          omega
        · simp

set_option maxRecDepth 20000 in
set_option maxHeartbeats 4000000 in
theorem lineParses_walk (s : ByteArray) (w : World) (hs : s.size ≤ 140737488355328) (hT : Tabs w) (hV : TabV w) :
    Calls Tryd.prog 4 #[.string s] w (Ret w (Is (.bool true))) := by
  have hcnt := parseS_count s.data.toList
  have K1 := hide fun V (h : Ext w V) => parse_any s V hs (hT.ext h) (hV.ext h)
  have K2 := hide fun V (h : Ext w V) => rparse_any s V hs (hT.ext h)
  unfold ParseV at K1 K2
  generalize (parseS s.data.toList).1 = q at *
  generalize (parseS s.data.toList).2.1 = t at *
  generalize (parseS s.data.toList).2.2.1 = p at *
  generalize (parseS s.data.toList).2.2.2 = e at *
  have KA := hide (awake_any w hT)
  have KS := hide fun V A B c d (hA : RdV V A (tvs t)) (hB : RdV V B (tvs t)) => same_any q t A B c d V hcnt hA hB
  clear hs hcnt
  go_enter Tryd.func4, Tryd.ntmps4
  go_wp2_with (first
    | (go_at_call 9; refine KA.out.mono ?_; rintro e w1 ⟨v1, rfl, hx1, rfl⟩)
    | (go_at_call 12; refine (K1.out _ hx1).mono ?_; rintro e w2 ⟨v2, rfl, hx2, v20, rfl, v21, rfl, A2, c2, rfl, hc2, hr2⟩; have hx3 := hx1.trans (hx2.trans (Ext.alloc w2 (.cells #[.int .u8 q, .slice A2 t.length c2] 31))))
    | (go_at_call 13; refine (K2.out _ hx3).mono ?_; rintro e w4 ⟨v4, rfl, hx4, v40, rfl, v41, rfl, A4, c4, rfl, hc4, hr4⟩; have hx5 := hx3.trans hx4; have rq := (Rw.new w2 31 [.int .u8 q, .slice A2 t.length c2]).ext hx4; have hlt := rq.lt; have g0 := (rq.alloc (.cells #[.int .u8 q, .slice A4 t.length c4] 31)).cell (i := 0) rfl; have g1 := (rq.alloc (.cells #[.int .u8 q, .slice A4 t.length c4] 31)).cell (i := 1) rfl; have HR2 := hide (hr2.ext ((Ext.alloc w2 (.cells #[.int .u8 q, .slice A2 t.length c2] 31)).trans (hx4.trans (Ext.alloc w4 (.cells #[.int .u8 q, .slice A4 t.length c4] 31))))); have HR4 := hide (hr4.ext (Ext.alloc w4 (.cells #[.int .u8 q, .slice A4 t.length c4] 31))); clear rq)
    | (go_at_call 14; refine (KS.out _ _ _ _ _ HR2.out HR4.out).mono ?_; rintro e w6 ⟨v6, rfl, hx6, rfl⟩))
  go_ret
  exact Ret.mk (hx5.trans ((Ext.alloc _ _).trans hx6)) rfl
end Go.Proofs.YtceccaafajkbfaaDoor
