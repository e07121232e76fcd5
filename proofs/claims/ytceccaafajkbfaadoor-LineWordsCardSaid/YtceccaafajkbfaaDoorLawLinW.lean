/-
  LineWords: for every text the law answers true: the walk.
-/
import Derived.Test.YtceccaafajkbfaaDoorLinA
import Derived.Test.YtceccaafajkbfaaDoorLinR
namespace Go.Proofs.YtceccaafajkbfaaDoor
open Go.RowKit

set_option maxRecDepth 20000 in
set_option maxHeartbeats 2000000 in
theorem lineWords_walk (s : ByteArray) (w : World) (hs : s.size ≤ 140737488355328) (hT : Tabs w) :
    Calls Tryd.prog 3 #[.string s] w (Ret w (Is (.bool true))) := by
  obtain ⟨W, p, e, HWS⟩ : ∃ W p e, Hid (wordsS s.data.toList = (W, p, e)) := ⟨_, _, _, hide rfl⟩
  have hlen := wordsS_count HWS.out
  have K1 := hide fun V (h : Ext w V) => (show Calls Tryd.prog 10 #[.string s] V (Ret V fun w' v => ∃ v0, v = .tuple #[v0, .int .i64 (p : Int), .int .i64 (e : Int)] ∧ Txs W w' v0) from (by
    have h := words_any s V (hT.ext h) hs
    unfold WordsV at h
    rw [HWS.out] at h
    exact h))
  have K2 := hide fun V (h : Ext w V) => (show Calls Tryd.prog 11 #[.string s] V (Ret V fun w' v => ∃ v0, v = .tuple #[v0, .int .i64 (p : Int), .int .i64 (e : Int)] ∧ Txs W w' v0) from (by
    have h := rwords_any s V (hT.ext h) hs
    unfold WordsV at h
    rw [HWS.out] at h
    exact h))
  have KA := hide (awake_any w hT)
  obtain ⟨n, HN⟩ : ∃ n, Hid (W.length = n) := ⟨_, rfl⟩
  have hn := hlen
  rw [HN.out] at hn
  clear hlen hs
  go_enter Tryd.func3, Tryd.ntmps3
  go_wp2_with (first
    | (go_at_call 9; refine KA.out.mono ?_; rintro e w1 ⟨v1, rfl, hx1, rfl⟩)
    | (go_at_call 10; refine (K1.out _ hx1).mono ?_; rintro e w2 ⟨v2, rfl, hx2, v20, rfl, A2, c2, rfl, hc2, hr2⟩; have hx3 := hx1.trans hx2; rw [HN.out])
    | (go_at_call 11; refine (K2.out _ hx3).mono ?_; rintro e w4 ⟨v4, rfl, hx4, v40, rfl, A4, c4, rfl, hc4, hr4⟩; have hx5 := hx3.trans hx4; rw [HN.out]))
  go_loopw [9] (fun i wr => ∃ k : Nat, k ≤ n ∧ i = .int .i64 k ∧ Ext w4 wr) (fun i _ => n - (intOf i).toNat)
  case atStart => exact ⟨0, Nat.zero_le _, rfl, Ext.refl _⟩
  case round =>
    obtain ⟨k, hk, rfl, hx⟩ := hrel
    by_cases hlt : k < n
    · have hki : (k : Int) < (n : Int) := by omega
      have hkw : k < W.length := by rw [HN.out]; exact hlt
      have hg := tvs_get W k _ (List.getElem?_eq_getElem hkw)
      obtain ⟨b2, off2, rfl, hb2⟩ := (hr2.ext (hx4.trans hx)).at hg
      obtain ⟨b4, off4, rfl, hb4⟩ := (hr4.ext hx).at hg
      generalize W[k] = x at *
      clear hkw hg
      go_wp2
      go_quiet (fail)
      go_wp2
      exact ⟨⟨k + 1, by omega, by go_num, Ext.drewN hx _⟩, by simp [intOf]; omega⟩
    · obtain rfl : k = n := by omega
      have hki : ¬ (k : Int) < (k : Int) := Int.lt_irrefl _
      go_wp2
      go_ret
      exact Ret.mk (hx5.trans hx) rfl
end Go.Proofs.YtceccaafajkbfaaDoor
