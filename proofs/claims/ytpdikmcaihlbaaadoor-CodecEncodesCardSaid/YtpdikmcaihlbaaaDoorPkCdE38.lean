/-
  Values as keys: Key; Less.
-/
import Derived.Test.YtpdikmcaihlbaaaDoorPkCdE32
set_option linter.unusedVariables false
set_option linter.unusedSimpArgs false

namespace Go.Proofs.YtpdikmcaihlbaaaDoor
open Go.RowKit

/-- A value's key. -/
def keyV (x : Vl) : List UInt8 := if x.1 = 2 then 2 :: text x.2.2.data.toList else rowV x
set_option maxRecDepth 20000 in
set_option maxHeartbeats 1600000 in
theorem inKey_text (s : ByteArray) (w : World) (hs : s.size ≤ 60) : Calls Tryd.prog 36 #[.iface 9 (.string s)] w (Ret w (Bytes (2 :: text s.data.toList))) := by
  have KT := hide (fun (W : World) => text_any s W (by omega))
  have hl : (text s.data.toList).length ≤ 122 := by
    have h1 := (esc_length s.data.toList).2
    have h2 := size_list s
    unfold text
    simp only [List.length_append, List.length_cons, List.length_nil]
    omega
  have h1 := ta_str
  clear hs
  go_enter Tryd.func36, Tryd.ntmps36
  go_wp2_with (first
    | (go_at_call 52; (with_reducible refine (KT.out _).mono ?_); rintro e w2 ⟨v2, rfl, hx2, A, c, hv2, hc2, hr2⟩; subst hv2)
    | (at_builtin; refine wpList_cat (by rfl) (.tmp 11) (.tmp 13) rfl w.heap.size _ [b8 2] (text s.data.toList) A _ c rfl rfl rfl ((own_one w w.heap.size (Nat.le_refl _) 2 (by decide) (by decide)).ext hx2) hr2 (Nat.le_trans (Ext.alloc w _).size hx2.size) (by simp only [List.length_cons, List.length_nil]; omega) ?_; intro v3 w3 ho3 hb3))
  go_ret
  exact Ret.mk (((Ext.alloc w _).trans hx2).below (Nat.le_refl _) hb3) ho3.bytes
set_option maxRecDepth 20000 in
set_option maxHeartbeats 1600000 in
theorem inKey_else (t : TypeId) (v : Value) (l : List UInt8) (w : World) (h1 : ∀ W, (Instr.typeAssert (.iface t v) 20 9 true).run Tryd.prog W = .ok (.tuple #[.string ⟨#[]⟩, .bool false]) W) (KR : ∀ W, Calls Tryd.prog 30 #[.iface t v] W (Ret W (Bytes l))) :
    Calls Tryd.prog 36 #[.iface t v] w (Ret w (Bytes l)) := by
  have KR := hide KR
  go_enter Tryd.func36, Tryd.ntmps36
  go_wp2_with (go_at_call 30; (with_reducible refine (KR.out _).mono ?_); rintro e w2 ⟨v2, rfl, hx2, hb2⟩)
  go_ret
  exact Ret.mk hx2 hb2
theorem meant_key (x : Vl) (hb : VlIn x) (h : vOk x = true) : ∃ t v, meantV x.1 x.2.1 x.2.2 (okT x.2.2) = .iface t v ∧ (keyV x).length ≤ 123 ∧ ∀ W, Calls Tryd.prog 36 #[.iface t v] W (Ret W (Bytes (keyV x))) := by
  obtain ⟨k, n, s⟩ := x
  unfold vOk at h
  unfold meantV
  split at h
  · rename_i h0
    simp only at h0 h
    subst h0
    have h := of_decide_eq_true h
    exact ⟨_, _, by rw [if_pos rfl, if_pos h], show (1 : Nat) ≤ 123 by decide, fun W => inKey_else _ _ _ W ta_null_str (fun W => row_null W)⟩
  · rename_i h0
    simp only at h0
    rw [if_neg h0]
    split at h
    · rename_i h1
      simp only at h1 h
      subst h1
      have h := of_decide_eq_true h
      exact ⟨_, _, by rw [if_pos rfl, if_pos h], show (9 : Nat) ≤ 123 by decide, fun W => inKey_else _ _ _ W (ta_int_str n) (fun W => row_int n W hb.n.1 hb.n.2)⟩
    · rename_i h1
      simp only at h1
      rw [if_neg h1]
      split at h
      · rename_i h2
        simp only at h2 h
        subst h2
        have h := of_decide_eq_true h
        refine ⟨_, _, by rw [if_pos rfl, if_pos h], ?_, fun W => inKey_text s W h.2.1⟩
        have h1 := (esc_length s.data.toList).2
        have h2 := size_list s
        have h3 := h.2.1
        simp only [keyV, if_pos, text, List.length_cons, List.length_append, List.length_nil]
        omega
      · rename_i h2
        simp only at h2
        rw [if_neg h2]
        split at h
        · rename_i h3
          simp only at h3 h
          subst h3
          have h := of_decide_eq_true h
          exact ⟨_, _, by rw [if_pos rfl, if_pos h], show (2 : Nat) ≤ 123 by decide, fun W => inKey_else _ _ _ W (ta_bool_str _) (fun W => row_bool _ W)⟩
        · cases h
def KeyP (w : World) (l : List UInt8) (e : Ending) (w' : World) : Prop := Ext w w' ∧ ∃ v, e = .returned (.tuple #[v, .int .i64 0]) ∧ Bytes l w' v
set_option maxRecDepth 20000 in
set_option maxHeartbeats 1600000 in
theorem key_yes (x : Vl) (w : World) (hb : VlIn x) (hT : Tabs w) (h : vOk x = true) : Calls Tryd.prog 19 #[.agg #[.int .u8 x.1, .int .i64 x.2.1, .string x.2.2]] w (KeyP w (keyV x)) := by
  obtain ⟨t, v, hm, -, KR⟩ := meant_key x hb h
  have KM := hide (meant_any x.1 x.2.1 x.2.2 (w.alloc (.cells #[.int .u8 x.1, .int .i64 x.2.1, .string x.2.2] 26)) hb.s (hT.ext (Ext.alloc _ _)))
  rw [hm] at KM
  have KR := hide KR
  clear hb hT h hm
  go_enter Tryd.func19, Tryd.ntmps19
  go_wp2_with (first
    | (go_at_call 28; (with_reducible refine KM.out.mono ?_); rintro e w1 ⟨rfl, hx1⟩; have X1 : Ext w w1 := (Ext.alloc _ _).trans hx1)
    | (go_at_call 36; (with_reducible refine (KR.out _).mono ?_); rintro e w2 ⟨v2, rfl, hx2, hb2⟩))
  go_ret2
  exact ⟨X1.trans hx2, _, rfl, hb2⟩
set_option maxRecDepth 20000 in
set_option maxHeartbeats 1600000 in
theorem key_no (x : Vl) (w : World) (hb : VlIn x) (hT : Tabs w) (h : vOk x = false) : Calls Tryd.prog 19 #[.agg #[.int .u8 x.1, .int .i64 x.2.1, .string x.2.2]] w (fun e w' => Ext w w' ∧ e = .returned (.tuple #[.slice none 0 0, .int .i64 3])) := by
  have KM := hide (meant_any x.1 x.2.1 x.2.2 (w.alloc (.cells #[.int .u8 x.1, .int .i64 x.2.1, .string x.2.2] 26)) hb.s (hT.ext (Ext.alloc _ _)))
  rw [meant_no x h] at KM
  clear hb hT h
  go_enter Tryd.func19, Tryd.ntmps19
  go_wp2_with (go_at_call 28; (with_reducible refine KM.out.mono ?_); rintro e w1 ⟨rfl, hx1⟩; have X1 : Ext w w1 := (Ext.alloc _ _).trans hx1)
  go_ret2
  exact ⟨X1, rfl⟩
/-- Does a value stand ahead of another one as a key? -/
def lessV (x y : Vl) : Bool := if x.1 = y.1 then (if x.1 = 2 then Op.bytesLess x.2.2.data.toList y.2.2.data.toList else decide (x.2.1 < y.2.1)) else decide (x.1 < y.1)
set_option maxRecDepth 20000 in
set_option maxHeartbeats 1600000 in
theorem less_any (x y : Vl) (w : World) : Calls Tryd.prog 23 #[.agg #[.int .u8 x.1, .int .i64 x.2.1, .string x.2.2], .agg #[.int .u8 y.1, .int .i64 y.2.1, .string y.2.2]] w (RetB w (lessV x y)) := by
  obtain ⟨k, n, s⟩ := x
  obtain ⟨k', n', s'⟩ := y
  have hX : Ext w ((w.alloc (.cells #[.int .u8 k, .int .i64 n, .string s] 26)).alloc (.cells #[.int .u8 k', .int .i64 n', .string s'] 26)) := (Ext.alloc _ _).trans (Ext.alloc _ _)
  by_cases hk : k = k'
  · subst hk
    by_cases h2 : k = 2
    · subst h2
      go_enter Tryd.func23, Tryd.ntmps23
      go_wp2
      go_ret
      exact ⟨by simp [lessV, ByteArray.toList_eq], hX⟩
    · have h2b : (k == 2) = false := by simpa using h2
      go_enter Tryd.func23, Tryd.ntmps23
      go_wp2
      go_ret
      exact ⟨by simp [lessV, h2], hX⟩
  · have hkb : (k != k') = true := by simpa using hk
    go_enter Tryd.func23, Tryd.ntmps23
    go_wp2
    go_ret
    exact ⟨by simp [lessV, hk], hX⟩
end Go.Proofs.YtpdikmcaihlbaaaDoor
