/-
  Values in rows and in keys.
  Values as bytes: Encode.
  An argument that is a value of the codec; the tables that the rows list.
  A slice of bytes made with room.
  Base 64: the call.
  Base 64: reading it.
  Base 64 there and back (plain).
-/
import Derived.IntWalk
import Derived.Deep.Cut
import Derived.Deep.CutRange
import Derived.Deep.Slices
import Derived.OpenShut
import Derived.Lib.LaidU8T
import Derived.PinnedBridge
import Derived.Lay
import Derived.Lib.Bytealg
import Derived.Test.YtakmifnageepbaaDoorPkCardCdBases0
import Derived.Test.YtakmifnageepbaaDoorPkCardCdBases1
set_option linter.unusedVariables false
set_option linter.unusedSimpArgs false

namespace Go.Proofs.YtakmifnageepbaaDoor
open Go.RowKit

theorem own_one (W : World) (B : Nat) (hB : B ≤ W.heap.size) (n : Int) (h0 : 0 ≤ n) (h1 : n < 256) : Own (W.alloc (.cells #[.int .u8 n] 5)) B (.slice (some ⟨W.heap.size, 0, none⟩) 1 1) [b8 n] :=
  ⟨rfl, .inr ⟨W.heap.size, 1, #[.int .u8 n], rfl, hB, heap_alloc_new W _, Nat.le_refl _, by unfold maxLen; decide, rfl, by simp [bs, b8_toNat h0 h1]⟩⟩
theorem own_two (W : World) (B : Nat) (hB : B ≤ W.heap.size) (n m : Int) (h0 : 0 ≤ n) (h1 : n < 256) (h2 : 0 ≤ m) (h3 : m < 256) : Own (W.alloc (.cells #[.int .u8 n, .int .u8 m] 5)) B (.slice (some ⟨W.heap.size, 0, none⟩) 2 2) [b8 n, b8 m] :=
  ⟨rfl, .inr ⟨W.heap.size, 2, #[.int .u8 n, .int .u8 m], rfl, hB, heap_alloc_new W _, Nat.le_refl _, by unfold maxLen; decide, rfl, by simp [bs, b8_toNat h0 h1, b8_toNat h2 h3]⟩⟩
theorem own_three (W : World) (B : Nat) (hB : B ≤ W.heap.size) (n m k : Int) (h0 : 0 ≤ n) (h1 : n < 256) (h2 : 0 ≤ m) (h3 : m < 256) (h4 : 0 ≤ k) (h5 : k < 256) : Own (W.alloc (.cells #[.int .u8 n, .int .u8 m, .int .u8 k] 5)) B (.slice (some ⟨W.heap.size, 0, none⟩) 3 3) [b8 n, b8 m, b8 k] :=
  ⟨rfl, .inr ⟨W.heap.size, 3, #[.int .u8 n, .int .u8 m, .int .u8 k], rfl, hB, heap_alloc_new W _, Nat.le_refl _, by unfold maxLen; decide, rfl, by simp [bs, b8_toNat h0 h1, b8_toNat h2 h3, b8_toNat h4 h5]⟩⟩
theorem ta_int (n : Int) (W : World) : (Instr.typeAssert (.iface 2 (.int .i64 n)) 20 2 true).run Tryd.prog W = .ok (.tuple #[.int .i64 n, .bool true]) W := by kernel_rfl
theorem ta_str (s : ByteArray) (W : World) : (Instr.typeAssert (.iface 9 (.string s)) 20 9 true).run Tryd.prog W = .ok (.tuple #[.string s, .bool true]) W := by kernel_rfl
theorem ta_bool (b : Bool) (W : World) : (Instr.typeAssert (.iface 4 (.bool b)) 20 4 true).run Tryd.prog W = .ok (.tuple #[.bool b, .bool true]) W := by kernel_rfl
theorem ta_null_int (W : World) : (Instr.typeAssert (.iface 77 (.agg #[])) 20 2 true).run Tryd.prog W = .ok (.tuple #[.int .i64 0, .bool false]) W := by kernel_rfl
theorem ta_null_str (W : World) : (Instr.typeAssert (.iface 77 (.agg #[])) 20 9 true).run Tryd.prog W = .ok (.tuple #[.string ⟨#[]⟩, .bool false]) W := by kernel_rfl
theorem ta_null_bool (W : World) : (Instr.typeAssert (.iface 77 (.agg #[])) 20 4 true).run Tryd.prog W = .ok (.tuple #[.bool false, .bool false]) W := by kernel_rfl
theorem ta_str_int (s : ByteArray) (W : World) : (Instr.typeAssert (.iface 9 (.string s)) 20 2 true).run Tryd.prog W = .ok (.tuple #[.int .i64 0, .bool false]) W := by kernel_rfl
theorem ta_str_bool (s : ByteArray) (W : World) : (Instr.typeAssert (.iface 9 (.string s)) 20 4 true).run Tryd.prog W = .ok (.tuple #[.bool false, .bool false]) W := by kernel_rfl
theorem ta_bool_int (b : Bool) (W : World) : (Instr.typeAssert (.iface 4 (.bool b)) 20 2 true).run Tryd.prog W = .ok (.tuple #[.int .i64 0, .bool false]) W := by kernel_rfl
theorem ta_bool_str (b : Bool) (W : World) : (Instr.typeAssert (.iface 4 (.bool b)) 20 9 true).run Tryd.prog W = .ok (.tuple #[.string ⟨#[]⟩, .bool false]) W := by kernel_rfl
theorem ta_int_str (n : Int) (W : World) : (Instr.typeAssert (.iface 2 (.int .i64 n)) 20 9 true).run Tryd.prog W = .ok (.tuple #[.string ⟨#[]⟩, .bool false]) W := by kernel_rfl
theorem ta_int_bool (n : Int) (W : World) : (Instr.typeAssert (.iface 2 (.int .i64 n)) 20 4 true).run Tryd.prog W = .ok (.tuple #[.bool false, .bool false]) W := by kernel_rfl
theorem Ext.below {w0 w w' : World} {B : Nat} (hx : Ext w0 w) (hB : w0.heap.size ≤ B) (hb : Below B w w') : Ext w0 w' := Below.trans hx (hb.mono hB)
set_option maxRecDepth 20000 in
set_option maxHeartbeats 1600000 in
theorem row_null (w : World) : Calls Tryd.prog 30 #[.iface 77 (.agg #[])] w (Ret w (Bytes [0])) := by
  have h1 := ta_null_int
  have h2 := ta_null_str
  have h3 := ta_null_bool
  go_enter Tryd.func30, Tryd.ntmps30
  go_wp2
  go_ret
  exact Ret.mk (Ext.alloc _ _) (own_one w w.heap.size (Nat.le_refl _) 0 (by decide) (by decide)).bytes
set_option maxRecDepth 20000 in
set_option maxHeartbeats 1600000 in
theorem row_bool (b : Bool) (w : World) : Calls Tryd.prog 30 #[.iface 4 (.bool b)] w (Ret w (Bytes [3, if b then 1 else 0])) := by
  have h1 := ta_bool_int
  have h2 := ta_bool_str
  have h3 := ta_bool
  cases b
  · go_enter Tryd.func30, Tryd.ntmps30
    go_wp2
    go_ret
    exact Ret.mk (Ext.alloc _ _) (own_two w w.heap.size (Nat.le_refl _) 3 0 (by decide) (by decide) (by decide) (by decide)).bytes
  · go_enter Tryd.func30, Tryd.ntmps30
    go_wp2
    go_ret
    exact Ret.mk (Ext.alloc _ _) (own_two w w.heap.size (Nat.le_refl _) 3 1 (by decide) (by decide) (by decide) (by decide)).bytes
set_option maxRecDepth 20000 in
set_option maxHeartbeats 1600000 in
theorem row_int (n : Int) (w : World) (h0 : -9223372036854775808 ≤ n) (h1 : n < 9223372036854775808) : Calls Tryd.prog 30 #[.iface 2 (.int .i64 n)] w (Ret w (Bytes (1 :: ord64 n))) := by
  have KI := hide (fun (W : World) => int_any n W h0 h1)
  clear h0 h1
  have h1 := ta_int
  go_enter Tryd.func30, Tryd.ntmps30
  go_wp2_with (first
    | (go_at_call 45; (with_reducible refine (KI.out _).mono ?_); rintro e w2 ⟨v2, rfl, hx2, A, c, hv2, hc2, hr2⟩; rw [show (ord64 n).length = 8 from rfl] at hv2; subst hv2)
    | (at_builtin; refine wpList_cat (by rfl) (.tmp 10) (.tmp 12) rfl w.heap.size _ [b8 1] (ord64 n) A 8 c rfl rfl rfl ((own_one w w.heap.size (Nat.le_refl _) 1 (by decide) (by decide)).ext hx2) hr2 (Nat.le_trans (Ext.alloc w _).size hx2.size) (by rw [show (ord64 n).length = 8 from rfl]; decide) ?_; intro v3 w3 ho3 hb3))
  go_ret
  exact Ret.mk (((Ext.alloc w _).trans hx2).below (Nat.le_refl _) hb3) ho3.bytes
set_option maxRecDepth 20000 in
set_option maxHeartbeats 1600000 in
theorem row_text (s : ByteArray) (w : World) (hs : s.size ≤ 60) : Calls Tryd.prog 30 #[.iface 9 (.string s)] w (Ret w (Bytes (2 :: b8 (s.size : Int) :: s.data.toList))) := by
  have h1 := ta_str_int
  have h2 := ta_str
  have hw : IntKind.u8.wrap (s.size : Int) = (s.size : Int) := by rw [IntKind.wrap_u8]; omega
  go_enter Tryd.func30, Tryd.ntmps30
  go_wp2_with (at_builtin; refine wpList_catS rfl (.tmp 20) (.tmp 21) rfl w.heap.size _ [b8 2, b8 (s.size : Int)] s rfl rfl (own_two w w.heap.size (Nat.le_refl _) 2 (s.size : Int) (by decide) (by decide) (by omega) (by omega)) (Ext.alloc w _).size (by simp; omega) ?_; intro v3 w3 ho3 hb3)
  go_ret
  exact Ret.mk ((Ext.alloc w _).below (Nat.le_refl _) hb3) ho3.bytes
end Go.Proofs.YtakmifnageepbaaDoor
namespace Go.Proofs.YtakmifnageepbaaDoor
open Go.RowKit

/-- A value: kind, number, text. -/
abbrev Vl := Int × Int × ByteArray
def vOk (x : Vl) : Bool := if x.1 = 0 then decide (x.2.1 = 0 ∧ x.2.2 = noS) else if x.1 = 1 then decide (x.2.2 = noS) else if x.1 = 2 then decide (x.2.1 = 0 ∧ x.2.2.size ≤ 60 ∧ okT x.2.2 = true) else if x.1 = 3 then decide ((x.2.1 = 0 ∨ x.2.1 = 1) ∧ x.2.2 = noS) else false
def rowV (x : Vl) : List UInt8 := if x.1 = 1 then 1 :: ord64 x.2.1 else if x.1 = 2 then 2 :: b8 (x.2.2.size : Int) :: x.2.2.data.toList else if x.1 = 3 then [3, if (x.2.1 == 1) = true then 1 else 0] else [0]
structure VlIn (x : Vl) : Prop where
  k : 0 ≤ x.1 ∧ x.1 < 256
  n : -9223372036854775808 ≤ x.2.1 ∧ x.2.1 < 9223372036854775808
  s : x.2.2.size ≤ 9223372036854775807
theorem meant_no (x : Vl) (h : vOk x = false) : meantV x.1 x.2.1 x.2.2 (okT x.2.2) = .nilIface := by
  unfold vOk at h
  unfold meantV
  split at h
  · rename_i h0; rw [if_pos h0, if_neg (of_decide_eq_false h)]
  · rename_i h0; rw [if_neg h0]
    split at h
    · rename_i h1; rw [if_pos h1, if_neg (of_decide_eq_false h)]
    · rename_i h1; rw [if_neg h1]
      split at h
      · rename_i h2; rw [if_pos h2, if_neg (of_decide_eq_false h)]
      · rename_i h2; rw [if_neg h2]
        split at h
        · rename_i h3; rw [if_pos h3, if_neg (of_decide_eq_false h)]
        · rename_i h3; rw [if_neg h3]
theorem meant_yes (x : Vl) (hb : VlIn x) (h : vOk x = true) : ∃ t v, meantV x.1 x.2.1 x.2.2 (okT x.2.2) = .iface t v ∧ (rowV x).length ≤ 62 ∧ ∀ W, Calls Tryd.prog 30 #[.iface t v] W (Ret W (Bytes (rowV x))) := by
  obtain ⟨k, n, s⟩ := x
  unfold vOk at h
  unfold meantV
  split at h
  · rename_i h0
    simp only at h0 h
    subst h0
    have h := of_decide_eq_true h
    exact ⟨_, _, by rw [if_pos rfl, if_pos h], show (1 : Nat) ≤ 62 by decide, fun W => row_null W⟩
  · rename_i h0
    simp only at h0
    rw [if_neg h0]
    split at h
    · rename_i h1
      simp only at h1 h
      subst h1
      have h := of_decide_eq_true h
      exact ⟨_, _, by rw [if_pos rfl, if_pos h], show (9 : Nat) ≤ 62 by decide, fun W => row_int n W hb.n.1 hb.n.2⟩
    · rename_i h1
      simp only at h1
      rw [if_neg h1]
      split at h
      · rename_i h2
        simp only at h2 h
        subst h2
        have h := of_decide_eq_true h
        refine ⟨_, _, by rw [if_pos rfl, if_pos h], ?_, fun W => row_text s W h.2.1⟩
        have := size_list s
        have := h.2.1
        simp only [rowV, if_neg (show ¬ (2 : Int) = 1 by decide), if_pos, List.length_cons]
        omega
      · rename_i h2
        simp only at h2
        rw [if_neg h2]
        split at h
        · rename_i h3
          simp only at h3 h
          subst h3
          have h := of_decide_eq_true h
          refine ⟨_, _, by rw [if_pos rfl, if_pos h], ?_, fun W => row_bool _ W⟩
          simp [rowV]
        · cases h
/-- The slice at A reads as these values. -/
def RdV (w : World) (A : Option Addr) (L : List Vl) : Prop :=
  L ≠ [] → ∃ b off, A = some ⟨b, off, none⟩ ∧ ∀ j x, L[j]? = some x → w.cell? ⟨b, off + j * 3, none⟩ = some (.int .u8 x.1) ∧ w.cell? ⟨b, off + j * 3 + 1, none⟩ = some (.int .i64 x.2.1) ∧ w.cell? ⟨b, off + j * 3 + 2, none⟩ = some (.string x.2.2)
theorem RdV.ext {w w' : World} {A : Option Addr} {L : List Vl} (h : RdV w A L) (hx : Ext w w') : RdV w' A L := fun hn => by
  obtain ⟨b, off, hA, hc⟩ := h hn
  exact ⟨b, off, hA, fun j d hj => ⟨hx.keeps.cell (hc j d hj).1, hx.keeps.cell (hc j d hj).2.1, hx.keeps.cell (hc j d hj).2.2⟩⟩
def rowsV (L : List Vl) : List UInt8 := L.flatMap rowV
theorem worldOf {w W : World} (_ : Hid (Ext w W)) : ∃ wr, wr = W := ⟨W, rfl⟩
/-- What Encode tells: the bytes, or the error's number. -/
def encT (L : List Vl) : Int × Option (List UInt8) := if 12 < L.length then (2, none) else if L.all vOk = true then (0, some (b8 (L.length : Int) :: rowsV L)) else (3, none)
def EncP (w : World) (x : Int × Option (List UInt8)) (e : Ending) (w' : World) : Prop := Ext w w' ∧ match x.2 with
  | none => e = .returned (.tuple #[.slice none 0 0, .int .i64 x.1])
  | some l => ∃ v, e = .returned (.tuple #[v, .int .i64 0]) ∧ Own w' w.heap.size v l
theorem rowsV_len : ∀ L : List Vl, L.all vOk = true → (∀ x ∈ L, VlIn x) → (rowsV L).length ≤ 62 * L.length
  | [], _, _ => Nat.le_refl _
  | x :: L, h, hb => by
    simp only [List.all_cons, Bool.and_eq_true] at h
    obtain ⟨_, _, _, h1, _⟩ := meant_yes x (hb x (List.mem_cons_self ..)) h.1
    have ih := rowsV_len L h.2 (fun y hy => hb y (List.mem_cons_of_mem _ hy))
    have e : rowsV (x :: L) = rowV x ++ rowsV L := rfl
    rw [e, List.length_append, List.length_cons]
    omega
set_option maxRecDepth 20000 in
set_option maxHeartbeats 3200000 in
theorem encode_any (A : Option Addr) (L : List Vl) (n c : Nat) (w : World) (hr : RdV w A L) (hn : L.length = n) (hnc : n ≤ c) (hl : n ≤ 140737488355328) (hb : ∀ x ∈ L, VlIn x) (ht : Tabs w) :
    Calls Tryd.prog 14 #[.slice A n c] w (EncP w (encT L)) := by
  by_cases h12 : 12 < n
  · have hi : (12 : Int) < (n : Int) := by omega
    have HE : Hid (encT L = (2, none)) := hide (by unfold encT; rw [if_pos (by omega)])
    clear hr hn hb ht
    go_enter Tryd.func14, Tryd.ntmps14
    go_wp2
    go_ret2
    rw [HE.out]
    exact ⟨Ext.refl _, rfl⟩
  · have hi : ¬ (12 : Int) < (n : Int) := by omega
    have hnI : (n : Int) ≤ 12 := by omega
    have HR := hide hr
    have HN := hide hn
    have HB := hide hb
    have HT := hide ht
    have hwn : IntKind.u8.wrap (n : Int) = (n : Int) := by rw [IntKind.wrap_u8]; omega
    clear hr hn hb ht
    go_enter Tryd.func14, Tryd.ntmps14
    go_upto_region 5 with fail
    have hown0 := own_one w w.heap.size (Nat.le_refl _) (n : Int) (by omega) (by omega)
    go_loopw [4, 6, 7, 17] (fun ov _ _ iv wr => ∃ i : Nat, i ≤ n ∧ iv = .int .i64 (i : Int) ∧ Hid ((L.take i).all vOk = true) ∧ Hid (Own wr w.heap.size ov (b8 (n : Int) :: rowsV (L.take i))) ∧ Hid (Ext w wr)) (fun _ _ _ iv _ => n - (intOf iv).toNat)
    case atStart => exact ⟨0, Nat.zero_le _, rfl, hide rfl, hide hown0, hide (Ext.alloc _ _)⟩
    case round =>
      obtain ⟨i, hi, rfl, HA, HO, HX⟩ := hrel
      by_cases hlt : i < n
      · have hii : (i : Int) < (n : Int) := by omega
        obtain ⟨x, hx⟩ : ∃ x, L[i]? = some x := ⟨_, List.getElem?_eq_getElem (by rw [HN.out]; exact hlt)⟩
        obtain ⟨b, off, hA, hc⟩ := HR.out (by intro h; rw [h] at hx; cases hx)
        subst hA
        obtain ⟨wr, HWR⟩ := worldOf HX
        subst HWR
        have c0 := HX.out.keeps.cell (hc i x hx).1
        have c1 := HX.out.keeps.cell (hc i x hx).2.1
        have c2 := HX.out.keeps.cell (hc i x hx).2.2
        clear hc
        have HXX := hide hx
        have VI := HB.out x (List.mem_of_getElem? hx)
        go_upto_region 7 with fail
        have KM := hide (meant_any x.1 x.2.1 x.2.2 (wr.alloc (.cells #[.int .u8 x.1, .int .i64 x.2.1, .string x.2.2] 26)) VI.s (HT.out.ext (HX.out.trans (Ext.alloc _ _))))
        have B0 := Rw.new wr 26 [.int .u8 x.1, .int .i64 x.2.1, .string x.2.2]
        have d0 := B0.cell (i := 0) rfl
        have d1 := B0.cell (i := 1) rfl
        have d2 := B0.cell (i := 2) rfl
        have hbd : (rowsV (L.take i)).length ≤ 62 * 12 := Nat.le_trans (rowsV_len _ HA.out (fun y hy => HB.out y (List.mem_of_mem_take hy))) (Nat.mul_le_mul_left 62 (by rw [List.length_take]; omega))
        cases hv : vOk x with
        | false =>
          rw [meant_no x hv] at KM
          have HE : Hid (encT L = (3, none)) := hide (by
            unfold encT
            rw [if_neg (by rw [HN.out]; exact h12), if_neg]
            intro hall
            rw [List.all_eq_true] at hall
            rw [hall x (List.mem_of_getElem? HXX.out)] at hv
            cases hv)
          go_wp2_with (go_at_call 28; (with_reducible refine KM.out.mono ?_); rintro e w1 ⟨rfl, hx1⟩; have X1 := hide ((HX.out.trans (Ext.alloc _ _)).trans hx1))
          go_ret2
          rw [HE.out]
          exact ⟨X1.out, rfl⟩
        | true =>
          obtain ⟨t, v, hm, hlen, KR⟩ := meant_yes x VI hv
          rw [hm] at KM
          go_upto_region 11 with (first
            | (go_at_call 28; (with_reducible refine KM.out.mono ?_); rintro e w1 ⟨rfl, hx1⟩; have X1 := hide ((HX.out.trans (Ext.alloc _ _)).trans hx1); have O1 := hide (HO.out.ext ((Ext.alloc _ _).trans hx1)))
            | (go_at_call 30; (with_reducible refine (KR _).mono ?_); rintro e w2 ⟨v2, rfl, hx2, A2, cc2, hv2, hc2, hr2⟩; subst hv2; have X2 := hide (X1.out.trans hx2); have O2 := hide (O1.out.ext hx2))
            | (at_builtin; refine wpList_cat (by rfl) (.tmp 25) (.tmp 27) rfl w.heap.size _ _ (rowV x) A2 _ cc2 rfl rfl rfl O2.out hr2 X2.out.size (by simp only [List.length_cons]; omega) ?_; intro v3 w3 ho3 hb3; have X3 := hide (X2.out.below (Nat.le_refl _) hb3)))
          have hcat : (b8 (n : Int) :: rowsV (L.take i)) ++ rowV x = b8 (n : Int) :: rowsV (L.take (i + 1)) := by
            rw [List.take_add_one, HXX.out]
            simp [rowsV]
          rw [hcat] at ho3
          have HA' : Hid ((L.take (i + 1)).all vOk = true) := hide (by
            rw [List.take_add_one, HXX.out]
            simp [HA.out, hv])
          go_wp2
          exact ⟨⟨i + 1, by omega, by go_num, HA', hide ho3, X3⟩, by simp [intOf]; omega⟩
      · obtain rfl : i = n := by omega
        have hii : ¬ (i : Int) < (i : Int) := by omega
        have HE : Hid (encT L = (0, some (b8 (i : Int) :: rowsV L))) := hide (by
          have hall := HA.out
          rw [List.take_of_length_le (by rw [HN.out]; exact Nat.le_refl _)] at hall
          unfold encT
          rw [if_neg (by rw [HN.out]; exact h12), if_pos hall, HN.out])
        go_wp2
        go_ret2
        rw [HE.out]
        have ho := HO.out
        rw [List.take_of_length_le (by rw [HN.out]; exact Nat.le_refl _)] at ho
        exact ⟨HX.out, _, rfl, ho⟩
end Go.Proofs.YtakmifnageepbaaDoor
namespace Go.Proofs.YtakmifnageepbaaDoor
open Go.ChangeShapes Go.WideShapes Go.ChangeAt Go.RowKit

section
variable {H : Type} {enc : TypeId × Value → H} {W : World}
set_option maxRecDepth 100000 in
/-- An argument that is a value. -/
theorem open_value {base : Nat} {v : Value} {d : DataW H} {ps : List MemPlace} (hval : Value.okWide Tryd.prog W .any base 26 v)
    (h : DataW.Trod enc Tryd.prog W 0 (fun _ => true) true 26 v d ps) :
    ∃ (k n : Int) (s : ByteArray), v = .agg #[.int .u8 k, .int .i64 n, .string s] ∧ VlIn (k, n, s) := by
  obtain ⟨cs, rfl, hsz⟩ := okWide_struct Tryd.underlying26 hval
  obtain ⟨fuel, hf⟩ := h
  obtain ⟨xs, m, _, hxx, hl, hxl, hall⟩ := DataW.trod_struct Tryd.underlying26 hf
  obtain ⟨l⟩ := cs
  have hcl : l.length = 3 := hsz.trans (by kernel_rfl)
  match l, hcl with
  | [v0, v1, v2], _ =>
    have hx2 : xs.length = 3 := hxl
    match xs, hx2 with
    | [y0, y1, y2], _ =>
      have e0 : DataW.trod enc Tryd.prog W 0 (fun _ => true) true m 5 [v0] = some y0 := hall 0 _ rfl
      have e1 : DataW.trod enc Tryd.prog W 0 (fun _ => true) true m 2 [v1] = some y1 := hall 1 _ rfl
      have e2 : DataW.trod enc Tryd.prog W 0 (fun _ => true) true m 9 [v2] = some y2 := hall 2 _ rfl
      obtain ⟨k, h0, _, w0⟩ := DataW.trod_int Tryd.underlying5 e0
      obtain ⟨n, h1, _, w1⟩ := DataW.trod_int Tryd.underlying2 e1
      obtain ⟨s, h2, _, w2⟩ := DataW.trod_string Tryd.underlying9 e2
      injection h0 with h0
      injection h1 with h1
      injection h2 with h2
      subst h0 h1 h2
      have b0 := bounds_u8 w0
      have b1 := bounds_i64 w1
      unfold maxLen at w2
      exact ⟨k, n, s, rfl, ⟨⟨b0.1, by have := b0.2; simp only; omega⟩, ⟨b1.1, by have := b1.2; simp only; omega⟩, w2⟩⟩
end
theorem tabs_of_laid {W : World} (h : laidMetH Tryd.prog [("unicode/utf8.acceptRanges", Rows.laid_unicode_utf8_acceptRanges), ("unicode/utf8.first", Rows.laid_unicode_utf8_first)] W) : Tabs W := by
  rw [MakeChecks.laidMetH_plain _ _ _ (by kernel_rfl)] at h
  have h3 := Lib.laidMet.reads h (.tail _ (.head _))
  have h4 := Lib.laidMet.reads h (.head _)
  rw [show Rows.laid_unicode_utf8_first = Lib.firstData from Pinned.utf8First_eq] at h3
  rw [show (Rows.laid_unicode_utf8_acceptRanges : DataW Unit) = Lib.acceptData by kernel_rfl] at h4
  exact utf8Tabs_of_readsT (U8Types.of196 Tryd.lays196) ⟨by kernel_rfl, by kernel_rfl, by kernel_rfl, by kernel_rfl, by kernel_rfl, by kernel_rfl, by kernel_rfl⟩ h3 h4
/-- A world for the witness: the tables hold what the text lays. -/
noncomputable def laidWorld (os : Os) : World := World.laidAll Tryd.prog os [("unicode/utf8.acceptRanges", Rows.laid_unicode_utf8_acceptRanges), ("unicode/utf8.first", Rows.laid_unicode_utf8_first)]
theorem laidWorld_os (os : Os) : (laidWorld os).os = os := World.laidAll_os _ _ _
theorem laidWorld_met (os : Os) (args : Array Value) : laidMet Tryd.prog [("unicode/utf8.acceptRanges", Rows.laid_unicode_utf8_acceptRanges), ("unicode/utf8.first", Rows.laid_unicode_utf8_first)] ((laidWorld os).forCall (fun _ _ => 0) ⟨#[], args, []⟩).memory :=
  laidMet_laidAll args (by kernel_rfl) (by kernel_rfl)
end Go.Proofs.YtakmifnageepbaaDoor
namespace Go.Proofs.YtakmifnageepbaaDoor
open Go.RowKit

theorem run_make_room (c : Nat) (hc : c ≤ 281474976710656) (W : World) : (Instr.makeSlice 27 (.int .i64 0) (.int .i64 (c : Int))).run Tryd.prog W =
    .ok (.slice (some ⟨W.heap.size, 0, none⟩) 0 c) (W.alloc (.cells (madeCells #[.int .u8 0] c) 5)) := by
  obtain ⟨i0, hi, hz0, hz1, hz2⟩ := info_parts info_u8
  have h := run_make (P := Tryd.prog) W 27 5 i0 (.int .u8 0) Tryd.underlying27 hi hz0 .i64 .i64 0 (c : Int) (by omega) (by omega) (by rw [hz2]; omega) (by omega)
  simpa [hz1, Value.cells] using h
theorem Own.room (W : World) (base c : Nat) (hb : base ≤ W.heap.size) (hc : c ≤ 281474976710656) : Own (W.alloc (.cells (madeCells #[.int .u8 0] c) 5)) base (.slice (some ⟨W.heap.size, 0, none⟩) 0 c) [] :=
  World.ownsRow_made W _ c hb (by unfold maxLen; omega) (by simp [madeCells])
end Go.Proofs.YtakmifnageepbaaDoor
namespace Go.Proofs.YtakmifnageepbaaDoor
open Go.RowKit

def alph : ByteArray := ⟨#[65, 66, 67, 68, 69, 70, 71, 72, 73, 74, 75, 76, 77, 78, 79, 80, 81, 82, 83, 84, 85, 86, 87, 88, 89, 90, 97, 98, 99, 100, 101, 102, 103, 104, 105, 106, 107, 108, 109, 110, 111, 112, 113, 114, 115, 116, 117, 118, 119, 120, 121, 122, 48, 49, 50, 51, 52, 53, 54, 55, 56, 57, 45, 95]⟩
/-- The sign of six bits. -/
def sgn (v : Nat) : UInt8 := alph.data.toList.getD v 0
theorem u8i (x : UInt8) : (x.toNat : Int) < 256 := by have := x.toNat_lt; omega
theorem u8z (x : UInt8) : (0 : Int) ≤ (x.toNat : Int) := Int.natCast_nonneg _
theorem sgn_at (v : Nat) (h : v < alph.size) : b8 (((alph[v]'h).toNat : Nat) : Int) = sgn v := by
  rw [b8_byte]
  unfold sgn
  rw [List.getD_eq_getElem?_getD, Array.getElem?_toList, Array.getElem?_eq_getElem (by exact h)]
  rfl
/-- The signs that so many bits give. -/
def emitN (b l : Nat) : List UInt8 := if l < 6 then [] else if l < 12 then [sgn (b / 2 ^ (l - 6) % 64)] else [sgn (b / 2 ^ (l - 6) % 64), sgn (b / 2 ^ (l - 12) % 64)]
theorem emitN_step (b l : Nat) (h : l + 6 < 14) : emitN b (l + 6) = sgn (b / 2 ^ l % 64) :: emitN b l := by
  unfold emitN
  rw [if_neg (by omega)]
  by_cases h6 : l < 6
  · rw [if_pos (by omega), if_pos h6, Nat.add_sub_cancel]
  · rw [if_neg (by omega), if_neg h6, if_pos (by omega), Nat.add_sub_cancel, show l + 6 - 12 = l - 6 by omega]
theorem emitN_none (b l : Nat) (h : l < 6) : emitN b l = [] := by unfold emitN; rw [if_pos h]
/-- What Base does with some bytes, with the bits that are left: the signs, the bits, how many are left. -/
def goB : List UInt8 → Nat → Nat → List UInt8 × Nat × Nat
  | [], b, l => ([], b, l)
  | x :: xs, b, l => (emitN (b * 256 % 4294967296 + x.toNat) (l + 8) ++ (goB xs (b * 256 % 4294967296 + x.toNat) ((l + 8) % 6)).1, (goB xs (b * 256 % 4294967296 + x.toNat) ((l + 8) % 6)).2)
/-- Base 64, as the call makes it. -/
def baseB (l : List UInt8) : List UInt8 := (goB l 0 0).1 ++ if 0 < (goB l 0 0).2.2 then [sgn ((goB l 0 0).2.1 * 2 ^ (6 - (goB l 0 0).2.2) % 64)] else []
theorem emitN_len (b l : Nat) (h : l < 14) : (emitN b l).length = l / 6 := by
  unfold emitN
  split
  · rename_i h1; rw [Nat.div_eq_of_lt h1]; rfl
  · split
    · show 1 = _; omega
    · show 2 = _; omega
theorem goB_len : ∀ (xs : List UInt8) (b l : Nat), l < 6 → (goB xs b l).1.length * 6 + (goB xs b l).2.2 = xs.length * 8 + l ∧ (goB xs b l).2.2 < 6
  | [], b, l, h => ⟨by simp [goB], h⟩
  | x :: xs, b, l, h => by
    have ih := goB_len xs (b * 256 % 4294967296 + x.toNat) ((l + 8) % 6) (Nat.mod_lt _ (by decide))
    refine ⟨?_, ih.2⟩
    have e := emitN_len (b * 256 % 4294967296 + x.toNat) (l + 8) (by omega)
    simp only [goB, List.length_append, List.length_cons, e]
    have := ih.1
    omega
theorem and_63 (b : Nat) (h : b < 4294967296) : bits .and .u32 (b : Int) 63 = ((b % 64 : Nat) : Int) := by
  show IntKind.u32.wrap ((BitVec.ofInt 32 ((b : Nat) : Int) &&& BitVec.ofInt 32 ((63 : Nat) : Int)).toNat : Int) = _
  rw [BitVec.toNat_and, BitVec.ofInt_natCast, BitVec.ofInt_natCast, BitVec.toNat_ofNat, BitVec.toNat_ofNat, Nat.mod_eq_of_lt (show b < 2 ^ 32 by omega), Nat.mod_eq_of_lt (show 63 < 2 ^ 32 by omega),
    show (63 : Nat) = 2 ^ 6 - 1 from rfl, Nat.and_two_pow_sub_one_eq_mod, IntKind.wrap_u32]
  omega
theorem or_u8 (b x : Nat) (hx : x < 256) : bits .or .u32 ((b : Int) * 256 % 4294967296) (x : Int) = ((b * 256 % 4294967296 + x : Nat) : Int) := by
  have e1 : (b : Int) * 256 % 4294967296 = (((b % 16777216) * 256 : Nat) : Int) := by omega
  have e2 : b * 256 % 4294967296 = (b % 16777216) * 256 := by omega
  rw [e1, e2]
  show IntKind.u32.wrap ((BitVec.ofInt 32 (((b % 16777216) * 256 : Nat) : Int) ||| BitVec.ofInt 32 ((x : Nat) : Int)).toNat : Int) = _
  rw [BitVec.toNat_or, BitVec.ofInt_natCast, BitVec.ofInt_natCast, BitVec.toNat_ofNat, BitVec.toNat_ofNat,
    Nat.mod_eq_of_lt (show (b % 16777216) * 256 < 2 ^ 32 by omega), Nat.mod_eq_of_lt (show x < 2 ^ 32 by omega), or_low _ _ hx, IntKind.wrap_u32]
  omega
set_option maxRecDepth 20000 in
set_option maxHeartbeats 3200000 in
theorem base_any (A : Option Addr) (l : List UInt8) (n c : Nat) (w : World) (hr : Rd w A l) (hn : l.length = n) (hnc : n ≤ c) (hl : n ≤ 1000000) :
    Calls Tryd.prog 24 #[.slice A n c] w (Ret w (Is (.string ⟨(baseB l).toArray⟩))) := by
  have HR := hide hr
  have HN := hide hn
  have hnI : (n : Int) ≤ 1000000 := by omega
  obtain ⟨m, HM⟩ : ∃ m : Nat, Hid (n / 3 = m) := ⟨_, hide rfl⟩
  have hm3 : (n : Int) / 3 = (m : Int) := by have := HM.out; omega
  have hmI : (m : Int) ≤ 400000 := by have := HM.out; omega
  have hmk := fun W => run_make_room (m * 4 + 3) (by omega) W
  rw [show ((m * 4 + 3 : Nat) : Int) = (m : Int) * 4 + 3 from by omega] at hmk
  obtain ⟨TA, TB, TL, HTT⟩ : ∃ TA TB TL, Hid (goB l 0 0 = (TA, TB, TL)) := ⟨_, _, _, hide rfl⟩
  have HTL : Hid (TA.length * 6 + TL = n * 8 ∧ TL < 6) := hide (by have h := goB_len l 0 0 (by decide); rw [HTT.out, hn] at h; exact h)
  have HBB : Hid (baseB l = TA ++ if 0 < TL then [sgn (TB * 2 ^ (6 - TL) % 64)] else []) := hide (by unfold baseB; rw [HTT.out])
  clear hr hn
  go_enter Tryd.func24, Tryd.ntmps24
  go_upto_region 4 with fail
  have hown0 := Own.room w w.heap.size (m * 4 + 3) (Nat.le_refl _) (by omega)
  go_loopw [3, 4, 5, 7, 16] (fun ov bv lv _ iv wr => ∃ (i bt lf : Nat) (acc : List UInt8), i ≤ n ∧ iv = .int .i64 (i : Int) ∧ bv = .int .u32 (bt : Int) ∧ bt < 4294967296 ∧ lv = .int .i64 (lf : Int) ∧ lf < 6 ∧ Hid (Ext w wr) ∧ Hid (Own wr w.heap.size ov acc) ∧ Hid (acc ++ (goB (l.drop i) bt lf).1 = TA ∧ (goB (l.drop i) bt lf).2 = (TB, TL))) (fun _ _ _ _ iv _ => n - (intOf iv).toNat)
  case atStart => exact ⟨0, 0, 0, [], Nat.zero_le _, rfl, rfl, by decide, rfl, by decide, hide (Ext.alloc _ _), hide hown0, hide (by rw [List.drop_zero, HTT.out]; exact ⟨rfl, rfl⟩)⟩
  case round =>
    obtain ⟨i, bt, lf, acc, hi, rfl, rfl, hbt, rfl, hlf, HX, HO, HG⟩ := hrel
    by_cases hlt : i < n
    · have hii : (i : Int) < (n : Int) := by omega
      obtain ⟨x, hx⟩ : ∃ x, l[i]? = some x := ⟨_, List.getElem?_eq_getElem (by rw [HN.out]; exact hlt)⟩
      obtain ⟨b, off, hA, hc⟩ := HR.out (by intro h; rw [h] at hx; cases hx)
      subst hA
      have c0 := HX.out.keeps.cell (hc i x hx)
      clear hc
      have hxl := x.toNat_lt
      have HDR : Hid (l.drop i = x :: l.drop (i + 1)) := hide (by
        have hlt' : i < l.length := by rw [HN.out]; exact hlt
        rw [List.drop_eq_getElem_cons hlt']
        rw [List.getElem?_eq_getElem hlt'] at hx
        injection hx with hx
        rw [hx])
      have hor := or_u8 bt x.toNat (by omega)
      obtain ⟨b1, HB1⟩ : ∃ u : Nat, Hid (bt * 256 % 4294967296 + x.toNat = u) := ⟨_, hide rfl⟩
      rw [HB1.out] at hor
      have hb1 : b1 < 4294967296 := by have := HB1.out; omega
      have HG1 : Hid (acc ++ (emitN b1 (lf + 8) ++ (goB (l.drop (i + 1)) b1 ((lf + 8) % 6)).1) = TA ∧ (goB (l.drop (i + 1)) b1 ((lf + 8) % 6)).2 = (TB, TL)) := hide (by
        have h := HG.out
        rw [HDR.out] at h
        simp only [goB, HB1.out] at h
        exact h)
      obtain ⟨wr, HWR⟩ := worldOf HX
      subst HWR
      have hli : (lf : Int) < 6 := by omega
      clear hx HG
      go_upto_region 8 with fail
      go_loopw [3, 5] (fun ov lv w2 => ∃ (l2 : Nat) (ac2 : List UInt8), lv = .int .i64 (l2 : Int) ∧ l2 < 14 ∧ l2 % 6 = (lf + 8) % 6 ∧ Hid (Ext w w2) ∧ Hid (Own w2 w.heap.size ov ac2) ∧ Hid (ac2 ++ emitN b1 l2 = acc ++ emitN b1 (lf + 8))) (fun _ lv _ => (intOf lv).toNat)
      case atStart => exact ⟨lf + 8, acc, by push_cast; rfl, by omega, rfl, HX, HO, hide rfl⟩
      case round =>
        obtain ⟨l2, ac2, rfl, hl2, hm2, HX2, HO2, HE2⟩ := hrel
        by_cases h6 : 6 ≤ l2
        · have h6i : (6 : Int) ≤ (l2 : Int) := by omega
          obtain ⟨l3, rfl⟩ : ∃ l3, l2 = l3 + 6 := ⟨l2 - 6, by omega⟩
          have h66 : ((l3 + 6 : Nat) : Int) - 6 = (l3 : Int) := by omega
          have hq : b1 / 2 ^ l3 < 4294967296 := Nat.lt_of_le_of_lt (Nat.div_le_self _ _) hb1
          have hand := and_63 (b1 / 2 ^ l3) hq
          obtain ⟨v, HV⟩ : ∃ v, Hid (b1 / 2 ^ l3 % 64 = v) := ⟨_, hide rfl⟩
          rw [HV.out] at hand
          have hdv : ((b1 / 2 ^ l3 : Nat) : Int) = (b1 : Int) / 2 ^ l3 := by rw [Int.natCast_ediv, Int.natCast_pow]; rfl
          rw [hdv] at hand
          have hv64 : v < 64 := by rw [← HV.out]; exact Nat.mod_lt _ (by decide)
          have hvs : v < alph.size := hv64
          have hlen : Hid (ac2.length ≤ 2000000) := hide (by
            have h1 := congrArg List.length HE2.out
            have h2 := congrArg List.length HG1.out.1
            have h3 := HTL.out.1
            simp only [List.length_append] at h1 h2
            omega)
          have hl3i : (l3 : Int) ≤ 13 := by omega
          go_wp2_with (at_builtin; go_loud (refine wpList_push (by rfl) (.tmp 31) (.tmp 37) rfl w.heap.size _ ac2 rfl rfl HO2.out (u8z _) (u8i _) HX2.out.size (by have := hlen.out; omega) ?_; intro v3 w3 ho3 hb3; have ho3 := (show b8 _ = sgn v from sgn_at v hvs) ▸ ho3; have X3 := hide (HX2.out.below (Nat.le_refl _) hb3)))
          refine ⟨⟨l3, ac2 ++ [sgn v], rfl, by omega, by omega, X3, hide ho3, hide ?_⟩, by simp [intOf]; omega⟩
          have h1 := HE2.out
          rw [emitN_step b1 l3 hl2, HV.out] at h1
          rw [List.append_assoc]
          exact h1
        · have h6i : ¬ (6 : Int) ≤ (l2 : Int) := by omega
          have hE : Hid (ac2 ++ (goB (l.drop (i + 1)) b1 l2).1 = TA ∧ (goB (l.drop (i + 1)) b1 l2).2 = (TB, TL)) := hide (by
            have h1 := HE2.out
            rw [emitN_none b1 l2 (by omega), List.append_nil] at h1
            have h2 := HG1.out
            rw [← hm2, Nat.mod_eq_of_lt (show l2 < 6 by omega), ← List.append_assoc, ← h1] at h2
            exact h2)
          go_wp2
          exact ⟨⟨i + 1, b1, l2, ac2, by omega, by go_num, rfl, hb1, rfl, by omega, HX2, HO2, hE⟩, by simp [intOf]; omega⟩
    · obtain rfl : i = n := by omega
      have hii : ¬ (i : Int) < (i : Int) := by omega
      have HD : Hid (acc = TA ∧ bt = TB ∧ lf = TL) := hide (by
        have h := HG.out
        rw [List.drop_of_length_le (by rw [HN.out]; exact Nat.le_refl _)] at h
        simp only [goB, List.append_nil, Prod.mk.injEq] at h
        exact ⟨h.1, h.2.1, h.2.2⟩)
      have hlen : Hid (acc.length ≤ 2000000) := hide (by rw [HD.out.1]; have := HTL.out.1; omega)
      by_cases h0 : 0 < lf
      · have h0i : (0 : Int) < (lf : Int) := by omega
        obtain ⟨k, HK⟩ : ∃ k : Nat, Hid (6 - lf = k) := ⟨_, hide rfl⟩
        have hk : (6 : Int) - (lf : Int) = (k : Int) := by have := HK.out; omega
        have hki : (k : Int) ≤ 6 := by omega
        obtain ⟨q, HQ⟩ : ∃ q : Nat, Hid (bt * 2 ^ k % 4294967296 = q) := ⟨_, hide rfl⟩
        have hq : q < 4294967296 := by rw [← HQ.out]; exact Nat.mod_lt _ (by decide)
        have hqi : (bt : Int) * 2 ^ k % 4294967296 = (q : Int) := by rw [← HQ.out, Int.natCast_emod, Int.natCast_mul, Int.natCast_pow]; rfl
        have hand := and_63 q hq
        obtain ⟨v, HV⟩ : ∃ v, Hid (q % 64 = v) := ⟨_, hide rfl⟩
        rw [HV.out] at hand
        have hv64 : v < 64 := by rw [← HV.out]; exact Nat.mod_lt _ (by decide)
        have hvs : v < alph.size := hv64
        have HF : Hid (baseB l = acc ++ [sgn v]) := hide (by
          rw [HBB.out, ← HD.out.2.1, ← HD.out.2.2, if_pos h0, HK.out, ← HD.out.1, ← HV.out, ← HQ.out, Nat.mod_mod_of_dvd _ (show 64 ∣ 4294967296 from ⟨67108864, rfl⟩)])
        go_wp2_with (first
          | (at_builtin; refine wpList_push (by rfl) (.tmp 42) (.tmp 49) rfl w.heap.size _ acc rfl rfl HO.out (u8z _) (u8i _) HX.out.size (by have := hlen.out; omega) ?_; intro v3 w3 ho3 hb3; have ho3 := (show b8 _ = sgn v from sgn_at v hvs) ▸ ho3; have X3 := hide (HX.out.below (Nat.le_refl _) hb3))
          | (refine wpList_str (by rfl) (.tmp 51) rfl (acc ++ [sgn v]) ho3.bytes ?_))
        go_ret
        rw [HF.out]
        exact Ret.mk X3.out rfl
      · have h0i : ¬ (0 : Int) < (lf : Int) := by omega
        have HF : Hid (baseB l = acc) := hide (by rw [HBB.out, ← HD.out.2.2, if_neg h0, HD.out.1, List.append_nil])
        go_wp2_with (refine wpList_str (by rfl) (.tmp 51) rfl acc HO.out.bytes ?_)
        go_ret
        rw [HF.out]
        exact Ret.mk HX.out rfl
end Go.Proofs.YtakmifnageepbaaDoor
namespace Go.Proofs.YtakmifnageepbaaDoor
open Go.RowKit

theorem ix_spec : ∀ (l : List UInt8) (c : UInt8), (Lib.indexByte l c = -1 ∧ c ∉ l) ∨ ∃ i, i < l.length ∧ Lib.indexByte l c = (i : Int) ∧ l.getD i 0 = c
  | [], _ => .inl ⟨rfl, by simp⟩
  | b :: l, c => by
    unfold Lib.indexByte
    by_cases h : b = c
    · subst h
      exact .inr ⟨0, by simp, by simp, rfl⟩
    · have hb : (b == c) = false := by simpa using h
      rw [hb]
      rcases ix_spec l c with ⟨h1, h2⟩ | ⟨i, h1, h2, h3⟩
      · rw [h1]
        exact .inl ⟨rfl, by simp [h2, Ne.symm h]⟩
      · rw [h2]
        have hn : (((i : Int) == -1)) = false := beq_eq_false_iff_ne.2 (by omega)
        rw [hn]
        exact .inr ⟨i + 1, by simpa using h1, rfl, h3⟩
/-- The six bits of a sign, if it is one. -/
def sixN (c : UInt8) : Option Nat := match Lib.indexByte alph.data.toList c with | .ofNat n => some n | .negSucc _ => none
theorem six_none (c : UInt8) (h : sixN c = none) : Lib.indexByte alph.data.toList c = -1 ∧ c ∉ alph.data.toList := by
  rcases ix_spec alph.data.toList c with h1 | ⟨i, _, h2, _⟩
  · exact h1
  · unfold sixN at h
    rw [h2] at h
    cases h
theorem six_some (c : UInt8) (v : Nat) (h : sixN c = some v) : Lib.indexByte alph.data.toList c = (v : Int) ∧ v < 64 ∧ sgn v = c := by
  rcases ix_spec alph.data.toList c with h1 | ⟨i, h1, h2, h3⟩
  · unfold sixN at h
    rw [h1.1] at h
    cases h
  · unfold sixN at h
    rw [h2] at h
    have h : some i = some v := h
    injection h with h
    subst h
    exact ⟨h2, h1, h3⟩
/-- What ReadBase does with some signs, with the bits that are left. -/
def goR : List UInt8 → Nat → Nat → Option (List UInt8 × Nat × Nat)
  | [], b, l => some ([], b, l)
  | c :: cs, b, l => match sixN c with
    | none => none
    | some v => if 2 ≤ l then (goR cs (b * 64 % 4294967296 + v) (l - 2)).map (fun r => (b8 (((b * 64 % 4294967296 + v) / 2 ^ (l - 2) % 256 : Nat) : Int) :: r.1, r.2)) else goR cs (b * 64 % 4294967296 + v) (l + 6)
def finR (acc : List UInt8) (o : Option (List UInt8 × Nat × Nat)) : Option (List UInt8) := o.bind fun r => if r.2.2 = 6 ∨ r.2.1 % 2 ^ r.2.2 ≠ 0 then none else some (acc ++ r.1)
/-- The bytes of some signs. -/
def readB (cs : List UInt8) : Option (List UInt8) := finR [] (goR cs 0 0)
theorem or_u6 (b x : Nat) (hx : x < 64) : bits .or .u32 ((b : Int) * 64 % 4294967296) (x : Int) = ((b * 64 % 4294967296 + x : Nat) : Int) := by
  have e1 : (b : Int) * 64 % 4294967296 = (((b % 67108864) * 64 : Nat) : Int) := by omega
  have e2 : b * 64 % 4294967296 = (b % 67108864) * 64 := by omega
  rw [e1, e2]
  show IntKind.u32.wrap ((BitVec.ofInt 32 (((b % 67108864) * 64 : Nat) : Int) ||| BitVec.ofInt 32 ((x : Nat) : Int)).toNat : Int) = _
  have hlow : (b % 67108864) * 64 ||| x = (b % 67108864) * 64 + x := by
    have := Nat.shiftLeft_add_eq_or_of_lt (i := 6) (b := x) (by omega) (b % 67108864)
    rw [Nat.shiftLeft_eq] at this
    exact this.symm
  rw [BitVec.toNat_or, BitVec.ofInt_natCast, BitVec.ofInt_natCast, BitVec.toNat_ofNat, BitVec.toNat_ofNat,
    Nat.mod_eq_of_lt (show (b % 67108864) * 64 < 2 ^ 32 by omega), Nat.mod_eq_of_lt (show x < 2 ^ 32 by omega), hlow, IntKind.wrap_u32]
  omega
theorem and_mask (b k : Nat) (hb : b < 4294967296) (hk : k ≤ 31) : bits .and .u32 (b : Int) ((2 ^ k - 1 : Nat) : Int) = ((b % 2 ^ k : Nat) : Int) := by
  have hp : 2 ^ k ≤ 2 ^ 31 := Nat.pow_le_pow_right (by decide) hk
  have hp2 : (2 : Nat) ^ 31 = 2147483648 := by decide
  have hp0 : 0 < 2 ^ k := Nat.pow_pos (by decide)
  show IntKind.u32.wrap ((BitVec.ofInt 32 ((b : Nat) : Int) &&& BitVec.ofInt 32 ((2 ^ k - 1 : Nat) : Int)).toNat : Int) = _
  rw [BitVec.toNat_and, BitVec.ofInt_natCast, BitVec.ofInt_natCast, BitVec.toNat_ofNat, BitVec.toNat_ofNat, Nat.mod_eq_of_lt (show b < 2 ^ 32 by omega), Nat.mod_eq_of_lt (show 2 ^ k - 1 < 2 ^ 32 by omega),
    Nat.and_two_pow_sub_one_eq_mod, IntKind.wrap_u32]
  have := Nat.mod_lt b hp0
  omega
def RdBP (w : World) (o : Option (List UInt8)) (e : Ending) (w' : World) : Prop := Ext w w' ∧ match o with
  | none => e = .returned (.tuple #[.slice none 0 0, .int .i64 3])
  | some l => ∃ v, e = .returned (.tuple #[v, .int .i64 0]) ∧ Bytes l w' v
set_option maxRecDepth 20000 in
set_option maxHeartbeats 3200000 in
theorem readBase_any (s : ByteArray) (w : World) (hs : s.size ≤ 1000000) :
    Calls Tryd.prog 25 #[.string s] w (RdBP w (readB s.data.toList)) := by
  have KIX := hide (fun (x : UInt8) (W : World) => (show Calls Tryd.prog 42 #[.string alph, .int .u8 (x.toNat : Int)] W (fun e w' => e = .returned (.int .i64 (Lib.indexByte alph.data.toList x)) ∧ w' = W) from by
    have h := Tryd.strings_IndexByte alph (x.toNat : Int) W
    rw [show ((x.toNat : Int)).toNat.toUInt8 = x from by rw [Int.toNat_natCast]; exact UInt8.ofNat_toNat] at h
    exact h))
  obtain ⟨RES, HRES⟩ : ∃ o, Hid (readB s.data.toList = o) := ⟨_, hide rfl⟩
  rw [HRES.out]
  obtain ⟨n, HN⟩ : ∃ n, Hid (s.size = n) := ⟨_, hide rfl⟩
  have hnI : (n : Int) ≤ 1000000 := by have := HN.out; omega
  have hsn : (s.size : Int) = (n : Int) := by rw [HN.out]
  obtain ⟨m, HM⟩ : ∃ m : Nat, Hid (n / 4 = m) := ⟨_, hide rfl⟩
  have hm3 : (n : Int) / 4 = (m : Int) := by have := HM.out; omega
  have hmI : (m : Int) ≤ 250000 := by have := HM.out; omega
  have hmk := fun W => run_make_room (m * 3 + 2) (by omega) W
  rw [show ((m * 3 + 2 : Nat) : Int) = (m : Int) * 3 + 2 from by omega] at hmk
  unfold alph at KIX
  go_enter Tryd.func25, Tryd.ntmps25
  go_upto_region 4 with fail
  have hown0 := Own.room w w.heap.size (m * 3 + 2) (Nat.le_refl _) (by omega)
  go_loopw [4, 5, 6, 7, 8, 17] (fun ov bv lv _ _ iv wr => ∃ (i bt lf : Nat) (acc : List UInt8), i ≤ n ∧ iv = .int .i64 (i : Int) ∧ bv = .int .u32 (bt : Int) ∧ bt < 4294967296 ∧ lv = .int .i64 (lf : Int) ∧ lf < 8 ∧ lf % 2 = 0 ∧ acc.length ≤ i ∧ Hid (Ext w wr) ∧ Hid (Own wr w.heap.size ov acc) ∧ Hid (finR acc (goR (s.data.toList.drop i) bt lf) = RES)) (fun _ _ _ _ _ iv _ => n - (intOf iv).toNat)
  case atStart => exact ⟨0, 0, 0, [], Nat.zero_le _, rfl, rfl, by decide, rfl, by decide, rfl, Nat.zero_le _, hide (Ext.alloc _ _), hide hown0, hide (by rw [List.drop_zero]; exact HRES.out)⟩
  case round =>
    obtain ⟨i, bt, lf, acc, hi, rfl, rfl, hbt, rfl, hlf, hev, hal, HX, HO, HG⟩ := hrel
    by_cases hlt : i < n
    · have hii : (i : Int) < (n : Int) := by omega
      have his : i < s.size := by rw [HN.out]; exact hlt
      have HDR : Hid (s.data.toList.drop i = s[i] :: s.data.toList.drop (i + 1)) := hide (by
        have hlt' : i < s.data.toList.length := by rw [size_list]; exact his
        rw [List.drop_eq_getElem_cons hlt']
        rfl)
      have hxl := (s[i]).toNat_lt
      obtain ⟨wr, HWR⟩ := worldOf HX
      subst HWR
      cases hsx : sixN s[i] with
      | none =>
        have KI := hide (KIX.out s[i])
        have hm1 := (six_none _ hsx).1
        unfold alph at hm1
        rw [hm1] at KI
        have HE : Hid (RES = none) := hide (by
          rw [← HG.out, HDR.out]
          simp only [goR, hsx]
          rfl)
        go_wp2_with (go_at_call 42; (with_reducible refine (KI.out _).mono ?_); rintro e x ⟨rfl, hx⟩; have hx := hx.symm; subst hx)
        go_ret2
        rw [HE.out]
        exact ⟨HX.out, rfl⟩
      | some v =>
        obtain ⟨hm1, hv64, hsg⟩ := six_some _ v hsx
        have KI := hide (KIX.out s[i])
        unfold alph at hm1
        rw [hm1] at KI
        have hvi : ¬ (v : Int) < 0 := by omega
        have hwv : IntKind.u32.wrap (v : Int) = (v : Int) := by rw [IntKind.wrap_u32]; omega
        have hor := or_u6 bt v hv64
        obtain ⟨b1, HB1⟩ : ∃ u : Nat, Hid (bt * 64 % 4294967296 + v = u) := ⟨_, hide rfl⟩
        rw [HB1.out] at hor
        have hb1 : b1 < 4294967296 := by have := HB1.out; omega
        by_cases h2 : 2 ≤ lf
        · obtain ⟨l3, rfl⟩ : ∃ l3, lf = l3 + 2 := ⟨lf - 2, by omega⟩
          have h8 : (8 : Int) ≤ ((l3 + 2 : Nat) : Int) + 6 := by omega
          have h88 : ((l3 + 2 : Nat) : Int) + 6 - 8 = (l3 : Int) := by omega
          obtain ⟨y, HY⟩ : ∃ y, Hid (b1 / 2 ^ l3 % 256 = y) := ⟨_, hide rfl⟩
          have hy : y < 256 := by rw [← HY.out]; exact Nat.mod_lt _ (by decide)
          have hdv : ((b1 / 2 ^ l3 : Nat) : Int) = (b1 : Int) / 2 ^ l3 := by rw [Int.natCast_ediv, Int.natCast_pow]; rfl
          have hwy : IntKind.u8.wrap ((b1 : Int) / 2 ^ l3) = (y : Int) := by rw [← hdv, IntKind.wrap_u8, ← HY.out]; omega
          have HG1 : Hid (finR (acc ++ [b8 (y : Int)]) (goR (s.data.toList.drop (i + 1)) b1 l3) = RES) := hide (by
            have h := HG.out
            rw [HDR.out] at h
            simp only [goR, hsx, HB1.out] at h
            rw [if_pos (by omega), Nat.add_sub_cancel, HY.out] at h
            rw [← h]
            cases goR (s.data.toList.drop (i + 1)) b1 l3 with
            | none => rfl
            | some r => simp [finR])
          have hl3i : (l3 : Int) ≤ 8 := by omega
          go_wp2_with (first
            | (go_at_call 42; (with_reducible refine (KI.out _).mono ?_); rintro e x ⟨rfl, hx⟩; have hx := hx.symm; subst hx)
            | (at_builtin; refine wpList_push (by rfl) (.tmp 37) (.tmp 42) rfl w.heap.size _ acc rfl rfl HO.out (by omega) (by omega) HX.out.size (by omega) ?_; intro v3 w3 ho3 hb3; have X3 := hide (HX.out.below (Nat.le_refl _) hb3)))
          exact ⟨⟨i + 1, b1, l3, acc ++ [b8 (y : Int)], by omega, by go_num, rfl, hb1, by first | rfl | go_num, by omega, by omega, by rw [List.length_append]; simp; omega, X3, hide ho3, HG1⟩, by simp [intOf]; omega⟩
        · have h8 : ¬ (8 : Int) ≤ (lf : Int) + 6 := by omega
          have HG1 : Hid (finR acc (goR (s.data.toList.drop (i + 1)) b1 (lf + 6)) = RES) := hide (by
            have h := HG.out
            rw [HDR.out] at h
            simp only [goR, hsx, HB1.out] at h
            rw [if_neg h2] at h
            exact h)
          go_wp2_with (go_at_call 42; (with_reducible refine (KI.out _).mono ?_); rintro e x ⟨rfl, hx⟩; have hx := hx.symm; subst hx)
          exact ⟨⟨i + 1, b1, lf + 6, acc, by omega, by go_num, rfl, hb1, by push_cast; rfl, by omega, by omega, by omega, HX, HO, HG1⟩, by simp [intOf]; omega⟩
    · obtain rfl : i = n := by omega
      have hii : ¬ (i : Int) < (i : Int) := by omega
      have hd0 : s.data.toList.drop i = [] := List.drop_of_length_le (by rw [size_list, HN.out]; exact Nat.le_refl _)
      have HG1 := HG.out
      rw [hd0] at HG1
      simp only [goR, finR, Option.bind_some, List.append_nil] at HG1
      rcases (by omega : lf = 0 ∨ lf = 2 ∨ lf = 4 ∨ lf = 6) with rfl | rfl | rfl | rfl
      · have hmk2 : bits .and .u32 (bt : Int) 0 = 0 := (and_mask bt 0 hbt (by decide)).trans (by simp [Nat.mod_one])
        have HE : Hid (RES = some acc) := hide (by rw [← HG1, if_neg (by simp [Nat.mod_one])])
        go_wp2
        go_ret2
        rw [HE.out]
        exact ⟨HX.out, _, rfl, HO.out.bytes⟩
      · have hmk2 : bits .and .u32 (bt : Int) 3 = ((bt % 4 : Nat) : Int) := and_mask bt 2 hbt (by decide)
        obtain ⟨z, HZ⟩ : ∃ z, Hid (bt % 4 = z) := ⟨_, hide rfl⟩
        have HG2 : (if (2 : Nat) = 6 ∨ z ≠ 0 then none else some acc) = RES := by rw [← HZ.out]; exact HG1
        rw [HZ.out] at hmk2
        by_cases hz : z = 0
        · subst hz
          have hmk3 : bits .and .u32 (bt : Int) 3 = 0 := hmk2
          have HE : Hid (RES = some acc) := hide (by rw [← HG2, if_neg (by decide)])
          clear hmk2
          go_wp2
          go_ret2
          rw [HE.out]
          exact ⟨HX.out, _, rfl, HO.out.bytes⟩
        · have hzb : ((z : Int) != 0) = true := by simp; omega
          have hzi : ¬ (z : Int) = 0 := by omega
          have HE : Hid (RES = none) := hide (by rw [← HG2, if_pos (.inr hz)])
          go_wp2
          go_ret2
          rw [HE.out]
          exact ⟨HX.out, rfl⟩
      · have hmk2 : bits .and .u32 (bt : Int) 15 = ((bt % 16 : Nat) : Int) := and_mask bt 4 hbt (by decide)
        obtain ⟨z, HZ⟩ : ∃ z, Hid (bt % 16 = z) := ⟨_, hide rfl⟩
        have HG2 : (if (4 : Nat) = 6 ∨ z ≠ 0 then none else some acc) = RES := by rw [← HZ.out]; exact HG1
        rw [HZ.out] at hmk2
        by_cases hz : z = 0
        · subst hz
          have hmk3 : bits .and .u32 (bt : Int) 15 = 0 := hmk2
          have HE : Hid (RES = some acc) := hide (by rw [← HG2, if_neg (by decide)])
          clear hmk2
          go_wp2
          go_ret2
          rw [HE.out]
          exact ⟨HX.out, _, rfl, HO.out.bytes⟩
        · have hzb : ((z : Int) != 0) = true := by simp; omega
          have hzi : ¬ (z : Int) = 0 := by omega
          have HE : Hid (RES = none) := hide (by rw [← HG2, if_pos (.inr hz)])
          go_wp2
          go_ret2
          rw [HE.out]
          exact ⟨HX.out, rfl⟩
      · have HE : Hid (RES = none) := hide (by rw [← HG1, if_pos (.inl rfl)])
        go_wp2
        go_ret2
        rw [HE.out]
        exact ⟨HX.out, rfl⟩
end Go.Proofs.YtakmifnageepbaaDoor
namespace Go.Proofs.YtakmifnageepbaaDoor
open Go.RowKit

/-- Six bits each, one behind the other, as a number. -/
def num64 (vs : List Nat) : Nat := vs.foldl (fun a v => a * 64 + v) 0
def num256 (l : List UInt8) : Nat := l.foldl (fun a b => a * 256 + b.toNat) 0
theorem num64_snoc (vs : List Nat) (v : Nat) : num64 (vs ++ [v]) = num64 vs * 64 + v := by simp [num64]
theorem num256_snoc (l : List UInt8) (b : UInt8) : num256 (l ++ [b]) = num256 l * 256 + b.toNat := by simp [num256]
theorem num64_lt : ∀ (n : Nat) (vs : List Nat), vs.length = n → (∀ v ∈ vs, v < 64) → num64 vs < 64 ^ n
  | 0, [], _, _ => by decide
  | n + 1, vs, hn, hv => by
    rcases List.eq_nil_or_concat vs with rfl | ⟨ws, v, rfl⟩
    · cases hn
    · rw [List.concat_eq_append] at hn hv ⊢
      rw [num64_snoc]
      have h1 := num64_lt n ws (by simpa using hn) (fun u hu => hv u (List.mem_append_left _ hu))
      have h2 := hv v (List.mem_append_right _ (List.mem_singleton.2 rfl))
      rw [Nat.pow_succ]
      omega
/-- Two lists of as many six bits that are one number are one list. -/
theorem num64_inj : ∀ (n : Nat) (vs ws : List Nat), vs.length = n → ws.length = n → (∀ v ∈ vs, v < 64) → (∀ v ∈ ws, v < 64) → num64 vs = num64 ws → vs = ws
  | 0, [], [], _, _, _, _, _ => rfl
  | n + 1, vs, ws, hn, hm, hv, hw, he => by
    rcases List.eq_nil_or_concat vs with rfl | ⟨vs, v, rfl⟩
    · cases hn
    rcases List.eq_nil_or_concat ws with rfl | ⟨ws, u, rfl⟩
    · cases hm
    rw [List.concat_eq_append] at hn hv he
    rw [List.concat_eq_append] at hm hw he
    rw [List.concat_eq_append, List.concat_eq_append]
    rw [num64_snoc, num64_snoc] at he
    have h1 := hv v (List.mem_append_right _ (List.mem_singleton.2 rfl))
    have h2 := hw u (List.mem_append_right _ (List.mem_singleton.2 rfl))
    rw [num64_inj n vs ws (by simpa using hn) (by simpa using hm) (fun x hx => hv x (List.mem_append_left _ hx)) (fun x hx => hw x (List.mem_append_left _ hx)) (by omega), show v = u by omega]
/-- What emitN gives, as six bits. -/
def emitV (b l : Nat) : List Nat := if l < 6 then [] else if l < 12 then [b / 2 ^ (l - 6) % 64] else [b / 2 ^ (l - 6) % 64, b / 2 ^ (l - 12) % 64]
theorem emitV_map (b l : Nat) : (emitV b l).map sgn = emitN b l := by
  unfold emitV emitN
  split
  · rfl
  · split <;> rfl
theorem emitV_lt (b l : Nat) : ∀ v ∈ emitV b l, v < 64 := by
  unfold emitV
  intro v hv
  split at hv
  · cases hv
  · split at hv
    · rw [List.mem_singleton.1 hv]; exact Nat.mod_lt _ (by decide)
    · rcases List.mem_cons.1 hv with rfl | hv
      · exact Nat.mod_lt _ (by decide)
      · rw [List.mem_singleton.1 hv]; exact Nat.mod_lt _ (by decide)
/-- Base 64 writes: the six bits and what is left are the bytes' number. -/
theorem goB_num : ∀ (xs done : List UInt8) (vs : List Nat) (b l : Nat), l < 6 → l % 2 = 0 → b < 4294967296 → num256 done = num64 vs * 2 ^ l + b % 2 ^ l → done.length * 8 = vs.length * 6 + l → (∀ v ∈ vs, v < 64) →
    ∃ us : List Nat, (goB xs b l).1 = us.map sgn ∧ (∀ v ∈ us, v < 64) ∧ num256 (done ++ xs) = num64 (vs ++ us) * 2 ^ (goB xs b l).2.2 + (goB xs b l).2.1 % 2 ^ (goB xs b l).2.2 ∧ (done.length + xs.length) * 8 = (vs.length + us.length) * 6 + (goB xs b l).2.2 ∧ (goB xs b l).2.2 < 6
  | [], done, vs, b, l, hl, _, _, hn, hd, _ => ⟨[], rfl, by simp, by simpa [goB] using hn, by simpa [goB] using hd, hl⟩
  | x :: xs, done, vs, b, l, hl, he, hb, hn, hd, hv => by
    obtain ⟨b1, hb1⟩ : ∃ u, b * 256 % 4294967296 + x.toNat = u := ⟨_, rfl⟩
    have hx := x.toNat_lt
    have hb1lt : b1 < 4294967296 := by omega
    have key : num256 (done ++ [x]) = num64 (vs ++ emitV b1 (l + 8)) * 2 ^ ((l + 8) % 6) + b1 % 2 ^ ((l + 8) % 6) ∧ (done ++ [x]).length * 8 = (vs ++ emitV b1 (l + 8)).length * 6 + (l + 8) % 6 := by
      rw [num256_snoc, hn]
      rcases (by omega : l = 0 ∨ l = 2 ∨ l = 4) with rfl | rfl | rfl
      · have e : emitV b1 8 = [b1 / 4 % 64] := rfl
        rw [show 0 + 8 = 8 from rfl, e, num64_snoc, List.length_append, List.length_append]
        simp only [List.length_singleton]
        refine ⟨?_, by omega⟩
        show (num64 vs * 1 + b % 1) * 256 + x.toNat = (num64 vs * 64 + b1 / 4 % 64) * 4 + b1 % 4
        omega
      · have e : emitV b1 10 = [b1 / 16 % 64] := rfl
        rw [show 2 + 8 = 10 from rfl, e, num64_snoc, List.length_append, List.length_append]
        simp only [List.length_singleton]
        refine ⟨?_, by omega⟩
        show (num64 vs * 4 + b % 4) * 256 + x.toNat = (num64 vs * 64 + b1 / 16 % 64) * 16 + b1 % 16
        omega
      · have e : emitV b1 12 = [b1 / 64 % 64] ++ [b1 / 1 % 64] := rfl
        rw [show 4 + 8 = 12 from rfl, e, ← List.append_assoc, num64_snoc, num64_snoc, List.length_append, List.length_append, List.length_append]
        simp only [List.length_singleton]
        refine ⟨?_, by omega⟩
        show (num64 vs * 16 + b % 16) * 256 + x.toNat = ((num64 vs * 64 + b1 / 64 % 64) * 64 + b1 / 1 % 64) * 1 + b1 % 1
        omega
    obtain ⟨us, h1, h2, h3, h4, h5⟩ := goB_num xs (done ++ [x]) (vs ++ emitV b1 (l + 8)) b1 ((l + 8) % 6) (Nat.mod_lt _ (by decide)) (by omega) hb1lt key.1 key.2 (fun v hv2 => by
      rcases List.mem_append.1 hv2 with h | h
      · exact hv v h
      · exact emitV_lt _ _ v h)
    refine ⟨emitV b1 (l + 8) ++ us, ?_, ?_, ?_, ?_, ?_⟩
    · simp only [goB, hb1, h1, List.map_append, emitV_map]
    · intro v hv2
      rcases List.mem_append.1 hv2 with h | h
      · exact emitV_lt _ _ v h
      · exact h2 v h
    · simp only [goB, hb1]
      rw [← List.append_assoc, ← h3, List.append_assoc]
      rfl
    · simp only [goB, hb1]
      simp only [List.length_append, List.length_cons, List.length_nil] at h4 ⊢
      omega
    · simp only [goB, hb1]
      exact h5
end Go.Proofs.YtakmifnageepbaaDoor
