/-
  Values as bytes: Encode.
  An argument that is a value of the codec; the tables that the rows list.
  An argument that is a slice of values of the codec.
  A slice of bytes made with room.
  Base 64: the call.
  Codec: awake.
  Which values there are: the document's Form.
  Regions that draw their order, in which an operation may end the function (a call that panics).
-/
import Derived.IntWalk
import Derived.Deep.Cut
import Derived.Deep.CutRange
import Derived.Deep.Slices
import Derived.OpenShut
import Derived.Lib.LaidU8T
import Derived.PinnedBridge
import Derived.Lay
import Derived.Test.YtpdikmcaihlbaaaDoorPkCdE30
import Derived.Test.YtpdikmcaihlbaaaDoorPkCdE31
set_option linter.unusedVariables false
set_option linter.unusedSimpArgs false

namespace Go.Proofs.YtpdikmcaihlbaaaDoor
open Go.RowKit

/-- A value: kind, number, text. -/
abbrev Vl := Int × Int × ByteArray
def vOk (x : Vl) : Bool := if x.1 = 0 then decide (x.2.1 = 0 ∧ x.2.2 = noS) else if x.1 = 1 then decide (x.2.2 = noS) else if x.1 = 2 then decide (x.2.1 = 0 ∧ x.2.2.size ≤ 60 ∧ okT x.2.2 = true) else if x.1 = 3 then decide ((x.2.1 = 0 ∨ x.2.1 = 1) ∧ x.2.2 = noS) else false
def rowV (x : Vl) : List UInt8 := if x.1 = 1 then 1 :: ord64 x.2.1 else if x.1 = 2 then 2 :: b8 (x.2.2.size : Int) :: x.2.2.data.toList else if x.1 = 3 then [3, if (x.2.1 == 1) = true then 1 else 0] else [0]
structure VlIn (x : Vl) : Prop where
  k : 0 ≤ x.1 ∧ x.1 < 256
  n : -9223372036854775808 ≤ x.2.1 ∧ x.2.1 < 9223372036854775808
  s : x.2.2.size ≤ 9223372036854775807
theorem meant_no (x : Vl) (h : vOk x = false) : meantV x.1 x.2.1 x.2.2 (okT x.2.2) = .nilIface := by
  unfold vOk at h
  unfold meantV
  split at h
  · rename_i h0; rw [if_pos h0, if_neg (of_decide_eq_false h)]
  · rename_i h0; rw [if_neg h0]
    split at h
    · rename_i h1; rw [if_pos h1, if_neg (of_decide_eq_false h)]
    · rename_i h1; rw [if_neg h1]
      split at h
      · rename_i h2; rw [if_pos h2, if_neg (of_decide_eq_false h)]
      · rename_i h2; rw [if_neg h2]
        split at h
        · rename_i h3; rw [if_pos h3, if_neg (of_decide_eq_false h)]
        · rename_i h3; rw [if_neg h3]
theorem meant_yes (x : Vl) (hb : VlIn x) (h : vOk x = true) : ∃ t v, meantV x.1 x.2.1 x.2.2 (okT x.2.2) = .iface t v ∧ (rowV x).length ≤ 62 ∧ ∀ W, Calls Tryd.prog 30 #[.iface t v] W (Ret W (Bytes (rowV x))) := by
  obtain ⟨k, n, s⟩ := x
  unfold vOk at h
  unfold meantV
  split at h
  · rename_i h0
    simp only at h0 h
    subst h0
    have h := of_decide_eq_true h
    exact ⟨_, _, by rw [if_pos rfl, if_pos h], show (1 : Nat) ≤ 62 by decide, fun W => row_null W⟩
  · rename_i h0
    simp only at h0
    rw [if_neg h0]
    split at h
    · rename_i h1
      simp only at h1 h
      subst h1
      have h := of_decide_eq_true h
      exact ⟨_, _, by rw [if_pos rfl, if_pos h], show (9 : Nat) ≤ 62 by decide, fun W => row_int n W hb.n.1 hb.n.2⟩
    · rename_i h1
      simp only at h1
      rw [if_neg h1]
      split at h
      · rename_i h2
        simp only at h2 h
        subst h2
        have h := of_decide_eq_true h
        refine ⟨_, _, by rw [if_pos rfl, if_pos h], ?_, fun W => row_text s W h.2.1⟩
        have := size_list s
        have := h.2.1
        simp only [rowV, if_neg (show ¬ (2 : Int) = 1 by decide), if_pos, List.length_cons]
        omega
      · rename_i h2
        simp only at h2
        rw [if_neg h2]
        split at h
        · rename_i h3
          simp only at h3 h
          subst h3
          have h := of_decide_eq_true h
          refine ⟨_, _, by rw [if_pos rfl, if_pos h], ?_, fun W => row_bool _ W⟩
          simp [rowV]
        · cases h
/-- The slice at A reads as these values. -/
def RdV (w : World) (A : Option Addr) (L : List Vl) : Prop :=
  L ≠ [] → ∃ b off, A = some ⟨b, off, none⟩ ∧ ∀ j x, L[j]? = some x → w.cell? ⟨b, off + j * 3, none⟩ = some (.int .u8 x.1) ∧ w.cell? ⟨b, off + j * 3 + 1, none⟩ = some (.int .i64 x.2.1) ∧ w.cell? ⟨b, off + j * 3 + 2, none⟩ = some (.string x.2.2)
theorem RdV.ext {w w' : World} {A : Option Addr} {L : List Vl} (h : RdV w A L) (hx : Ext w w') : RdV w' A L := fun hn => by
  obtain ⟨b, off, hA, hc⟩ := h hn
  exact ⟨b, off, hA, fun j d hj => ⟨hx.keeps.cell (hc j d hj).1, hx.keeps.cell (hc j d hj).2.1, hx.keeps.cell (hc j d hj).2.2⟩⟩
def rowsV (L : List Vl) : List UInt8 := L.flatMap rowV
theorem worldOf {w W : World} (_ : Hid (Ext w W)) : ∃ wr, wr = W := ⟨W, rfl⟩
/-- What Encode tells: the bytes, or the error's number. -/
def encT (L : List Vl) : Int × Option (List UInt8) := if 12 < L.length then (2, none) else if L.all vOk = true then (0, some (b8 (L.length : Int) :: rowsV L)) else (3, none)
def EncP (w : World) (x : Int × Option (List UInt8)) (e : Ending) (w' : World) : Prop := Ext w w' ∧ match x.2 with
  | none => e = .returned (.tuple #[.slice none 0 0, .int .i64 x.1])
  | some l => ∃ v, e = .returned (.tuple #[v, .int .i64 0]) ∧ Own w' w.heap.size v l
theorem rowsV_len : ∀ L : List Vl, L.all vOk = true → (∀ x ∈ L, VlIn x) → (rowsV L).length ≤ 62 * L.length
  | [], _, _ => Nat.le_refl _
  | x :: L, h, hb => by
    simp only [List.all_cons, Bool.and_eq_true] at h
    obtain ⟨_, _, _, h1, _⟩ := meant_yes x (hb x (List.mem_cons_self ..)) h.1
    have ih := rowsV_len L h.2 (fun y hy => hb y (List.mem_cons_of_mem _ hy))
    have e : rowsV (x :: L) = rowV x ++ rowsV L := rfl
    rw [e, List.length_append, List.length_cons]
    omega
set_option maxRecDepth 20000 in
set_option maxHeartbeats 3200000 in
theorem encode_any (A : Option Addr) (L : List Vl) (n c : Nat) (w : World) (hr : RdV w A L) (hn : L.length = n) (hnc : n ≤ c) (hl : n ≤ 140737488355328) (hb : ∀ x ∈ L, VlIn x) (ht : Tabs w) :
    Calls Tryd.prog 14 #[.slice A n c] w (EncP w (encT L)) := by
  by_cases h12 : 12 < n
  · have hi : (12 : Int) < (n : Int) := by omega
    have HE : Hid (encT L = (2, none)) := hide (by unfold encT; rw [if_pos (by omega)])
    clear hr hn hb ht
    go_enter Tryd.func14, Tryd.ntmps14
    go_wp2
    go_ret2
    rw [HE.out]
    exact ⟨Ext.refl _, rfl⟩
  · have hi : ¬ (12 : Int) < (n : Int) := by omega
    have hnI : (n : Int) ≤ 12 := by omega
    have HR := hide hr
    have HN := hide hn
    have HB := hide hb
    have HT := hide ht
    have hwn : IntKind.u8.wrap (n : Int) = (n : Int) := by rw [IntKind.wrap_u8]; omega
    clear hr hn hb ht
    go_enter Tryd.func14, Tryd.ntmps14
    go_upto_region 5 with fail
    have hown0 := own_one w w.heap.size (Nat.le_refl _) (n : Int) (by omega) (by omega)
    go_loopw [4, 6, 7, 17] (fun ov _ _ iv wr => ∃ i : Nat, i ≤ n ∧ iv = .int .i64 (i : Int) ∧ Hid ((L.take i).all vOk = true) ∧ Hid (Own wr w.heap.size ov (b8 (n : Int) :: rowsV (L.take i))) ∧ Hid (Ext w wr)) (fun _ _ _ iv _ => n - (intOf iv).toNat)
    case atStart => exact ⟨0, Nat.zero_le _, rfl, hide rfl, hide hown0, hide (Ext.alloc _ _)⟩
    case round =>
      obtain ⟨i, hi, rfl, HA, HO, HX⟩ := hrel
      by_cases hlt : i < n
      · have hii : (i : Int) < (n : Int) := by omega
        obtain ⟨x, hx⟩ : ∃ x, L[i]? = some x := ⟨_, List.getElem?_eq_getElem (by rw [HN.out]; exact hlt)⟩
        obtain ⟨b, off, hA, hc⟩ := HR.out (by intro h; rw [h] at hx; cases hx)
        subst hA
        obtain ⟨wr, HWR⟩ := worldOf HX
        subst HWR
        have c0 := HX.out.keeps.cell (hc i x hx).1
        have c1 := HX.out.keeps.cell (hc i x hx).2.1
        have c2 := HX.out.keeps.cell (hc i x hx).2.2
        clear hc
        have HXX := hide hx
        have VI := HB.out x (List.mem_of_getElem? hx)
        go_upto_region 7 with fail
        have KM := hide (meant_any x.1 x.2.1 x.2.2 (wr.alloc (.cells #[.int .u8 x.1, .int .i64 x.2.1, .string x.2.2] 26)) VI.s (HT.out.ext (HX.out.trans (Ext.alloc _ _))))
        have B0 := Rw.new wr 26 [.int .u8 x.1, .int .i64 x.2.1, .string x.2.2]
        have d0 := B0.cell (i := 0) rfl
        have d1 := B0.cell (i := 1) rfl
        have d2 := B0.cell (i := 2) rfl
        have hbd : (rowsV (L.take i)).length ≤ 62 * 12 := Nat.le_trans (rowsV_len _ HA.out (fun y hy => HB.out y (List.mem_of_mem_take hy))) (Nat.mul_le_mul_left 62 (by rw [List.length_take]; omega))
        cases hv : vOk x with
        | false =>
          rw [meant_no x hv] at KM
          have HE : Hid (encT L = (3, none)) := hide (by
            unfold encT
            rw [if_neg (by rw [HN.out]; exact h12), if_neg]
            intro hall
            rw [List.all_eq_true] at hall
            rw [hall x (List.mem_of_getElem? HXX.out)] at hv
            cases hv)
          go_wp2_with (go_at_call 28; (with_reducible refine KM.out.mono ?_); rintro e w1 ⟨rfl, hx1⟩; have X1 := hide ((HX.out.trans (Ext.alloc _ _)).trans hx1))
          go_ret2
          rw [HE.out]
          exact ⟨X1.out, rfl⟩
        | true =>
          obtain ⟨t, v, hm, hlen, KR⟩ := meant_yes x VI hv
          rw [hm] at KM
          go_upto_region 11 with (first
            | (go_at_call 28; (with_reducible refine KM.out.mono ?_); rintro e w1 ⟨rfl, hx1⟩; have X1 := hide ((HX.out.trans (Ext.alloc _ _)).trans hx1); have O1 := hide (HO.out.ext ((Ext.alloc _ _).trans hx1)))
            | (go_at_call 30; (with_reducible refine (KR _).mono ?_); rintro e w2 ⟨v2, rfl, hx2, A2, cc2, hv2, hc2, hr2⟩; subst hv2; have X2 := hide (X1.out.trans hx2); have O2 := hide (O1.out.ext hx2))
            | (at_builtin; refine wpList_cat (by rfl) (.tmp 25) (.tmp 27) rfl w.heap.size _ _ (rowV x) A2 _ cc2 rfl rfl rfl O2.out hr2 X2.out.size (by simp only [List.length_cons]; omega) ?_; intro v3 w3 ho3 hb3; have X3 := hide (X2.out.below (Nat.le_refl _) hb3)))
          have hcat : (b8 (n : Int) :: rowsV (L.take i)) ++ rowV x = b8 (n : Int) :: rowsV (L.take (i + 1)) := by
            rw [List.take_add_one, HXX.out]
            simp [rowsV]
          rw [hcat] at ho3
          have HA' : Hid ((L.take (i + 1)).all vOk = true) := hide (by
            rw [List.take_add_one, HXX.out]
            simp [HA.out, hv])
          go_wp2
          exact ⟨⟨i + 1, by omega, by go_num, HA', hide ho3, X3⟩, by simp [intOf]; omega⟩
      · obtain rfl : i = n := by omega
        have hii : ¬ (i : Int) < (i : Int) := by omega
        have HE : Hid (encT L = (0, some (b8 (i : Int) :: rowsV L))) := hide (by
          have hall := HA.out
          rw [List.take_of_length_le (by rw [HN.out]; exact Nat.le_refl _)] at hall
          unfold encT
          rw [if_neg (by rw [HN.out]; exact h12), if_pos hall, HN.out])
        go_wp2
        go_ret2
        rw [HE.out]
        have ho := HO.out
        rw [List.take_of_length_le (by rw [HN.out]; exact Nat.le_refl _)] at ho
        exact ⟨HX.out, _, rfl, ho⟩
end Go.Proofs.YtpdikmcaihlbaaaDoor
namespace Go.Proofs.YtpdikmcaihlbaaaDoor
open Go.ChangeShapes Go.WideShapes Go.ChangeAt Go.RowKit

section
variable {H : Type} {enc : TypeId × Value → H} {W : World}
set_option maxRecDepth 100000 in
/-- An argument that is a value. -/
theorem open_value {base : Nat} {v : Value} {d : DataW H} {ps : List MemPlace} (hval : Value.okWide Tryd.prog W .any base 26 v)
    (h : DataW.Trod enc Tryd.prog W 0 (fun _ => true) true 26 v d ps) :
    ∃ (k n : Int) (s : ByteArray), v = .agg #[.int .u8 k, .int .i64 n, .string s] ∧ VlIn (k, n, s) := by
  obtain ⟨cs, rfl, hsz⟩ := okWide_struct Tryd.underlying26 hval
  obtain ⟨fuel, hf⟩ := h
  obtain ⟨xs, m, _, hxx, hl, hxl, hall⟩ := DataW.trod_struct Tryd.underlying26 hf
  obtain ⟨l⟩ := cs
  have hcl : l.length = 3 := hsz.trans (by kernel_rfl)
  match l, hcl with
  | [v0, v1, v2], _ =>
    have hx2 : xs.length = 3 := hxl
    match xs, hx2 with
    | [y0, y1, y2], _ =>
      have e0 : DataW.trod enc Tryd.prog W 0 (fun _ => true) true m 5 [v0] = some y0 := hall 0 _ rfl
      have e1 : DataW.trod enc Tryd.prog W 0 (fun _ => true) true m 2 [v1] = some y1 := hall 1 _ rfl
      have e2 : DataW.trod enc Tryd.prog W 0 (fun _ => true) true m 9 [v2] = some y2 := hall 2 _ rfl
      obtain ⟨k, h0, _, w0⟩ := DataW.trod_int Tryd.underlying5 e0
      obtain ⟨n, h1, _, w1⟩ := DataW.trod_int Tryd.underlying2 e1
      obtain ⟨s, h2, _, w2⟩ := DataW.trod_string Tryd.underlying9 e2
      injection h0 with h0
      injection h1 with h1
      injection h2 with h2
      subst h0 h1 h2
      have b0 := bounds_u8 w0
      have b1 := bounds_i64 w1
      unfold maxLen at w2
      exact ⟨k, n, s, rfl, ⟨⟨b0.1, by have := b0.2; simp only; omega⟩, ⟨b1.1, by have := b1.2; simp only; omega⟩, w2⟩⟩
end
theorem tabs_of_laid {W : World} (h : laidMetH Tryd.prog [("unicode/utf8.acceptRanges", Rows.laid_unicode_utf8_acceptRanges), ("unicode/utf8.first", Rows.laid_unicode_utf8_first)] W) : Tabs W := by
  rw [MakeChecks.laidMetH_plain _ _ _ (by kernel_rfl)] at h
  have h3 := Lib.laidMet.reads h (.tail _ (.head _))
  have h4 := Lib.laidMet.reads h (.head _)
  rw [show Rows.laid_unicode_utf8_first = Lib.firstData from Pinned.utf8First_eq] at h3
  rw [show (Rows.laid_unicode_utf8_acceptRanges : DataW Unit) = Lib.acceptData by kernel_rfl] at h4
  exact utf8Tabs_of_readsT (U8Types.of196 Tryd.lays196) ⟨by kernel_rfl, by kernel_rfl, by kernel_rfl, by kernel_rfl, by kernel_rfl, by kernel_rfl, by kernel_rfl⟩ h3 h4
/-- A world for the witness: the tables hold what the text lays. -/
noncomputable def laidWorld (os : Os) : World := World.laidAll Tryd.prog os [("unicode/utf8.acceptRanges", Rows.laid_unicode_utf8_acceptRanges), ("unicode/utf8.first", Rows.laid_unicode_utf8_first)]
theorem laidWorld_os (os : Os) : (laidWorld os).os = os := World.laidAll_os _ _ _
theorem laidWorld_met (os : Os) (args : Array Value) : laidMet Tryd.prog [("unicode/utf8.acceptRanges", Rows.laid_unicode_utf8_acceptRanges), ("unicode/utf8.first", Rows.laid_unicode_utf8_first)] ((laidWorld os).forCall (fun _ _ => 0) ⟨#[], args, []⟩).memory :=
  laidMet_laidAll args (by kernel_rfl) (by kernel_rfl)
end Go.Proofs.YtpdikmcaihlbaaaDoor
namespace Go.Proofs.YtpdikmcaihlbaaaDoor
open Go.ChangeShapes Go.WideShapes Go.ChangeAt Go.RowKit

section
variable {H : Type} {enc : TypeId × Value → H} {W : World}
set_option maxRecDepth 100000 in
theorem value_open {n : Nat} {cs : List Value} {y : DataW H × List MemPlace} (h : DataW.trod enc Tryd.prog W 0 (fun _ => true) true n 26 cs = some y) :
    ∃ x : Vl, cs = [.int .u8 x.1, .int .i64 x.2.1, .string x.2.2] ∧ VlIn x := by
  obtain ⟨xs, m, rfl, rfl, hl, hxl, hall⟩ := DataW.trod_struct Tryd.underlying26 h
  have hcl : cs.length = 3 := hl.trans (by kernel_rfl)
  match cs, hcl with
  | [v0, v1, v2], _ =>
    have hx2 : xs.length = 3 := hxl
    match xs, hx2 with
    | [y0, y1, y2], _ =>
      have e0 : DataW.trod enc Tryd.prog W 0 (fun _ => true) true m 5 [v0] = some y0 := hall 0 _ rfl
      have e1 : DataW.trod enc Tryd.prog W 0 (fun _ => true) true m 2 [v1] = some y1 := hall 1 _ rfl
      have e2 : DataW.trod enc Tryd.prog W 0 (fun _ => true) true m 9 [v2] = some y2 := hall 2 _ rfl
      obtain ⟨k, h0, _, w0⟩ := DataW.trod_int Tryd.underlying5 e0
      obtain ⟨n, h1, _, w1⟩ := DataW.trod_int Tryd.underlying2 e1
      obtain ⟨s, h2, _, w2⟩ := DataW.trod_string Tryd.underlying9 e2
      injection h0 with h0
      injection h1 with h1
      injection h2 with h2
      subst h0 h1 h2
      have b0 := bounds_u8 w0
      have b1 := bounds_i64 w1
      unfold maxLen at w2
      exact ⟨(k, n, s), rfl, ⟨⟨b0.1, by have := b0.2; simp only; omega⟩, ⟨b1.1, by have := b1.2; simp only; omega⟩, w2⟩⟩
/-- What a slice of values reads as. -/
def ValsD (d : DataW H) (L : List Vl) : Prop := (d = .nil ∧ L = []) ∨ ∃ elems spare, d = .slice elems spare ∧ elems.length = L.length
set_option maxRecDepth 100000 in
theorem values_open {n : Nat} {cs : List Value} {y : DataW H × List MemPlace} (hn : DataW.trod enc Tryd.prog W 0 (fun _ => true) true n 22 cs = some y) :
    ∃ A c L, cs = [.slice A L.length c] ∧ L.length ≤ c ∧ RdV W A L ∧ (∀ x ∈ L, VlIn x) ∧ ValsD y.1 L := by
  rcases Deep.open_slice Tryd.underlying22 hn with ⟨hc, rfl⟩ | ⟨a, len, cap, m, n', D, Pl, hc, _, hlc, _, hm, rfl, hx⟩
  · exact ⟨none, 0, [], hc, Nat.le_refl _, fun h => absurd rfl h, fun _ h => (List.not_mem_nil h).elim, .inl ⟨rfl, rfl⟩⟩
  · simp only [if_true] at hm
    subst hm
    have hce : Tryd.prog.cellsOf 26 = 3 := by kernel_rfl
    rw [hce] at hx
    have each : ∀ i, i < m → ∃ x : Vl, (W.cell? (a.add (i * 3)) = some (.int .u8 x.1) ∧ W.cell? ((a.add (i * 3)).add 1) = some (.int .i64 x.2.1) ∧ W.cell? ((a.add (i * 3)).add 2) = some (.string x.2.2)) ∧ VlIn x := fun i hi => by
      obtain ⟨cs', h1, h2⟩ := hx i hi
      obtain ⟨x, rfl, hb⟩ := value_open h2
      obtain ⟨_, _, hcc⟩ := World.cells?_some h1
      have q0 := hcc 0 (by decide)
      have q1 := hcc 1 (by decide)
      have q2 := hcc 2 (by decide)
      refine ⟨x, ⟨?_, q1, q2⟩, hb⟩
      have e0 : (a.add (i * 3)).add 0 = a.add (i * 3) := by unfold Addr.add; simp
      rw [e0] at q0
      exact q0
    obtain ⟨X, hX⟩ := Deep.choose_lt each
    have hlen : ((List.range len).map X).length = len := by simp
    refine ⟨some a, m, (List.range len).map X, by rw [hlen]; exact hc, by rw [hlen]; exact hlc, fun hn0 => ?_, fun x hx => ?_, .inr ⟨_, _, rfl, by simp⟩⟩
    · have hp : 0 < len := by
        rcases Nat.eq_zero_or_pos len with h | h
        · exfalso; apply hn0; rw [h]; rfl
        · exact h
      obtain ⟨b, off, spot⟩ := a
      have hspot : spot = none := by
        obtain ⟨⟨g1, _⟩, _⟩ := hX 0 (by omega)
        simpa [Addr.add] using World.cell?_spot g1
      subst hspot
      refine ⟨b, off, rfl, fun j x hj => ?_⟩
      have hjl := (List.getElem?_eq_some_iff.1 hj).1
      rw [hlen] at hjl
      rw [List.getElem?_map, List.getElem?_range hjl] at hj
      have hj2 : X j = x := by simpa using hj
      obtain ⟨⟨g1, g2, g3⟩, _⟩ := hX j (by omega)
      rw [hj2] at g1 g2 g3
      rw [add_flat] at g1 g2 g3
      rw [add_flat] at g2 g3
      exact ⟨g1, g2, g3⟩
    · obtain ⟨i, hi, rfl⟩ := List.mem_map.1 hx
      exact (hX i (by have := List.mem_range.1 hi; omega)).2
/-- An argument that is a slice of values. -/
theorem open_values {base : Nat} {v : Value} {d : DataW H} {ps : List MemPlace} (hval : Value.okWide Tryd.prog W .any base 22 v)
    (h : DataW.Trod enc Tryd.prog W 0 (fun _ => true) true 22 v d ps) : ∃ A c L, v = .slice A L.length c ∧ L.length ≤ c ∧ RdV W A L ∧ (∀ x ∈ L, VlIn x) ∧ ValsD d L := by
  obtain ⟨a0, len, cap, rfl⟩ := okWide_slice Tryd.underlying22 hval
  obtain ⟨n, hn⟩ := h
  obtain ⟨A, c, L, hc, h1, h2, h3, h4⟩ := values_open hn
  injection hc with hc
  exact ⟨A, c, L, hc, h1, h2, h3, h4⟩
theorem arg_small {P : Program} {ts : List TypeId} {ds : List (DataW H)} {j : Nat} {t : TypeId} {d : DataW H} (hz : (DataW.weightsEach P ts ds).all (· ≤ reachBytes) = true) (ht : ts[j]? = some t) (hd : ds[j]? = some d) : ∀ n ∈ d.weights P t, n ≤ reachBytes := fun n hn => by
  have := List.all_eq_true.1 hz _ (DataW.weights_mem_each ht hd n hn)
  simpa using this
theorem vals_many {d : DataW H} {L : List Vl} (h : ValsD d L) (hw : ∀ n ∈ d.weights Tryd.prog 22, n ≤ reachBytes) : L.length ≤ 4398046511104 := by
  rcases h with ⟨_, rfl⟩ | ⟨elems, spare, rfl, hl⟩
  · exact Nat.zero_le _
  · have h1 := hw ((elems.length + spare.length) * Tryd.prog.bytesOf 26) (by simp [DataW.weights, Tryd.underlying22])
    have e : Tryd.prog.bytesOf 26 = 32 := by kernel_rfl
    rw [e] at h1
    unfold reachBytes at h1
    omega
end
end Go.Proofs.YtpdikmcaihlbaaaDoor
namespace Go.Proofs.YtpdikmcaihlbaaaDoor
open Go.RowKit

theorem run_make_room (c : Nat) (hc : c ≤ 281474976710656) (W : World) : (Instr.makeSlice 27 (.int .i64 0) (.int .i64 (c : Int))).run Tryd.prog W =
    .ok (.slice (some ⟨W.heap.size, 0, none⟩) 0 c) (W.alloc (.cells (madeCells #[.int .u8 0] c) 5)) := by
  obtain ⟨i0, hi, hz0, hz1, hz2⟩ := info_parts info_u8
  have h := run_make (P := Tryd.prog) W 27 5 i0 (.int .u8 0) Tryd.underlying27 hi hz0 .i64 .i64 0 (c : Int) (by omega) (by omega) (by rw [hz2]; omega) (by omega)
  simpa [hz1, Value.cells] using h
theorem Own.room (W : World) (base c : Nat) (hb : base ≤ W.heap.size) (hc : c ≤ 281474976710656) : Own (W.alloc (.cells (madeCells #[.int .u8 0] c) 5)) base (.slice (some ⟨W.heap.size, 0, none⟩) 0 c) [] :=
  World.ownsRow_made W _ c hb (by unfold maxLen; omega) (by simp [madeCells])
end Go.Proofs.YtpdikmcaihlbaaaDoor
namespace Go.Proofs.YtpdikmcaihlbaaaDoor
open Go.RowKit

def alph : ByteArray := ⟨#[65, 66, 67, 68, 69, 70, 71, 72, 73, 74, 75, 76, 77, 78, 79, 80, 81, 82, 83, 84, 85, 86, 87, 88, 89, 90, 97, 98, 99, 100, 101, 102, 103, 104, 105, 106, 107, 108, 109, 110, 111, 112, 113, 114, 115, 116, 117, 118, 119, 120, 121, 122, 48, 49, 50, 51, 52, 53, 54, 55, 56, 57, 45, 95]⟩
/-- The sign of six bits. -/
def sgn (v : Nat) : UInt8 := alph.data.toList.getD v 0
theorem u8i (x : UInt8) : (x.toNat : Int) < 256 := by have := x.toNat_lt; omega
theorem u8z (x : UInt8) : (0 : Int) ≤ (x.toNat : Int) := Int.natCast_nonneg _
theorem sgn_at (v : Nat) (h : v < alph.size) : b8 (((alph[v]'h).toNat : Nat) : Int) = sgn v := by
  rw [b8_byte]
  unfold sgn
  rw [List.getD_eq_getElem?_getD, Array.getElem?_toList, Array.getElem?_eq_getElem (by exact h)]
  rfl
/-- The signs that so many bits give. -/
def emitN (b l : Nat) : List UInt8 := if l < 6 then [] else if l < 12 then [sgn (b / 2 ^ (l - 6) % 64)] else [sgn (b / 2 ^ (l - 6) % 64), sgn (b / 2 ^ (l - 12) % 64)]
theorem emitN_step (b l : Nat) (h : l + 6 < 14) : emitN b (l + 6) = sgn (b / 2 ^ l % 64) :: emitN b l := by
  unfold emitN
  rw [if_neg (by omega)]
  by_cases h6 : l < 6
  · rw [if_pos (by omega), if_pos h6, Nat.add_sub_cancel]
  · rw [if_neg (by omega), if_neg h6, if_pos (by omega), Nat.add_sub_cancel, show l + 6 - 12 = l - 6 by omega]
theorem emitN_none (b l : Nat) (h : l < 6) : emitN b l = [] := by unfold emitN; rw [if_pos h]
/-- What Base does with some bytes, with the bits that are left: the signs, the bits, how many are left. -/
def goB : List UInt8 → Nat → Nat → List UInt8 × Nat × Nat
  | [], b, l => ([], b, l)
  | x :: xs, b, l => (emitN (b * 256 % 4294967296 + x.toNat) (l + 8) ++ (goB xs (b * 256 % 4294967296 + x.toNat) ((l + 8) % 6)).1, (goB xs (b * 256 % 4294967296 + x.toNat) ((l + 8) % 6)).2)
/-- Base 64, as the call makes it. -/
def baseB (l : List UInt8) : List UInt8 := (goB l 0 0).1 ++ if 0 < (goB l 0 0).2.2 then [sgn ((goB l 0 0).2.1 * 2 ^ (6 - (goB l 0 0).2.2) % 64)] else []
theorem emitN_len (b l : Nat) (h : l < 14) : (emitN b l).length = l / 6 := by
  unfold emitN
  split
  · rename_i h1; rw [Nat.div_eq_of_lt h1]; rfl
  · split
    · show 1 = _; omega
    · show 2 = _; omega
theorem goB_len : ∀ (xs : List UInt8) (b l : Nat), l < 6 → (goB xs b l).1.length * 6 + (goB xs b l).2.2 = xs.length * 8 + l ∧ (goB xs b l).2.2 < 6
  | [], b, l, h => ⟨by simp [goB], h⟩
  | x :: xs, b, l, h => by
    have ih := goB_len xs (b * 256 % 4294967296 + x.toNat) ((l + 8) % 6) (Nat.mod_lt _ (by decide))
    refine ⟨?_, ih.2⟩
    have e := emitN_len (b * 256 % 4294967296 + x.toNat) (l + 8) (by omega)
    simp only [goB, List.length_append, List.length_cons, e]
    have := ih.1
    omega
theorem and_63 (b : Nat) (h : b < 4294967296) : bits .and .u32 (b : Int) 63 = ((b % 64 : Nat) : Int) := by
  show IntKind.u32.wrap ((BitVec.ofInt 32 ((b : Nat) : Int) &&& BitVec.ofInt 32 ((63 : Nat) : Int)).toNat : Int) = _
  rw [BitVec.toNat_and, BitVec.ofInt_natCast, BitVec.ofInt_natCast, BitVec.toNat_ofNat, BitVec.toNat_ofNat, Nat.mod_eq_of_lt (show b < 2 ^ 32 by omega), Nat.mod_eq_of_lt (show 63 < 2 ^ 32 by omega),
    show (63 : Nat) = 2 ^ 6 - 1 from rfl, Nat.and_two_pow_sub_one_eq_mod, IntKind.wrap_u32]
  omega
theorem or_u8 (b x : Nat) (hx : x < 256) : bits .or .u32 ((b : Int) * 256 % 4294967296) (x : Int) = ((b * 256 % 4294967296 + x : Nat) : Int) := by
  have e1 : (b : Int) * 256 % 4294967296 = (((b % 16777216) * 256 : Nat) : Int) := by omega
  have e2 : b * 256 % 4294967296 = (b % 16777216) * 256 := by omega
  rw [e1, e2]
  show IntKind.u32.wrap ((BitVec.ofInt 32 (((b % 16777216) * 256 : Nat) : Int) ||| BitVec.ofInt 32 ((x : Nat) : Int)).toNat : Int) = _
  rw [BitVec.toNat_or, BitVec.ofInt_natCast, BitVec.ofInt_natCast, BitVec.toNat_ofNat, BitVec.toNat_ofNat,
    Nat.mod_eq_of_lt (show (b % 16777216) * 256 < 2 ^ 32 by omega), Nat.mod_eq_of_lt (show x < 2 ^ 32 by omega), or_low _ _ hx, IntKind.wrap_u32]
  omega
set_option maxRecDepth 20000 in
set_option maxHeartbeats 3200000 in
theorem base_any (A : Option Addr) (l : List UInt8) (n c : Nat) (w : World) (hr : Rd w A l) (hn : l.length = n) (hnc : n ≤ c) (hl : n ≤ 1000000) :
    Calls Tryd.prog 24 #[.slice A n c] w (Ret w (Is (.string ⟨(baseB l).toArray⟩))) := by
  have HR := hide hr
  have HN := hide hn
  have hnI : (n : Int) ≤ 1000000 := by omega
  obtain ⟨m, HM⟩ : ∃ m : Nat, Hid (n / 3 = m) := ⟨_, hide rfl⟩
  have hm3 : (n : Int) / 3 = (m : Int) := by have := HM.out; omega
  have hmI : (m : Int) ≤ 400000 := by have := HM.out; omega
  have hmk := fun W => run_make_room (m * 4 + 3) (by omega) W
  rw [show ((m * 4 + 3 : Nat) : Int) = (m : Int) * 4 + 3 from by omega] at hmk
  obtain ⟨TA, TB, TL, HTT⟩ : ∃ TA TB TL, Hid (goB l 0 0 = (TA, TB, TL)) := ⟨_, _, _, hide rfl⟩
  have HTL : Hid (TA.length * 6 + TL = n * 8 ∧ TL < 6) := hide (by have h := goB_len l 0 0 (by decide); rw [HTT.out, hn] at h; exact h)
  have HBB : Hid (baseB l = TA ++ if 0 < TL then [sgn (TB * 2 ^ (6 - TL) % 64)] else []) := hide (by unfold baseB; rw [HTT.out])
  clear hr hn
  go_enter Tryd.func24, Tryd.ntmps24
  go_upto_region 4 with fail
  have hown0 := Own.room w w.heap.size (m * 4 + 3) (Nat.le_refl _) (by omega)
  go_loopw [3, 4, 5, 7, 16] (fun ov bv lv _ iv wr => ∃ (i bt lf : Nat) (acc : List UInt8), i ≤ n ∧ iv = .int .i64 (i : Int) ∧ bv = .int .u32 (bt : Int) ∧ bt < 4294967296 ∧ lv = .int .i64 (lf : Int) ∧ lf < 6 ∧ Hid (Ext w wr) ∧ Hid (Own wr w.heap.size ov acc) ∧ Hid (acc ++ (goB (l.drop i) bt lf).1 = TA ∧ (goB (l.drop i) bt lf).2 = (TB, TL))) (fun _ _ _ _ iv _ => n - (intOf iv).toNat)
  case atStart => exact ⟨0, 0, 0, [], Nat.zero_le _, rfl, rfl, by decide, rfl, by decide, hide (Ext.alloc _ _), hide hown0, hide (by rw [List.drop_zero, HTT.out]; exact ⟨rfl, rfl⟩)⟩
  case round =>
    obtain ⟨i, bt, lf, acc, hi, rfl, rfl, hbt, rfl, hlf, HX, HO, HG⟩ := hrel
    by_cases hlt : i < n
    · have hii : (i : Int) < (n : Int) := by omega
      obtain ⟨x, hx⟩ : ∃ x, l[i]? = some x := ⟨_, List.getElem?_eq_getElem (by rw [HN.out]; exact hlt)⟩
      obtain ⟨b, off, hA, hc⟩ := HR.out (by intro h; rw [h] at hx; cases hx)
      subst hA
      have c0 := HX.out.keeps.cell (hc i x hx)
      clear hc
      have hxl := x.toNat_lt
      have HDR : Hid (l.drop i = x :: l.drop (i + 1)) := hide (by
        have hlt' : i < l.length := by rw [HN.out]; exact hlt
        rw [List.drop_eq_getElem_cons hlt']
        rw [List.getElem?_eq_getElem hlt'] at hx
        injection hx with hx
        rw [hx])
      have hor := or_u8 bt x.toNat (by omega)
      obtain ⟨b1, HB1⟩ : ∃ u : Nat, Hid (bt * 256 % 4294967296 + x.toNat = u) := ⟨_, hide rfl⟩
      rw [HB1.out] at hor
      have hb1 : b1 < 4294967296 := by have := HB1.out; omega
      have HG1 : Hid (acc ++ (emitN b1 (lf + 8) ++ (goB (l.drop (i + 1)) b1 ((lf + 8) % 6)).1) = TA ∧ (goB (l.drop (i + 1)) b1 ((lf + 8) % 6)).2 = (TB, TL)) := hide (by
        have h := HG.out
        rw [HDR.out] at h
        simp only [goB, HB1.out] at h
        exact h)
      obtain ⟨wr, HWR⟩ := worldOf HX
      subst HWR
      have hli : (lf : Int) < 6 := by omega
      clear hx HG
      go_upto_region 8 with fail
      go_loopw [3, 5] (fun ov lv w2 => ∃ (l2 : Nat) (ac2 : List UInt8), lv = .int .i64 (l2 : Int) ∧ l2 < 14 ∧ l2 % 6 = (lf + 8) % 6 ∧ Hid (Ext w w2) ∧ Hid (Own w2 w.heap.size ov ac2) ∧ Hid (ac2 ++ emitN b1 l2 = acc ++ emitN b1 (lf + 8))) (fun _ lv _ => (intOf lv).toNat)
      case atStart => exact ⟨lf + 8, acc, by push_cast; rfl, by omega, rfl, HX, HO, hide rfl⟩
      case round =>
        obtain ⟨l2, ac2, rfl, hl2, hm2, HX2, HO2, HE2⟩ := hrel
        by_cases h6 : 6 ≤ l2
        · have h6i : (6 : Int) ≤ (l2 : Int) := by omega
          obtain ⟨l3, rfl⟩ : ∃ l3, l2 = l3 + 6 := ⟨l2 - 6, by omega⟩
          have h66 : ((l3 + 6 : Nat) : Int) - 6 = (l3 : Int) := by omega
          have hq : b1 / 2 ^ l3 < 4294967296 := Nat.lt_of_le_of_lt (Nat.div_le_self _ _) hb1
          have hand := and_63 (b1 / 2 ^ l3) hq
          obtain ⟨v, HV⟩ : ∃ v, Hid (b1 / 2 ^ l3 % 64 = v) := ⟨_, hide rfl⟩
          rw [HV.out] at hand
          have hdv : ((b1 / 2 ^ l3 : Nat) : Int) = (b1 : Int) / 2 ^ l3 := by rw [Int.natCast_ediv, Int.natCast_pow]; rfl
          rw [hdv] at hand
          have hv64 : v < 64 := by rw [← HV.out]; exact Nat.mod_lt _ (by decide)
          have hvs : v < alph.size := hv64
          have hlen : Hid (ac2.length ≤ 2000000) := hide (by
            have h1 := congrArg List.length HE2.out
            have h2 := congrArg List.length HG1.out.1
            have h3 := HTL.out.1
            simp only [List.length_append] at h1 h2
            omega)
          have hl3i : (l3 : Int) ≤ 13 := by omega
          go_wp2_with (at_builtin; go_loud (refine wpList_push (by rfl) (.tmp 31) (.tmp 37) rfl w.heap.size _ ac2 rfl rfl HO2.out (u8z _) (u8i _) HX2.out.size (by have := hlen.out; omega) ?_; intro v3 w3 ho3 hb3; have ho3 := (show b8 _ = sgn v from sgn_at v hvs) ▸ ho3; have X3 := hide (HX2.out.below (Nat.le_refl _) hb3)))
          refine ⟨⟨l3, ac2 ++ [sgn v], rfl, by omega, by omega, X3, hide ho3, hide ?_⟩, by simp [intOf]; omega⟩
          have h1 := HE2.out
          rw [emitN_step b1 l3 hl2, HV.out] at h1
          rw [List.append_assoc]
          exact h1
        · have h6i : ¬ (6 : Int) ≤ (l2 : Int) := by omega
          have hE : Hid (ac2 ++ (goB (l.drop (i + 1)) b1 l2).1 = TA ∧ (goB (l.drop (i + 1)) b1 l2).2 = (TB, TL)) := hide (by
            have h1 := HE2.out
            rw [emitN_none b1 l2 (by omega), List.append_nil] at h1
            have h2 := HG1.out
            rw [← hm2, Nat.mod_eq_of_lt (show l2 < 6 by omega), ← List.append_assoc, ← h1] at h2
            exact h2)
          go_wp2
          exact ⟨⟨i + 1, b1, l2, ac2, by omega, by go_num, rfl, hb1, rfl, by omega, HX2, HO2, hE⟩, by simp [intOf]; omega⟩
    · obtain rfl : i = n := by omega
      have hii : ¬ (i : Int) < (i : Int) := by omega
      have HD : Hid (acc = TA ∧ bt = TB ∧ lf = TL) := hide (by
        have h := HG.out
        rw [List.drop_of_length_le (by rw [HN.out]; exact Nat.le_refl _)] at h
        simp only [goB, List.append_nil, Prod.mk.injEq] at h
        exact ⟨h.1, h.2.1, h.2.2⟩)
      have hlen : Hid (acc.length ≤ 2000000) := hide (by rw [HD.out.1]; have := HTL.out.1; omega)
      by_cases h0 : 0 < lf
      · have h0i : (0 : Int) < (lf : Int) := by omega
        obtain ⟨k, HK⟩ : ∃ k : Nat, Hid (6 - lf = k) := ⟨_, hide rfl⟩
        have hk : (6 : Int) - (lf : Int) = (k : Int) := by have := HK.out; omega
        have hki : (k : Int) ≤ 6 := by omega
        obtain ⟨q, HQ⟩ : ∃ q : Nat, Hid (bt * 2 ^ k % 4294967296 = q) := ⟨_, hide rfl⟩
        have hq : q < 4294967296 := by rw [← HQ.out]; exact Nat.mod_lt _ (by decide)
        have hqi : (bt : Int) * 2 ^ k % 4294967296 = (q : Int) := by rw [← HQ.out, Int.natCast_emod, Int.natCast_mul, Int.natCast_pow]; rfl
        have hand := and_63 q hq
        obtain ⟨v, HV⟩ : ∃ v, Hid (q % 64 = v) := ⟨_, hide rfl⟩
        rw [HV.out] at hand
        have hv64 : v < 64 := by rw [← HV.out]; exact Nat.mod_lt _ (by decide)
        have hvs : v < alph.size := hv64
        have HF : Hid (baseB l = acc ++ [sgn v]) := hide (by
          rw [HBB.out, ← HD.out.2.1, ← HD.out.2.2, if_pos h0, HK.out, ← HD.out.1, ← HV.out, ← HQ.out, Nat.mod_mod_of_dvd _ (show 64 ∣ 4294967296 from ⟨67108864, rfl⟩)])
        go_wp2_with (first
          | (at_builtin; refine wpList_push (by rfl) (.tmp 42) (.tmp 49) rfl w.heap.size _ acc rfl rfl HO.out (u8z _) (u8i _) HX.out.size (by have := hlen.out; omega) ?_; intro v3 w3 ho3 hb3; have ho3 := (show b8 _ = sgn v from sgn_at v hvs) ▸ ho3; have X3 := hide (HX.out.below (Nat.le_refl _) hb3))
          | (refine wpList_str (by rfl) (.tmp 51) rfl (acc ++ [sgn v]) ho3.bytes ?_))
        go_ret
        rw [HF.out]
        exact Ret.mk X3.out rfl
      · have h0i : ¬ (0 : Int) < (lf : Int) := by omega
        have HF : Hid (baseB l = acc) := hide (by rw [HBB.out, ← HD.out.2.2, if_neg h0, HD.out.1, List.append_nil])
        go_wp2_with (refine wpList_str (by rfl) (.tmp 51) rfl acc HO.out.bytes ?_)
        go_ret
        rw [HF.out]
        exact Ret.mk HX.out rfl
end Go.Proofs.YtpdikmcaihlbaaaDoor
namespace Go.Proofs.YtpdikmcaihlbaaaDoor
open Go.RowKit

def RetB (w : World) (b : Bool) (e : Ending) (w' : World) : Prop := e = .returned (.bool b) ∧ Ext w w'
def aS : ByteArray := ⟨#[97]⟩
def litL : List Vl := [(1, 1, noS), (2, 0, aS), (0, 0, noS)]
theorem litL_enc : encT litL = (0, some [3, 1, 128, 0, 0, 0, 0, 0, 0, 1, 2, 1, 97, 0]) := by
  have h : okT aS = true := by kernel_rfl
  have h2 : litL.all vOk = true := by
    have e : vOk (2, 0, aS) = true := by
      unfold vOk
      simp only [if_neg (show ¬ (2 : Int) = 0 by decide), if_neg (show ¬ (2 : Int) = 1 by decide), if_pos, h]
      decide
    simp only [litL, List.all_cons, e]
    decide
  unfold encT
  rw [if_neg (by decide), if_pos h2]
  rfl
theorem litL_in : ∀ x ∈ litL, VlIn x := by
  intro x hx
  simp only [litL, List.mem_cons, List.not_mem_nil, or_false] at hx
  rcases hx with rfl | rfl | rfl <;> exact ⟨by decide, by decide, by decide⟩
theorem lit_rd (w : World) : RdV (w.alloc (.cells #[.int .u8 1, .int .i64 1, .string noS, .int .u8 2, .int .i64 0, .string aS, .int .u8 0, .int .i64 0, .string noS] 26)) (some ⟨w.heap.size, 0, none⟩) litL := fun _ => by
  have R := Rw.new w 26 [.int .u8 1, .int .i64 1, .string noS, .int .u8 2, .int .i64 0, .string aS, .int .u8 0, .int .i64 0, .string noS]
  refine ⟨_, _, rfl, fun j x hj => ?_⟩
  match j, hj with
  | 0, hj => injection hj with hj; subst hj; exact ⟨R.cell (i := 0) rfl, R.cell (i := 1) rfl, R.cell (i := 2) rfl⟩
  | 1, hj => injection hj with hj; subst hj; exact ⟨R.cell (i := 3) rfl, R.cell (i := 4) rfl, R.cell (i := 5) rfl⟩
  | 2, hj => injection hj with hj; subst hj; exact ⟨R.cell (i := 6) rfl, R.cell (i := 7) rfl, R.cell (i := 8) rfl⟩
  | j + 3, hj => cases hj
set_option maxRecDepth 20000 in
set_option maxHeartbeats 3200000 in
theorem awake_any (w : World) (ht : Tabs w) : Calls Tryd.prog 11 #[] w (RetB w true) := by
  have KE := hide (encode_any (some ⟨w.heap.size, 0, none⟩) litL 3 3 (w.alloc (.cells #[.int .u8 1, .int .i64 1, .string noS, .int .u8 2, .int .i64 0, .string aS, .int .u8 0, .int .i64 0, .string noS] 26)) (lit_rd w) rfl (by decide) (by decide) litL_in (ht.ext (Ext.alloc _ _)))
  rw [litL_enc] at KE
  have KB := hide (fun (W : World) => base_any (some ⟨W.heap.size, 0, none⟩) [255] 1 1 (W.alloc (.cells #[.int .u8 255] 5)) (Rd.byte W 5 255) rfl (by decide) (by decide))
  have hb : baseB [255] = [95, 119] := by kernel_rfl
  rw [hb] at KB
  clear ht
  unfold noS aS at KE
  go_enter Tryd.func11, Tryd.ntmps11
  go_upto_region 2 with (go_at_call 14; (with_reducible refine KE.out.mono ?_); rintro e w1 ⟨hx1, v1, rfl, ho1⟩; have X1 := hide ((Ext.alloc _ _).trans hx1); have B1 := hide ho1.bytes; clear ho1 hx1)
  go_wp2_with (first
    | (refine wpList_str (by rfl) (.tmp 14) rfl [3, 1, 128, 0, 0, 0, 0, 0, 0, 1, 2, 1, 97, 0] B1.out ?_)
    | (go_at_call 24; (with_reducible refine (KB.out _).mono ?_); rintro e w2 ⟨v2, rfl, hx2, rfl⟩; have X2 := hide (X1.out.trans ((Ext.alloc _ _).trans hx2)); clear hx2))
  go_ret
  exact ⟨rfl, X2.out⟩
end Go.Proofs.YtpdikmcaihlbaaaDoor
namespace Go.Proofs.YtpdikmcaihlbaaaDoor
open Go.RowKit

theorem noS_size {s : ByteArray} (h : ¬ s = noS) : ¬ s.size = 0 := fun hz => h (by
  cases s with
  | mk d =>
    have e : d = #[] := Array.eq_empty_of_size_eq_zero hz
    rw [e]; rfl)
set_option maxRecDepth 20000 in
set_option maxHeartbeats 1600000 in
theorem rform_0 (n : Int) (s : ByteArray) (w : World) : Calls Tryd.prog 13 #[.agg #[.int .u8 0, .int .i64 n, .string s]] w (RetB w (vOk (0, n, s))) := by
  by_cases hn : n = 0
  · subst hn
    by_cases hs : s = noS
    · subst hs
      unfold noS
      have hv : vOk (0, 0, ⟨#[]⟩) = true := by simp [vOk, noS]
      rw [hv]
      clear hv
      go_enter Tryd.func13, Tryd.ntmps13
      go_wp2
      go_ret
      exact ⟨rfl, Ext.alloc _ _⟩
    · have hsz := noS_size hs
      have hszi : ¬ (s.size : Int) = 0 := by omega
      have hszb : ((s.size : Int) == 0) = false := by simpa using hszi
      have hv : vOk (0, 0, s) = false := by simp [vOk, hs]
      rw [hv]
      clear hv
      go_enter Tryd.func13, Tryd.ntmps13
      go_wp2
      go_ret
      exact ⟨rfl, Ext.alloc _ _⟩
  · have hnb : (n == 0) = false := by simpa using hn
    have hv : vOk (0, n, s) = false := by simp [vOk, hn]
    rw [hv]
    clear hv
    go_enter Tryd.func13, Tryd.ntmps13
    go_wp2
    go_ret
    exact ⟨rfl, Ext.alloc _ _⟩
set_option maxRecDepth 20000 in
set_option maxHeartbeats 1600000 in
theorem rform_1 (n : Int) (s : ByteArray) (w : World) : Calls Tryd.prog 13 #[.agg #[.int .u8 1, .int .i64 n, .string s]] w (RetB w (vOk (1, n, s))) := by
  by_cases hs : s = noS
  · subst hs
    unfold noS
    have hv : vOk (1, n, ⟨#[]⟩) = true := by simp [vOk, noS]
    rw [hv]
    clear hv
    go_enter Tryd.func13, Tryd.ntmps13
    go_wp2
    go_ret
    exact ⟨rfl, Ext.alloc _ _⟩
  · have hsz := noS_size hs
    have hszi : ¬ (s.size : Int) = 0 := by omega
    have hszb : ((s.size : Int) == 0) = false := by simpa using hszi
    have hv : vOk (1, n, s) = false := by simp [vOk, hs]
    rw [hv]
    clear hv
    go_enter Tryd.func13, Tryd.ntmps13
    go_wp2
    go_ret
    exact ⟨rfl, Ext.alloc _ _⟩
set_option maxRecDepth 20000 in
set_option maxHeartbeats 1600000 in
theorem rform_2 (n : Int) (s : ByteArray) (w : World) (KV : ∀ W, Ext w W → Calls Tryd.prog 29 #[.string s] W (RetV W (.bool (okT s)))) : Calls Tryd.prog 13 #[.agg #[.int .u8 2, .int .i64 n, .string s]] w (RetB w (vOk (2, n, s))) := by
  by_cases hn : n = 0
  · subst hn
    by_cases hl : s.size ≤ 60
    · have hli : (s.size : Int) ≤ 60 := by omega
      cases hv0 : okT s
      · rw [hv0] at KV
        have hv : vOk (2, 0, s) = false := by simp [vOk, hv0]
        rw [hv]
        clear hv
        go_enter Tryd.func13, Tryd.ntmps13
        go_wp2_with (go_at_call 29; (with_reducible refine (KV _ (Ext.alloc _ _)).mono ?_); rintro e w1 ⟨rfl, hx1⟩; have X1 : Ext w w1 := (Ext.alloc _ _).trans hx1)
        go_ret
        exact ⟨rfl, X1⟩
      · rw [hv0] at KV
        have hv : vOk (2, 0, s) = true := by simp [vOk, hv0, hl]
        rw [hv]
        clear hv
        go_enter Tryd.func13, Tryd.ntmps13
        go_wp2_with (go_at_call 29; (with_reducible refine (KV _ (Ext.alloc _ _)).mono ?_); rintro e w1 ⟨rfl, hx1⟩; have X1 : Ext w w1 := (Ext.alloc _ _).trans hx1)
        go_ret
        exact ⟨rfl, X1⟩
    · have hli : ¬ (s.size : Int) ≤ 60 := by omega
      have hv : vOk (2, 0, s) = false := by simp [vOk, hl]
      rw [hv]
      clear hv
      go_enter Tryd.func13, Tryd.ntmps13
      go_wp2
      go_ret
      exact ⟨rfl, Ext.alloc _ _⟩
  · have hnb : (n == 0) = false := by simpa using hn
    have hv : vOk (2, n, s) = false := by simp [vOk, hn]
    rw [hv]
    clear hv
    go_enter Tryd.func13, Tryd.ntmps13
    go_wp2
    go_ret
    exact ⟨rfl, Ext.alloc _ _⟩
set_option maxRecDepth 20000 in
set_option maxHeartbeats 1600000 in
theorem rform_3 (n : Int) (s : ByteArray) (w : World) : Calls Tryd.prog 13 #[.agg #[.int .u8 3, .int .i64 n, .string s]] w (RetB w (vOk (3, n, s))) := by
  by_cases hs : s = noS
  · subst hs
    unfold noS
    by_cases h0 : 0 ≤ n
    · by_cases h1 : n ≤ 1
      · have h01 : n = 0 ∨ n = 1 := by omega
        have hv : vOk (3, n, ⟨#[]⟩) = true := by simp [vOk, noS, h01]
        rw [hv]
        clear hv
        go_enter Tryd.func13, Tryd.ntmps13
        go_wp2
        go_ret
        exact ⟨rfl, Ext.alloc _ _⟩
      · have h01 : ¬ (n = 0 ∨ n = 1) := by omega
        have hv : vOk (3, n, ⟨#[]⟩) = false := by unfold vOk; simp [h01]
        rw [hv]
        clear hv
        go_enter Tryd.func13, Tryd.ntmps13
        go_wp2
        go_ret
        exact ⟨rfl, Ext.alloc _ _⟩
    · have h01 : ¬ (n = 0 ∨ n = 1) := by omega
      have hv : vOk (3, n, ⟨#[]⟩) = false := by unfold vOk; simp [h01]
      rw [hv]
      clear hv
      go_enter Tryd.func13, Tryd.ntmps13
      go_wp2
      go_ret
      exact ⟨rfl, Ext.alloc _ _⟩
  · have hsz := noS_size hs
    have hszi : ¬ (s.size : Int) = 0 := by omega
    have hszb : ((s.size : Int) == 0) = false := by simpa using hszi
    have hv : vOk (3, n, s) = false := by simp [vOk, hs]
    rw [hv]
    clear hv
    go_enter Tryd.func13, Tryd.ntmps13
    go_wp2
    go_ret
    exact ⟨rfl, Ext.alloc _ _⟩
set_option maxRecDepth 20000 in
set_option maxHeartbeats 1600000 in
theorem rform_o (n : Int) (s : ByteArray) (w : World) (k : Int) (h0 : k ≠ 0) (h1 : k ≠ 1) (h2 : k ≠ 2) (h3 : k ≠ 3) : Calls Tryd.prog 13 #[.agg #[.int .u8 k, .int .i64 n, .string s]] w (RetB w (vOk (k, n, s))) := by
  have h0b : (k == 0) = false := by simpa using h0
  have h1b : (k == 1) = false := by simpa using h1
  have h2b : (k == 2) = false := by simpa using h2
  have h3b : (k == 3) = false := by simpa using h3
  have hv : vOk (k, n, s) = false := by simp [vOk, h0, h1, h2, h3]
  rw [hv]
  clear hv
  go_enter Tryd.func13, Tryd.ntmps13
  go_wp2
  go_ret
  exact ⟨rfl, Ext.alloc _ _⟩
theorem rform_any (x : Vl) (w : World) (hb : VlIn x) (hT : Tabs w) : Calls Tryd.prog 13 #[.agg #[.int .u8 x.1, .int .i64 x.2.1, .string x.2.2]] w (RetB w (vOk x)) := by
  obtain ⟨k, n, s⟩ := x
  by_cases h0 : k = 0
  · subst h0; exact rform_0 n s w
  by_cases h1 : k = 1
  · subst h1; exact rform_1 n s w
  by_cases h2 : k = 2
  · subst h2; exact rform_2 n s w (fun W hW => valid_any s W hb.s (hT.ext hW))
  by_cases h3 : k = 3
  · subst h3; exact rform_3 n s w
  exact rform_o n s w k h0 h1 h2 h3
end Go.Proofs.YtpdikmcaihlbaaaDoor
namespace Go.Proofs.YtpdikmcaihlbaaaDoor
open Go.RowKit

section
variable {P : Program} {ops : Array Oper} {Q : Exit → Act → World → Prop} {S : Nat → World → Value → Prop} {a0 : Act} {w0 : World} {B : Nat}
/-- What one operation owes. -/
def StepOkE (B : Nat) (P : Program) (Q : Exit → Act → World → Prop) (ops : Array Oper) (S : Nat → World → Value → Prop) (a0 : Act) (w0 : World) (i : Nat) (o : Oper) : Prop :=
  ∀ (a : Act) (w : World), Grw B w0 w → a.defers = a0.defers → (∀ t, keepsB ops i t = true → a.tmps[t]? = a0.tmps[t]?) →
    (∀ e ∈ o.after, Region.binds .any e = true → ∀ (o' : Oper), ops[e.on]? = some o' → ∀ (d : Nat), o'.dst = some d → ∃ v, a.tmps[d]? = some v ∧ S e.on w v) →
    (Region.wanted o (yielded ops a.tmps) = true ∧ gives P o a w fun v w' => Grw B w w' ∧ S i w' v) ∨ (Region.wanted o (yielded ops a.tmps) = false ∧ S i w undef) ∨ (Region.wanted o (yielded ops a.tmps) = true ∧ ∀ K, o.wp P a w K Q)
theorem wpAny_growE (hok : regOk ops a0.tmps.size = true) (hup : ∀ i w w' v, S i w v → Grw B w w' → S i w' v)
    (hstep : ∀ (i : Nat) (o : Oper), ops[i]? = some o → StepOkE B P Q ops S a0 w0 i o)
    (hend : ∀ (a : Act) (w : World), Grw B w0 w → a.defers = a0.defers → a.tmps.size = a0.tmps.size → (∀ (i : Nat) (o : Oper) (d : Nat), ops[i]? = some o → o.dst = some d → ∃ v, a.tmps[d]? = some v ∧ S i w v) →
      (∀ t, (∀ (i : Nat) (o : Oper), ops[i]? = some o → o.dst ≠ some t) → a.tmps[t]? = a0.tmps[t]?) → Q .normal a w) :
    ∀ (fuel : Nat) (listed : Array Bool) (a : Act) (w : World), RInv B ops S a0 w0 listed a w → listed.toList.count true + fuel = ops.size → wpAny P .any ops Q fuel listed a w := by
  have getb : ∀ (l : Array Bool) (i : Nat) (b : Bool), l.getD i b = (l[i]?).getD b := fun l i b => by simp
  have allTrue : ∀ (l : Array Bool), l.toList.count true = l.size → ∀ i, i < l.size → l[i]? = some true := fun l h i hi => by
    have : ∀ x ∈ l.toList, true = x := by
      rw [← List.count_eq_length]; simpa using h
    rw [Array.getElem?_eq_getElem hi]
    congr 1
    exact (this _ (by simp)).symm
  have fin : ∀ (listed : Array Bool) (a : Act) (w : World), RInv B ops S a0 w0 listed a w → (∀ i, i < ops.size → listed[i]? = some true) → Q .normal a w := by
    intro listed a w I h
    have hlt : ∀ {i : Nat} {o : Oper}, ops[i]? = some o → i < ops.size := fun {i o} ho => by
      rcases Nat.lt_or_ge i ops.size with hlt | hge
      · exact hlt
      · rw [Array.getElem?_eq_none hge] at ho; cases ho
    exact hend a w I.ext I.defers I.tmps (fun i o d ho hd => I.vals i o d ho (h i (hlt ho)) hd) (fun t ht => I.same t fun i o ho hd => absurd hd (ht i o ho))
  have step : ∀ (listed : Array Bool) (a : Act) (w : World) (i : Nat) (K : Act → World → Prop), RInv B ops S a0 w0 listed a w → i ∈ Region.ready .any ops listed →
      (∀ a' w', RInv B ops S a0 w0 (listed.setIfInBounds i true) a' w' → K a' w') → wpOp P ops Q i K a w := by
    intro listed a w i K I hr hK
    obtain ⟨hun, o, ho, hall⟩ := mem_ready.1 hr
    have hi : i < listed.size := by
      rw [I.size]
      rcases Nat.lt_or_ge i ops.size with hlt | hge
      · exact hlt
      · rw [Array.getElem?_eq_none hge] at ho; cases ho
    have hfalse : listed[i]? = some false := by
      rw [getb, Array.getElem?_eq_getElem hi] at hun
      rw [Array.getElem?_eq_getElem hi]; simpa using hun
    have hpre : ∀ e ∈ o.after, Region.binds .any e = true → listed[e.on]? = some true := fun e he hb => by
      have h1 := hall e he hb
      rw [getb] at h1
      cases h2 : listed[e.on]? with
      | none => rw [h2] at h1; simp at h1
      | some b => rw [h2] at h1; simp at h1; rw [h1]
    have hset : ∀ (k : Nat), (listed.setIfInBounds i true)[k]? = if i = k then some true else listed[k]? := fun k => by
      rw [Array.getElem?_setIfInBounds]
      by_cases h : i = k
      · subst h; simp [hi]
      · simp [h]
    have next : ∀ v w', Grw B w w' → S i w' v → RInv B ops S a0 w0 (listed.setIfInBounds i true) (a.put o.dst v) w' := by
      intro v w' hx hS
      refine ⟨by simpa using I.size, I.ext.trans hx, ?_, ?_, ?_, ?_, ?_⟩
      · cases hd : o.dst <;> simpa [Act.put] using I.defers
      · cases hd : o.dst <;> simpa [Act.put] using I.tmps
      · intro k ok hk hl e he hb
        rw [hset] at hl ⊢
        by_cases hki : i = k
        · subst hki
          rw [ho] at hk; cases hk
          split
          · rfl
          · exact hpre e he hb
        · rw [if_neg hki] at hl
          split
          · rfl
          · exact I.closed k ok hk hl e he hb
      · intro k ok d hk hl hd
        rw [hset] at hl
        by_cases hki : i = k
        · subst hki
          rw [ho] at hk; cases hk
          refine ⟨v, ?_, hS⟩
          rw [hd]
          have := regOk_lt hok ho hd
          simp only [Act.put, Array.getElem?_setIfInBounds]
          simp [I.tmps, this]
        · rw [if_neg hki] at hl
          obtain ⟨u, hu, hSu⟩ := I.vals k ok d hk hl hd
          refine ⟨u, ?_, hup _ _ _ _ hSu hx⟩
          cases hod : o.dst with
          | none => simpa [Act.put] using hu
          | some d' =>
            have hne : d' ≠ d := fun e => hki (regOk_one hok ho hk (by rw [hod, e]) hd)
            simp only [Act.put, Array.getElem?_setIfInBounds_ne hne]
            exact hu
      · intro t ht
        have hit : o.dst ≠ some t := fun hd => by
          have := ht i o ho hd
          rw [hset, if_pos rfl] at this; cases this
        have := I.same t fun k ok hk hd => by
          have h2 := ht k ok hk hd
          rw [hset] at h2
          split at h2
          · cases h2
          · exact h2
        rw [← this]
        cases hod : o.dst with
        | none => rfl
        | some d' =>
          have hne : d' ≠ t := fun e => hit (by rw [hod, e])
          simp only [Act.put, Array.getElem?_setIfInBounds_ne hne]
    have hs := hstep i o ho a w I.ext I.defers ?_ ?_
    · unfold wpOp
      simp only [ho]
      rcases hs with ⟨hw, hg⟩ | ⟨hw, hS⟩ | ⟨hw, hE⟩
      · rw [if_pos hw]
        exact .inl (wp_of_gives hg fun v w' ⟨hx, hS⟩ => hK _ _ (next v w' hx hS))
      · rw [if_neg (by rw [hw]; exact Bool.false_ne_true)]
        exact hK _ _ (next _ _ (Grw.refl _ _) hS)
      · rw [if_pos hw]
        exact .inl (hE _)
    · intro t ht
      refine I.same t fun k ok hk hd => ?_
      simp only [keepsB, List.all_eq_true] at ht
      have hm : ok ∈ ops.toList := by simpa using Array.mem_of_getElem? hk
      have := ht ok hm
      simp only [hd, bne_self_eq_false, Bool.false_or, List.any_eq_true, Array.mem_toList_iff] at this
      obtain ⟨e, he, hb⟩ := this
      simp only [Bool.and_eq_true, beq_iff_eq] at hb
      have hkl : k < listed.size := by
        rw [I.size]
        rcases Nat.lt_or_ge k ops.size with hlt | hge
        · exact hlt
        · rw [Array.getElem?_eq_none hge] at hk; cases hk
      cases hv : listed[k]? with
      | none => rw [Array.getElem?_eq_getElem hkl] at hv; cases hv
      | some b =>
        cases b with
        | false => rfl
        | true =>
          have := I.closed k ok hk hv e he hb.2
          rw [hb.1, hfalse] at this; cases this
    · intro e he hb o' ho' d hd
      exact I.vals e.on o' d ho' (hpre e he hb) hd
  have full : ∀ (listed : Array Bool) (a : Act) (w : World), RInv B ops S a0 w0 listed a w → Region.ready .any ops listed = [] → ∀ i, i < ops.size → listed[i]? = some true := by
    intro listed a w I hr i
    induction i using Nat.strongRecOn with
    | ind i ih =>
      intro hi
      cases hv : listed[i]? with
      | none => rw [Array.getElem?_eq_none_iff, I.size] at hv; omega
      | some b =>
        cases b with
        | true => rfl
        | false =>
          exfalso
          have hmem : i ∈ Region.ready .any ops listed := by
            refine mem_ready.2 ⟨by rw [getb, hv]; rfl, ops[i], Array.getElem?_eq_getElem hi, fun e he hb => ?_⟩
            have hlt := regOk_back hok (Array.getElem?_eq_getElem hi) he hb
            rw [getb, ih e.on hlt (by omega)]; rfl
          rw [hr] at hmem; cases hmem
  intro fuel
  induction fuel with
  | zero =>
    intro listed a w I hc
    have hall := allTrue listed (by rw [I.size]; omega)
    rw [I.size] at hall
    refine ⟨?_, fin listed a w I hall⟩
    cases hr : Region.ready .any ops listed with
    | nil => rfl
    | cons i rest =>
      exfalso
      have hm : i ∈ Region.ready .any ops listed := by rw [hr]; simp
      obtain ⟨hun, o, ho, _⟩ := mem_ready.1 hm
      have hlt : i < ops.size := by
        rcases Nat.lt_or_ge i ops.size with hlt | hge
        · exact hlt
        · rw [Array.getElem?_eq_none hge] at ho; cases ho
      rw [getb, hall i hlt] at hun; cases hun
  | succ fuel ih =>
    intro listed a w I hc
    refine ⟨fun hr => fin listed a w I (full listed a w I hr), fun i hi => step listed a w i _ I hi fun a' w' I' => ih _ a' w' I' ?_⟩
    obtain ⟨hun, o, ho, _⟩ := mem_ready.1 hi
    have hlt : i < listed.size := by
      rw [I.size]
      rcases Nat.lt_or_ge i ops.size with hlt | hge
      · exact hlt
      · rw [Array.getElem?_eq_none hge] at ho; cases ho
    rw [count_set (by rw [getb, Array.getElem?_eq_getElem hlt] at hun; rw [Array.getElem?_eq_getElem hlt]; simpa using hun)]
    omega

/-- THE REGION. -/
theorem wp_region_growE {id : Nat} (S : Nat → World → Value → Prop) (hm : P.follows .mixedOrders = true) (hok : regOk ops a0.tmps.size = true)
    (hup : ∀ i w w' v, S i w v → Grw B w w' → S i w' v) (hstep : ∀ (i : Nat) (o : Oper), ops[i]? = some o → StepOkE B P Q ops S a0 w0 i o)
    (hend : ∀ (a : Act) (w : World), Grw B w0 w → a.defers = a0.defers → a.tmps.size = a0.tmps.size → (∀ (i : Nat) (o : Oper) (d : Nat), ops[i]? = some o → o.dst = some d → ∃ v, a.tmps[d]? = some v ∧ S i w v) →
      (∀ t, (∀ (i : Nat) (o : Oper), ops[i]? = some o → o.dst ≠ some t) → a.tmps[t]? = a0.tmps[t]?) → Q .normal a w) :
    (Code.region id ops true).wp P Q a0 w0 := by
  refine wp_region_any hm (wpAny_growE hok hup hstep hend ops.size _ a0 _ ?_ ?_)
  · refine ⟨by simp, Grw.drewn _ _ _, rfl, rfl, ?_, ?_, fun _ _ => rfl⟩
    · intro i o ho hl
      rw [Array.getElem?_replicate] at hl
      split at hl <;> simp at hl
    · intro i o d ho hl
      rw [Array.getElem?_replicate] at hl
      split at hl <;> simp at hl
  · have : (Array.replicate ops.size false).toList.count true = 0 := by simp [List.count_replicate]
    omega
end
/-- What never is: of an operation behind which nothing comes. -/
def Sp.never : Sp := ⟨fun _ _ => False, fun _ _ _ h _ => h⟩
/-- What one operation owes, in the form in which it is paid. -/
def PaysE (B : Nat) (P : Program) (Q : Exit → Act → World → Prop) (ops : Array Oper) (L : List Sp) (a0 : Act) (w0 : World) (i : Nat) (o : Oper) : Prop :=
  ∀ (a : Act) (w : World), Grw B w0 w → B ≤ w.heap.size → (∀ t, keepsB ops i t = true → a.tmps[t]? = a0.tmps[t]?) →
    (∀ j, (o.after.toList.any fun e => e.on == j && Region.binds .any e) = true → ∀ (o' : Oper), ops[j]? = some o' → ∀ (d : Nat), o'.dst = some d → ∃ v, a.tmps[d]? = some v ∧ (L.getD j Sp.any).p w v) →
    (Region.wanted o (yielded ops a.tmps) = true ∧ gives P o a w fun v w' => Grw B w w' ∧ (L.getD i Sp.any).p w' v) ∨ (Region.wanted o (yielded ops a.tmps) = false ∧ (L.getD i Sp.any).p w undef) ∨ (Region.wanted o (yielded ops a.tmps) = true ∧ ∀ K, a.defers = a0.defers → o.wp P a w K Q)
theorem wp_region_spE {B : Nat} {P : Program} {ops : List Oper} {Q : Exit → Act → World → Prop} {a0 : Act} {w0 : World} {id : Nat} (hB : B ≤ w0.heap.size) (L : List Sp) (hm : P.follows .mixedOrders = true) (hok : regOk ops.toArray a0.tmps.size = true)
    (hstep : PaysFrom (PaysE B P Q ops.toArray L a0 w0) 0 ops)
    (hend : ∀ (a : Act) (w : World), Grw B w0 w → a.defers = a0.defers → a.tmps.size = a0.tmps.size → (∀ (i : Nat) (o : Oper) (d : Nat), ops.toArray[i]? = some o → o.dst = some d → ∃ v, a.tmps[d]? = some v ∧ (L.getD i Sp.any).p w v) →
      (∀ t, (∀ (i : Nat) (o : Oper), ops.toArray[i]? = some o → o.dst ≠ some t) → a.tmps[t]? = a0.tmps[t]?) → Q .normal a w) :
    (Code.region id ops.toArray true).wp P Q a0 w0 := by
  refine wp_region_growE (fun i => (L.getD i Sp.any).p) hm hok (fun i w w' v h hx => (L.getD i Sp.any).up w w' v h hx.keeps) ?_ hend
  intro i o ho a w hx hd hk H
  have h := paysFrom_all ops 0 hstep i o (by simpa using ho)
  rw [Nat.zero_add] at h
  refine Or.imp_right (Or.imp_right fun ⟨hw, hE⟩ => ⟨hw, fun K => hE K hd⟩) (h a w hx (Nat.le_trans hB hx.size) hk fun j hj o' ho' d hd' => ?_)
  simp only [List.any_eq_true, Array.mem_toList_iff] at hj
  obtain ⟨e, he, hb⟩ := hj
  simp only [Bool.and_eq_true, beq_iff_eq] at hb
  obtain ⟨rfl, hb⟩ := hb
  exact H e he hb o' ho' d hd'
/-- A call that panics. -/
theorem wp_call_ends {P : Program} {o : Oper} {a : Act} {w : World} {K : Act → World → Prop} {Q : Exit → Act → World → Prop} {f : Nat} {xs : Array Operand} {ats : Array TypeId} {args : Array Value} (h : o.op = .call { callee := .value (.func f), args := xs, argTypes := ats })
    (hcf : ∀ args w, (callFunc f args).run P w = .ok (.enter f args) w) (ha : xs.map a.eval = args)
    (hC : Calls P f args w fun e w' => ∃ c, e = .panicked c ∧ Q (.panic c) a w') : o.wp P a w K Q := by
  have hr : (execOp a.eval o).run P w = .ok (.enter f args) w := by
    obtain ⟨dst, op, type, pos, after, guard⟩ := o
    subst h
    rw [execOp_call_go, ha]
    simp [hcf]
  unfold Oper.wp
  rw [hr]
  refine hC.mono fun e w' h => ?_
  obtain ⟨c, rfl, hq⟩ := h
  exact hq
end Go.Proofs.YtpdikmcaihlbaaaDoor
