/-
  Values as bytes: Encode.
  An argument that is a value of the codec; the tables that the rows list.
  An argument that is a slice of values of the codec.
  Regions that draw their order, in which an operation may end the function (a call that panics).
  The reader of the codec: what gives up.
  The reader of the codec: number.
-/
import Derived.IntWalk
import Derived.Deep.Cut
import Derived.Deep.CutRange
import Derived.Deep.Slices
import Derived.OpenShut
import Derived.Lib.LaidU8T
import Derived.PinnedBridge
import Derived.Lay
import Derived.RegionTactic
import Derived.Deep.RegionLaw
import Derived.Deep.QuietTactic
import Derived.BigQuiet
import Derived.Test.YtpdikmcaihlbaaaDoorPkCdE20
import Derived.Test.YtpdikmcaihlbaaaDoorPkCdE21
set_option linter.unusedVariables false
set_option linter.unusedSimpArgs false

namespace Go.Proofs.YtpdikmcaihlbaaaDoor
open Go.RowKit

/-- A value: kind, number, text. -/
abbrev Vl := Int × Int × ByteArray
def vOk (x : Vl) : Bool := if x.1 = 0 then decide (x.2.1 = 0 ∧ x.2.2 = noS) else if x.1 = 1 then decide (x.2.2 = noS) else if x.1 = 2 then decide (x.2.1 = 0 ∧ x.2.2.size ≤ 60 ∧ okT x.2.2 = true) else if x.1 = 3 then decide ((x.2.1 = 0 ∨ x.2.1 = 1) ∧ x.2.2 = noS) else false
def rowV (x : Vl) : List UInt8 := if x.1 = 1 then 1 :: ord64 x.2.1 else if x.1 = 2 then 2 :: b8 (x.2.2.size : Int) :: x.2.2.data.toList else if x.1 = 3 then [3, if (x.2.1 == 1) = true then 1 else 0] else [0]
structure VlIn (x : Vl) : Prop where
  k : 0 ≤ x.1 ∧ x.1 < 256
  n : -9223372036854775808 ≤ x.2.1 ∧ x.2.1 < 9223372036854775808
  s : x.2.2.size ≤ 9223372036854775807
theorem meant_no (x : Vl) (h : vOk x = false) : meantV x.1 x.2.1 x.2.2 (okT x.2.2) = .nilIface := by
  unfold vOk at h
  unfold meantV
  split at h
  · rename_i h0; rw [if_pos h0, if_neg (of_decide_eq_false h)]
  · rename_i h0; rw [if_neg h0]
    split at h
    · rename_i h1; rw [if_pos h1, if_neg (of_decide_eq_false h)]
    · rename_i h1; rw [if_neg h1]
      split at h
      · rename_i h2; rw [if_pos h2, if_neg (of_decide_eq_false h)]
      · rename_i h2; rw [if_neg h2]
        split at h
        · rename_i h3; rw [if_pos h3, if_neg (of_decide_eq_false h)]
        · rename_i h3; rw [if_neg h3]
theorem meant_yes (x : Vl) (hb : VlIn x) (h : vOk x = true) : ∃ t v, meantV x.1 x.2.1 x.2.2 (okT x.2.2) = .iface t v ∧ (rowV x).length ≤ 62 ∧ ∀ W, Calls Tryd.prog 30 #[.iface t v] W (Ret W (Bytes (rowV x))) := by
  obtain ⟨k, n, s⟩ := x
  unfold vOk at h
  unfold meantV
  split at h
  · rename_i h0
    simp only at h0 h
    subst h0
    have h := of_decide_eq_true h
    exact ⟨_, _, by rw [if_pos rfl, if_pos h], show (1 : Nat) ≤ 62 by decide, fun W => row_null W⟩
  · rename_i h0
    simp only at h0
    rw [if_neg h0]
    split at h
    · rename_i h1
      simp only at h1 h
      subst h1
      have h := of_decide_eq_true h
      exact ⟨_, _, by rw [if_pos rfl, if_pos h], show (9 : Nat) ≤ 62 by decide, fun W => row_int n W hb.n.1 hb.n.2⟩
    · rename_i h1
      simp only at h1
      rw [if_neg h1]
      split at h
      · rename_i h2
        simp only at h2 h
        subst h2
        have h := of_decide_eq_true h
        refine ⟨_, _, by rw [if_pos rfl, if_pos h], ?_, fun W => row_text s W h.2.1⟩
        have := size_list s
        have := h.2.1
        simp only [rowV, if_neg (show ¬ (2 : Int) = 1 by decide), if_pos, List.length_cons]
        omega
      · rename_i h2
        simp only at h2
        rw [if_neg h2]
        split at h
        · rename_i h3
          simp only at h3 h
          subst h3
          have h := of_decide_eq_true h
          refine ⟨_, _, by rw [if_pos rfl, if_pos h], ?_, fun W => row_bool _ W⟩
          simp [rowV]
        · cases h
/-- The slice at A reads as these values. -/
def RdV (w : World) (A : Option Addr) (L : List Vl) : Prop :=
  L ≠ [] → ∃ b off, A = some ⟨b, off, none⟩ ∧ ∀ j x, L[j]? = some x → w.cell? ⟨b, off + j * 3, none⟩ = some (.int .u8 x.1) ∧ w.cell? ⟨b, off + j * 3 + 1, none⟩ = some (.int .i64 x.2.1) ∧ w.cell? ⟨b, off + j * 3 + 2, none⟩ = some (.string x.2.2)
theorem RdV.ext {w w' : World} {A : Option Addr} {L : List Vl} (h : RdV w A L) (hx : Ext w w') : RdV w' A L := fun hn => by
  obtain ⟨b, off, hA, hc⟩ := h hn
  exact ⟨b, off, hA, fun j d hj => ⟨hx.keeps.cell (hc j d hj).1, hx.keeps.cell (hc j d hj).2.1, hx.keeps.cell (hc j d hj).2.2⟩⟩
def rowsV (L : List Vl) : List UInt8 := L.flatMap rowV
theorem worldOf {w W : World} (_ : Hid (Ext w W)) : ∃ wr, wr = W := ⟨W, rfl⟩
/-- What Encode tells: the bytes, or the error's number. -/
def encT (L : List Vl) : Int × Option (List UInt8) := if 12 < L.length then (2, none) else if L.all vOk = true then (0, some (b8 (L.length : Int) :: rowsV L)) else (3, none)
def EncP (w : World) (x : Int × Option (List UInt8)) (e : Ending) (w' : World) : Prop := Ext w w' ∧ match x.2 with
  | none => e = .returned (.tuple #[.slice none 0 0, .int .i64 x.1])
  | some l => ∃ v, e = .returned (.tuple #[v, .int .i64 0]) ∧ Own w' w.heap.size v l
theorem rowsV_len : ∀ L : List Vl, L.all vOk = true → (∀ x ∈ L, VlIn x) → (rowsV L).length ≤ 62 * L.length
  | [], _, _ => Nat.le_refl _
  | x :: L, h, hb => by
    simp only [List.all_cons, Bool.and_eq_true] at h
    obtain ⟨_, _, _, h1, _⟩ := meant_yes x (hb x (List.mem_cons_self ..)) h.1
    have ih := rowsV_len L h.2 (fun y hy => hb y (List.mem_cons_of_mem _ hy))
    have e : rowsV (x :: L) = rowV x ++ rowsV L := rfl
    rw [e, List.length_append, List.length_cons]
    omega
set_option maxRecDepth 20000 in
set_option maxHeartbeats 3200000 in
theorem encode_any (A : Option Addr) (L : List Vl) (n c : Nat) (w : World) (hr : RdV w A L) (hn : L.length = n) (hnc : n ≤ c) (hl : n ≤ 140737488355328) (hb : ∀ x ∈ L, VlIn x) (ht : Tabs w) :
    Calls Tryd.prog 14 #[.slice A n c] w (EncP w (encT L)) := by
  by_cases h12 : 12 < n
  · have hi : (12 : Int) < (n : Int) := by omega
    have HE : Hid (encT L = (2, none)) := hide (by unfold encT; rw [if_pos (by omega)])
    clear hr hn hb ht
    go_enter Tryd.func14, Tryd.ntmps14
    go_wp2
    go_ret2
    rw [HE.out]
    exact ⟨Ext.refl _, rfl⟩
  · have hi : ¬ (12 : Int) < (n : Int) := by omega
    have hnI : (n : Int) ≤ 12 := by omega
    have HR := hide hr
    have HN := hide hn
    have HB := hide hb
    have HT := hide ht
    have hwn : IntKind.u8.wrap (n : Int) = (n : Int) := by rw [IntKind.wrap_u8]; omega
    clear hr hn hb ht
    go_enter Tryd.func14, Tryd.ntmps14
    go_upto_region 5 with fail
    have hown0 := own_one w w.heap.size (Nat.le_refl _) (n : Int) (by omega) (by omega)
    go_loopw [4, 6, 7, 17] (fun ov _ _ iv wr => ∃ i : Nat, i ≤ n ∧ iv = .int .i64 (i : Int) ∧ Hid ((L.take i).all vOk = true) ∧ Hid (Own wr w.heap.size ov (b8 (n : Int) :: rowsV (L.take i))) ∧ Hid (Ext w wr)) (fun _ _ _ iv _ => n - (intOf iv).toNat)
    case atStart => exact ⟨0, Nat.zero_le _, rfl, hide rfl, hide hown0, hide (Ext.alloc _ _)⟩
    case round =>
      obtain ⟨i, hi, rfl, HA, HO, HX⟩ := hrel
      by_cases hlt : i < n
      · have hii : (i : Int) < (n : Int) := by omega
        obtain ⟨x, hx⟩ : ∃ x, L[i]? = some x := ⟨_, List.getElem?_eq_getElem (by rw [HN.out]; exact hlt)⟩
        obtain ⟨b, off, hA, hc⟩ := HR.out (by intro h; rw [h] at hx; cases hx)
        subst hA
        obtain ⟨wr, HWR⟩ := worldOf HX
        subst HWR
        have c0 := HX.out.keeps.cell (hc i x hx).1
        have c1 := HX.out.keeps.cell (hc i x hx).2.1
        have c2 := HX.out.keeps.cell (hc i x hx).2.2
        clear hc
        have HXX := hide hx
        have VI := HB.out x (List.mem_of_getElem? hx)
        go_upto_region 7 with fail
        have KM := hide (meant_any x.1 x.2.1 x.2.2 (wr.alloc (.cells #[.int .u8 x.1, .int .i64 x.2.1, .string x.2.2] 26)) VI.s (HT.out.ext (HX.out.trans (Ext.alloc _ _))))
        have B0 := Rw.new wr 26 [.int .u8 x.1, .int .i64 x.2.1, .string x.2.2]
        have d0 := B0.cell (i := 0) rfl
        have d1 := B0.cell (i := 1) rfl
        have d2 := B0.cell (i := 2) rfl
        have hbd : (rowsV (L.take i)).length ≤ 62 * 12 := Nat.le_trans (rowsV_len _ HA.out (fun y hy => HB.out y (List.mem_of_mem_take hy))) (Nat.mul_le_mul_left 62 (by rw [List.length_take]; omega))
        cases hv : vOk x with
        | false =>
          rw [meant_no x hv] at KM
          have HE : Hid (encT L = (3, none)) := hide (by
            unfold encT
            rw [if_neg (by rw [HN.out]; exact h12), if_neg]
            intro hall
            rw [List.all_eq_true] at hall
            rw [hall x (List.mem_of_getElem? HXX.out)] at hv
            cases hv)
          go_wp2_with (go_at_call 28; (with_reducible refine KM.out.mono ?_); rintro e w1 ⟨rfl, hx1⟩; have X1 := hide ((HX.out.trans (Ext.alloc _ _)).trans hx1))
          go_ret2
          rw [HE.out]
          exact ⟨X1.out, rfl⟩
        | true =>
          obtain ⟨t, v, hm, hlen, KR⟩ := meant_yes x VI hv
          rw [hm] at KM
          go_upto_region 11 with (first
            | (go_at_call 28; (with_reducible refine KM.out.mono ?_); rintro e w1 ⟨rfl, hx1⟩; have X1 := hide ((HX.out.trans (Ext.alloc _ _)).trans hx1); have O1 := hide (HO.out.ext ((Ext.alloc _ _).trans hx1)))
            | (go_at_call 30; (with_reducible refine (KR _).mono ?_); rintro e w2 ⟨v2, rfl, hx2, A2, cc2, hv2, hc2, hr2⟩; subst hv2; have X2 := hide (X1.out.trans hx2); have O2 := hide (O1.out.ext hx2))
            | (at_builtin; refine wpList_cat (by rfl) (.tmp 25) (.tmp 27) rfl w.heap.size _ _ (rowV x) A2 _ cc2 rfl rfl rfl O2.out hr2 X2.out.size (by simp only [List.length_cons]; omega) ?_; intro v3 w3 ho3 hb3; have X3 := hide (X2.out.below (Nat.le_refl _) hb3)))
          have hcat : (b8 (n : Int) :: rowsV (L.take i)) ++ rowV x = b8 (n : Int) :: rowsV (L.take (i + 1)) := by
            rw [List.take_add_one, HXX.out]
            simp [rowsV]
          rw [hcat] at ho3
          have HA' : Hid ((L.take (i + 1)).all vOk = true) := hide (by
            rw [List.take_add_one, HXX.out]
            simp [HA.out, hv])
          go_wp2
          exact ⟨⟨i + 1, by omega, by go_num, HA', hide ho3, X3⟩, by simp [intOf]; omega⟩
      · obtain rfl : i = n := by omega
        have hii : ¬ (i : Int) < (i : Int) := by omega
        have HE : Hid (encT L = (0, some (b8 (i : Int) :: rowsV L))) := hide (by
          have hall := HA.out
          rw [List.take_of_length_le (by rw [HN.out]; exact Nat.le_refl _)] at hall
          unfold encT
          rw [if_neg (by rw [HN.out]; exact h12), if_pos hall, HN.out])
        go_wp2
        go_ret2
        rw [HE.out]
        have ho := HO.out
        rw [List.take_of_length_le (by rw [HN.out]; exact Nat.le_refl _)] at ho
        exact ⟨HX.out, _, rfl, ho⟩
end Go.Proofs.YtpdikmcaihlbaaaDoor
namespace Go.Proofs.YtpdikmcaihlbaaaDoor
open Go.ChangeShapes Go.WideShapes Go.ChangeAt Go.RowKit

section
variable {H : Type} {enc : TypeId × Value → H} {W : World}
set_option maxRecDepth 100000 in
/-- An argument that is a value. -/
theorem open_value {base : Nat} {v : Value} {d : DataW H} {ps : List MemPlace} (hval : Value.okWide Tryd.prog W .any base 26 v)
    (h : DataW.Trod enc Tryd.prog W 0 (fun _ => true) true 26 v d ps) :
    ∃ (k n : Int) (s : ByteArray), v = .agg #[.int .u8 k, .int .i64 n, .string s] ∧ VlIn (k, n, s) := by
  obtain ⟨cs, rfl, hsz⟩ := okWide_struct Tryd.underlying26 hval
  obtain ⟨fuel, hf⟩ := h
  obtain ⟨xs, m, _, hxx, hl, hxl, hall⟩ := DataW.trod_struct Tryd.underlying26 hf
  obtain ⟨l⟩ := cs
  have hcl : l.length = 3 := hsz.trans (by kernel_rfl)
  match l, hcl with
  | [v0, v1, v2], _ =>
    have hx2 : xs.length = 3 := hxl
    match xs, hx2 with
    | [y0, y1, y2], _ =>
      have e0 : DataW.trod enc Tryd.prog W 0 (fun _ => true) true m 5 [v0] = some y0 := hall 0 _ rfl
      have e1 : DataW.trod enc Tryd.prog W 0 (fun _ => true) true m 2 [v1] = some y1 := hall 1 _ rfl
      have e2 : DataW.trod enc Tryd.prog W 0 (fun _ => true) true m 9 [v2] = some y2 := hall 2 _ rfl
      obtain ⟨k, h0, _, w0⟩ := DataW.trod_int Tryd.underlying5 e0
      obtain ⟨n, h1, _, w1⟩ := DataW.trod_int Tryd.underlying2 e1
      obtain ⟨s, h2, _, w2⟩ := DataW.trod_string Tryd.underlying9 e2
      injection h0 with h0
      injection h1 with h1
      injection h2 with h2
      subst h0 h1 h2
      have b0 := bounds_u8 w0
      have b1 := bounds_i64 w1
      unfold maxLen at w2
      exact ⟨k, n, s, rfl, ⟨⟨b0.1, by have := b0.2; simp only; omega⟩, ⟨b1.1, by have := b1.2; simp only; omega⟩, w2⟩⟩
end
theorem tabs_of_laid {W : World} (h : laidMetH Tryd.prog [("unicode/utf8.acceptRanges", Rows.laid_unicode_utf8_acceptRanges), ("unicode/utf8.first", Rows.laid_unicode_utf8_first)] W) : Tabs W := by
  rw [MakeChecks.laidMetH_plain _ _ _ (by kernel_rfl)] at h
  have h3 := Lib.laidMet.reads h (.tail _ (.head _))
  have h4 := Lib.laidMet.reads h (.head _)
  rw [show Rows.laid_unicode_utf8_first = Lib.firstData from Pinned.utf8First_eq] at h3
  rw [show (Rows.laid_unicode_utf8_acceptRanges : DataW Unit) = Lib.acceptData by kernel_rfl] at h4
  exact utf8Tabs_of_readsT (U8Types.of196 Tryd.lays196) ⟨by kernel_rfl, by kernel_rfl, by kernel_rfl, by kernel_rfl, by kernel_rfl, by kernel_rfl, by kernel_rfl⟩ h3 h4
/-- A world for the witness: the tables hold what the text lays. -/
noncomputable def laidWorld (os : Os) : World := World.laidAll Tryd.prog os [("unicode/utf8.acceptRanges", Rows.laid_unicode_utf8_acceptRanges), ("unicode/utf8.first", Rows.laid_unicode_utf8_first)]
theorem laidWorld_os (os : Os) : (laidWorld os).os = os := World.laidAll_os _ _ _
theorem laidWorld_met (os : Os) (args : Array Value) : laidMet Tryd.prog [("unicode/utf8.acceptRanges", Rows.laid_unicode_utf8_acceptRanges), ("unicode/utf8.first", Rows.laid_unicode_utf8_first)] ((laidWorld os).forCall (fun _ _ => 0) ⟨#[], args, []⟩).memory :=
  laidMet_laidAll args (by kernel_rfl) (by kernel_rfl)
end Go.Proofs.YtpdikmcaihlbaaaDoor
namespace Go.Proofs.YtpdikmcaihlbaaaDoor
open Go.ChangeShapes Go.WideShapes Go.ChangeAt Go.RowKit

section
variable {H : Type} {enc : TypeId × Value → H} {W : World}
set_option maxRecDepth 100000 in
theorem value_open {n : Nat} {cs : List Value} {y : DataW H × List MemPlace} (h : DataW.trod enc Tryd.prog W 0 (fun _ => true) true n 26 cs = some y) :
    ∃ x : Vl, cs = [.int .u8 x.1, .int .i64 x.2.1, .string x.2.2] ∧ VlIn x := by
  obtain ⟨xs, m, rfl, rfl, hl, hxl, hall⟩ := DataW.trod_struct Tryd.underlying26 h
  have hcl : cs.length = 3 := hl.trans (by kernel_rfl)
  match cs, hcl with
  | [v0, v1, v2], _ =>
    have hx2 : xs.length = 3 := hxl
    match xs, hx2 with
    | [y0, y1, y2], _ =>
      have e0 : DataW.trod enc Tryd.prog W 0 (fun _ => true) true m 5 [v0] = some y0 := hall 0 _ rfl
      have e1 : DataW.trod enc Tryd.prog W 0 (fun _ => true) true m 2 [v1] = some y1 := hall 1 _ rfl
      have e2 : DataW.trod enc Tryd.prog W 0 (fun _ => true) true m 9 [v2] = some y2 := hall 2 _ rfl
      obtain ⟨k, h0, _, w0⟩ := DataW.trod_int Tryd.underlying5 e0
      obtain ⟨n, h1, _, w1⟩ := DataW.trod_int Tryd.underlying2 e1
      obtain ⟨s, h2, _, w2⟩ := DataW.trod_string Tryd.underlying9 e2
      injection h0 with h0
      injection h1 with h1
      injection h2 with h2
      subst h0 h1 h2
      have b0 := bounds_u8 w0
      have b1 := bounds_i64 w1
      unfold maxLen at w2
      exact ⟨(k, n, s), rfl, ⟨⟨b0.1, by have := b0.2; simp only; omega⟩, ⟨b1.1, by have := b1.2; simp only; omega⟩, w2⟩⟩
/-- What a slice of values reads as. -/
def ValsD (d : DataW H) (L : List Vl) : Prop := (d = .nil ∧ L = []) ∨ ∃ elems spare, d = .slice elems spare ∧ elems.length = L.length
set_option maxRecDepth 100000 in
theorem values_open {n : Nat} {cs : List Value} {y : DataW H × List MemPlace} (hn : DataW.trod enc Tryd.prog W 0 (fun _ => true) true n 22 cs = some y) :
    ∃ A c L, cs = [.slice A L.length c] ∧ L.length ≤ c ∧ RdV W A L ∧ (∀ x ∈ L, VlIn x) ∧ ValsD y.1 L := by
  rcases Deep.open_slice Tryd.underlying22 hn with ⟨hc, rfl⟩ | ⟨a, len, cap, m, n', D, Pl, hc, _, hlc, _, hm, rfl, hx⟩
  · exact ⟨none, 0, [], hc, Nat.le_refl _, fun h => absurd rfl h, fun _ h => (List.not_mem_nil h).elim, .inl ⟨rfl, rfl⟩⟩
  · simp only [if_true] at hm
    subst hm
    have hce : Tryd.prog.cellsOf 26 = 3 := by kernel_rfl
    rw [hce] at hx
    have each : ∀ i, i < m → ∃ x : Vl, (W.cell? (a.add (i * 3)) = some (.int .u8 x.1) ∧ W.cell? ((a.add (i * 3)).add 1) = some (.int .i64 x.2.1) ∧ W.cell? ((a.add (i * 3)).add 2) = some (.string x.2.2)) ∧ VlIn x := fun i hi => by
      obtain ⟨cs', h1, h2⟩ := hx i hi
      obtain ⟨x, rfl, hb⟩ := value_open h2
      obtain ⟨_, _, hcc⟩ := World.cells?_some h1
      have q0 := hcc 0 (by decide)
      have q1 := hcc 1 (by decide)
      have q2 := hcc 2 (by decide)
      refine ⟨x, ⟨?_, q1, q2⟩, hb⟩
      have e0 : (a.add (i * 3)).add 0 = a.add (i * 3) := by unfold Addr.add; simp
      rw [e0] at q0
      exact q0
    obtain ⟨X, hX⟩ := Deep.choose_lt each
    have hlen : ((List.range len).map X).length = len := by simp
    refine ⟨some a, m, (List.range len).map X, by rw [hlen]; exact hc, by rw [hlen]; exact hlc, fun hn0 => ?_, fun x hx => ?_, .inr ⟨_, _, rfl, by simp⟩⟩
    · have hp : 0 < len := by
        rcases Nat.eq_zero_or_pos len with h | h
        · exfalso; apply hn0; rw [h]; rfl
        · exact h
      obtain ⟨b, off, spot⟩ := a
      have hspot : spot = none := by
        obtain ⟨⟨g1, _⟩, _⟩ := hX 0 (by omega)
        simpa [Addr.add] using World.cell?_spot g1
      subst hspot
      refine ⟨b, off, rfl, fun j x hj => ?_⟩
      have hjl := (List.getElem?_eq_some_iff.1 hj).1
      rw [hlen] at hjl
      rw [List.getElem?_map, List.getElem?_range hjl] at hj
      have hj2 : X j = x := by simpa using hj
      obtain ⟨⟨g1, g2, g3⟩, _⟩ := hX j (by omega)
      rw [hj2] at g1 g2 g3
      rw [add_flat] at g1 g2 g3
      rw [add_flat] at g2 g3
      exact ⟨g1, g2, g3⟩
    · obtain ⟨i, hi, rfl⟩ := List.mem_map.1 hx
      exact (hX i (by have := List.mem_range.1 hi; omega)).2
/-- An argument that is a slice of values. -/
theorem open_values {base : Nat} {v : Value} {d : DataW H} {ps : List MemPlace} (hval : Value.okWide Tryd.prog W .any base 22 v)
    (h : DataW.Trod enc Tryd.prog W 0 (fun _ => true) true 22 v d ps) : ∃ A c L, v = .slice A L.length c ∧ L.length ≤ c ∧ RdV W A L ∧ (∀ x ∈ L, VlIn x) ∧ ValsD d L := by
  obtain ⟨a0, len, cap, rfl⟩ := okWide_slice Tryd.underlying22 hval
  obtain ⟨n, hn⟩ := h
  obtain ⟨A, c, L, hc, h1, h2, h3, h4⟩ := values_open hn
  injection hc with hc
  exact ⟨A, c, L, hc, h1, h2, h3, h4⟩
theorem arg_small {P : Program} {ts : List TypeId} {ds : List (DataW H)} {j : Nat} {t : TypeId} {d : DataW H} (hz : (DataW.weightsEach P ts ds).all (· ≤ reachBytes) = true) (ht : ts[j]? = some t) (hd : ds[j]? = some d) : ∀ n ∈ d.weights P t, n ≤ reachBytes := fun n hn => by
  have := List.all_eq_true.1 hz _ (DataW.weights_mem_each ht hd n hn)
  simpa using this
theorem vals_many {d : DataW H} {L : List Vl} (h : ValsD d L) (hw : ∀ n ∈ d.weights Tryd.prog 22, n ≤ reachBytes) : L.length ≤ 4398046511104 := by
  rcases h with ⟨_, rfl⟩ | ⟨elems, spare, rfl, hl⟩
  · exact Nat.zero_le _
  · have h1 := hw ((elems.length + spare.length) * Tryd.prog.bytesOf 26) (by simp [DataW.weights, Tryd.underlying22])
    have e : Tryd.prog.bytesOf 26 = 32 := by kernel_rfl
    rw [e] at h1
    unfold reachBytes at h1
    omega
end
end Go.Proofs.YtpdikmcaihlbaaaDoor
namespace Go.Proofs.YtpdikmcaihlbaaaDoor
open Go.RowKit

section
variable {P : Program} {ops : Array Oper} {Q : Exit → Act → World → Prop} {S : Nat → World → Value → Prop} {a0 : Act} {w0 : World} {B : Nat}
/-- What one operation owes. -/
def StepOkE (B : Nat) (P : Program) (Q : Exit → Act → World → Prop) (ops : Array Oper) (S : Nat → World → Value → Prop) (a0 : Act) (w0 : World) (i : Nat) (o : Oper) : Prop :=
  ∀ (a : Act) (w : World), Grw B w0 w → a.defers = a0.defers → (∀ t, keepsB ops i t = true → a.tmps[t]? = a0.tmps[t]?) →
    (∀ e ∈ o.after, Region.binds .any e = true → ∀ (o' : Oper), ops[e.on]? = some o' → ∀ (d : Nat), o'.dst = some d → ∃ v, a.tmps[d]? = some v ∧ S e.on w v) →
    (Region.wanted o (yielded ops a.tmps) = true ∧ gives P o a w fun v w' => Grw B w w' ∧ S i w' v) ∨ (Region.wanted o (yielded ops a.tmps) = false ∧ S i w undef) ∨ (Region.wanted o (yielded ops a.tmps) = true ∧ ∀ K, o.wp P a w K Q)
theorem wpAny_growE (hok : regOk ops a0.tmps.size = true) (hup : ∀ i w w' v, S i w v → Grw B w w' → S i w' v)
    (hstep : ∀ (i : Nat) (o : Oper), ops[i]? = some o → StepOkE B P Q ops S a0 w0 i o)
    (hend : ∀ (a : Act) (w : World), Grw B w0 w → a.defers = a0.defers → a.tmps.size = a0.tmps.size → (∀ (i : Nat) (o : Oper) (d : Nat), ops[i]? = some o → o.dst = some d → ∃ v, a.tmps[d]? = some v ∧ S i w v) →
      (∀ t, (∀ (i : Nat) (o : Oper), ops[i]? = some o → o.dst ≠ some t) → a.tmps[t]? = a0.tmps[t]?) → Q .normal a w) :
    ∀ (fuel : Nat) (listed : Array Bool) (a : Act) (w : World), RInv B ops S a0 w0 listed a w → listed.toList.count true + fuel = ops.size → wpAny P .any ops Q fuel listed a w := by
  have getb : ∀ (l : Array Bool) (i : Nat) (b : Bool), l.getD i b = (l[i]?).getD b := fun l i b => by simp
  have allTrue : ∀ (l : Array Bool), l.toList.count true = l.size → ∀ i, i < l.size → l[i]? = some true := fun l h i hi => by
    have : ∀ x ∈ l.toList, true = x := by
      rw [← List.count_eq_length]; simpa using h
    rw [Array.getElem?_eq_getElem hi]
    congr 1
    exact (this _ (by simp)).symm
  have fin : ∀ (listed : Array Bool) (a : Act) (w : World), RInv B ops S a0 w0 listed a w → (∀ i, i < ops.size → listed[i]? = some true) → Q .normal a w := by
    intro listed a w I h
    have hlt : ∀ {i : Nat} {o : Oper}, ops[i]? = some o → i < ops.size := fun {i o} ho => by
      rcases Nat.lt_or_ge i ops.size with hlt | hge
      · exact hlt
      · rw [Array.getElem?_eq_none hge] at ho; cases ho
    exact hend a w I.ext I.defers I.tmps (fun i o d ho hd => I.vals i o d ho (h i (hlt ho)) hd) (fun t ht => I.same t fun i o ho hd => absurd hd (ht i o ho))
  have step : ∀ (listed : Array Bool) (a : Act) (w : World) (i : Nat) (K : Act → World → Prop), RInv B ops S a0 w0 listed a w → i ∈ Region.ready .any ops listed →
      (∀ a' w', RInv B ops S a0 w0 (listed.setIfInBounds i true) a' w' → K a' w') → wpOp P ops Q i K a w := by
    intro listed a w i K I hr hK
    obtain ⟨hun, o, ho, hall⟩ := mem_ready.1 hr
    have hi : i < listed.size := by
      rw [I.size]
      rcases Nat.lt_or_ge i ops.size with hlt | hge
      · exact hlt
      · rw [Array.getElem?_eq_none hge] at ho; cases ho
    have hfalse : listed[i]? = some false := by
      rw [getb, Array.getElem?_eq_getElem hi] at hun
      rw [Array.getElem?_eq_getElem hi]; simpa using hun
    have hpre : ∀ e ∈ o.after, Region.binds .any e = true → listed[e.on]? = some true := fun e he hb => by
      have h1 := hall e he hb
      rw [getb] at h1
      cases h2 : listed[e.on]? with
      | none => rw [h2] at h1; simp at h1
      | some b => rw [h2] at h1; simp at h1; rw [h1]
    have hset : ∀ (k : Nat), (listed.setIfInBounds i true)[k]? = if i = k then some true else listed[k]? := fun k => by
      rw [Array.getElem?_setIfInBounds]
      by_cases h : i = k
      · subst h; simp [hi]
      · simp [h]
    have next : ∀ v w', Grw B w w' → S i w' v → RInv B ops S a0 w0 (listed.setIfInBounds i true) (a.put o.dst v) w' := by
      intro v w' hx hS
      refine ⟨by simpa using I.size, I.ext.trans hx, ?_, ?_, ?_, ?_, ?_⟩
      · cases hd : o.dst <;> simpa [Act.put] using I.defers
      · cases hd : o.dst <;> simpa [Act.put] using I.tmps
      · intro k ok hk hl e he hb
        rw [hset] at hl ⊢
        by_cases hki : i = k
        · subst hki
          rw [ho] at hk; cases hk
          split
          · rfl
          · exact hpre e he hb
        · rw [if_neg hki] at hl
          split
          · rfl
          · exact I.closed k ok hk hl e he hb
      · intro k ok d hk hl hd
        rw [hset] at hl
        by_cases hki : i = k
        · subst hki
          rw [ho] at hk; cases hk
          refine ⟨v, ?_, hS⟩
          rw [hd]
          have := regOk_lt hok ho hd
          simp only [Act.put, Array.getElem?_setIfInBounds]
          simp [I.tmps, this]
        · rw [if_neg hki] at hl
          obtain ⟨u, hu, hSu⟩ := I.vals k ok d hk hl hd
          refine ⟨u, ?_, hup _ _ _ _ hSu hx⟩
          cases hod : o.dst with
          | none => simpa [Act.put] using hu
          | some d' =>
            have hne : d' ≠ d := fun e => hki (regOk_one hok ho hk (by rw [hod, e]) hd)
            simp only [Act.put, Array.getElem?_setIfInBounds_ne hne]
            exact hu
      · intro t ht
        have hit : o.dst ≠ some t := fun hd => by
          have := ht i o ho hd
          rw [hset, if_pos rfl] at this; cases this
        have := I.same t fun k ok hk hd => by
          have h2 := ht k ok hk hd
          rw [hset] at h2
          split at h2
          · cases h2
          · exact h2
        rw [← this]
        cases hod : o.dst with
        | none => rfl
        | some d' =>
          have hne : d' ≠ t := fun e => hit (by rw [hod, e])
          simp only [Act.put, Array.getElem?_setIfInBounds_ne hne]
    have hs := hstep i o ho a w I.ext I.defers ?_ ?_
    · unfold wpOp
      simp only [ho]
      rcases hs with ⟨hw, hg⟩ | ⟨hw, hS⟩ | ⟨hw, hE⟩
      · rw [if_pos hw]
        exact .inl (wp_of_gives hg fun v w' ⟨hx, hS⟩ => hK _ _ (next v w' hx hS))
      · rw [if_neg (by rw [hw]; exact Bool.false_ne_true)]
        exact hK _ _ (next _ _ (Grw.refl _ _) hS)
      · rw [if_pos hw]
        exact .inl (hE _)
    · intro t ht
      refine I.same t fun k ok hk hd => ?_
      simp only [keepsB, List.all_eq_true] at ht
      have hm : ok ∈ ops.toList := by simpa using Array.mem_of_getElem? hk
      have := ht ok hm
      simp only [hd, bne_self_eq_false, Bool.false_or, List.any_eq_true, Array.mem_toList_iff] at this
      obtain ⟨e, he, hb⟩ := this
      simp only [Bool.and_eq_true, beq_iff_eq] at hb
      have hkl : k < listed.size := by
        rw [I.size]
        rcases Nat.lt_or_ge k ops.size with hlt | hge
        · exact hlt
        · rw [Array.getElem?_eq_none hge] at hk; cases hk
      cases hv : listed[k]? with
      | none => rw [Array.getElem?_eq_getElem hkl] at hv; cases hv
      | some b =>
        cases b with
        | false => rfl
        | true =>
          have := I.closed k ok hk hv e he hb.2
          rw [hb.1, hfalse] at this; cases this
    · intro e he hb o' ho' d hd
      exact I.vals e.on o' d ho' (hpre e he hb) hd
  have full : ∀ (listed : Array Bool) (a : Act) (w : World), RInv B ops S a0 w0 listed a w → Region.ready .any ops listed = [] → ∀ i, i < ops.size → listed[i]? = some true := by
    intro listed a w I hr i
    induction i using Nat.strongRecOn with
    | ind i ih =>
      intro hi
      cases hv : listed[i]? with
      | none => rw [Array.getElem?_eq_none_iff, I.size] at hv; omega
      | some b =>
        cases b with
        | true => rfl
        | false =>
          exfalso
          have hmem : i ∈ Region.ready .any ops listed := by
            refine mem_ready.2 ⟨by rw [getb, hv]; rfl, ops[i], Array.getElem?_eq_getElem hi, fun e he hb => ?_⟩
            have hlt := regOk_back hok (Array.getElem?_eq_getElem hi) he hb
            rw [getb, ih e.on hlt (by omega)]; rfl
          rw [hr] at hmem; cases hmem
  intro fuel
  induction fuel with
  | zero =>
    intro listed a w I hc
    have hall := allTrue listed (by rw [I.size]; omega)
    rw [I.size] at hall
    refine ⟨?_, fin listed a w I hall⟩
    cases hr : Region.ready .any ops listed with
    | nil => rfl
    | cons i rest =>
      exfalso
      have hm : i ∈ Region.ready .any ops listed := by rw [hr]; simp
      obtain ⟨hun, o, ho, _⟩ := mem_ready.1 hm
      have hlt : i < ops.size := by
        rcases Nat.lt_or_ge i ops.size with hlt | hge
        · exact hlt
        · rw [Array.getElem?_eq_none hge] at ho; cases ho
      rw [getb, hall i hlt] at hun; cases hun
  | succ fuel ih =>
    intro listed a w I hc
    refine ⟨fun hr => fin listed a w I (full listed a w I hr), fun i hi => step listed a w i _ I hi fun a' w' I' => ih _ a' w' I' ?_⟩
    obtain ⟨hun, o, ho, _⟩ := mem_ready.1 hi
    have hlt : i < listed.size := by
      rw [I.size]
      rcases Nat.lt_or_ge i ops.size with hlt | hge
      · exact hlt
      · rw [Array.getElem?_eq_none hge] at ho; cases ho
    rw [count_set (by rw [getb, Array.getElem?_eq_getElem hlt] at hun; rw [Array.getElem?_eq_getElem hlt]; simpa using hun)]
    omega

/-- THE REGION. -/
theorem wp_region_growE {id : Nat} (S : Nat → World → Value → Prop) (hm : P.follows .mixedOrders = true) (hok : regOk ops a0.tmps.size = true)
    (hup : ∀ i w w' v, S i w v → Grw B w w' → S i w' v) (hstep : ∀ (i : Nat) (o : Oper), ops[i]? = some o → StepOkE B P Q ops S a0 w0 i o)
    (hend : ∀ (a : Act) (w : World), Grw B w0 w → a.defers = a0.defers → a.tmps.size = a0.tmps.size → (∀ (i : Nat) (o : Oper) (d : Nat), ops[i]? = some o → o.dst = some d → ∃ v, a.tmps[d]? = some v ∧ S i w v) →
      (∀ t, (∀ (i : Nat) (o : Oper), ops[i]? = some o → o.dst ≠ some t) → a.tmps[t]? = a0.tmps[t]?) → Q .normal a w) :
    (Code.region id ops true).wp P Q a0 w0 := by
  refine wp_region_any hm (wpAny_growE hok hup hstep hend ops.size _ a0 _ ?_ ?_)
  · refine ⟨by simp, Grw.drewn _ _ _, rfl, rfl, ?_, ?_, fun _ _ => rfl⟩
    · intro i o ho hl
      rw [Array.getElem?_replicate] at hl
      split at hl <;> simp at hl
    · intro i o d ho hl
      rw [Array.getElem?_replicate] at hl
      split at hl <;> simp at hl
  · have : (Array.replicate ops.size false).toList.count true = 0 := by simp [List.count_replicate]
    omega
end
/-- What never is: of an operation behind which nothing comes. -/
def Sp.never : Sp := ⟨fun _ _ => False, fun _ _ _ h _ => h⟩
/-- What one operation owes, in the form in which it is paid. -/
def PaysE (B : Nat) (P : Program) (Q : Exit → Act → World → Prop) (ops : Array Oper) (L : List Sp) (a0 : Act) (w0 : World) (i : Nat) (o : Oper) : Prop :=
  ∀ (a : Act) (w : World), Grw B w0 w → B ≤ w.heap.size → (∀ t, keepsB ops i t = true → a.tmps[t]? = a0.tmps[t]?) →
    (∀ j, (o.after.toList.any fun e => e.on == j && Region.binds .any e) = true → ∀ (o' : Oper), ops[j]? = some o' → ∀ (d : Nat), o'.dst = some d → ∃ v, a.tmps[d]? = some v ∧ (L.getD j Sp.any).p w v) →
    (Region.wanted o (yielded ops a.tmps) = true ∧ gives P o a w fun v w' => Grw B w w' ∧ (L.getD i Sp.any).p w' v) ∨ (Region.wanted o (yielded ops a.tmps) = false ∧ (L.getD i Sp.any).p w undef) ∨ (Region.wanted o (yielded ops a.tmps) = true ∧ ∀ K, a.defers = a0.defers → o.wp P a w K Q)
theorem wp_region_spE {B : Nat} {P : Program} {ops : List Oper} {Q : Exit → Act → World → Prop} {a0 : Act} {w0 : World} {id : Nat} (hB : B ≤ w0.heap.size) (L : List Sp) (hm : P.follows .mixedOrders = true) (hok : regOk ops.toArray a0.tmps.size = true)
    (hstep : PaysFrom (PaysE B P Q ops.toArray L a0 w0) 0 ops)
    (hend : ∀ (a : Act) (w : World), Grw B w0 w → a.defers = a0.defers → a.tmps.size = a0.tmps.size → (∀ (i : Nat) (o : Oper) (d : Nat), ops.toArray[i]? = some o → o.dst = some d → ∃ v, a.tmps[d]? = some v ∧ (L.getD i Sp.any).p w v) →
      (∀ t, (∀ (i : Nat) (o : Oper), ops.toArray[i]? = some o → o.dst ≠ some t) → a.tmps[t]? = a0.tmps[t]?) → Q .normal a w) :
    (Code.region id ops.toArray true).wp P Q a0 w0 := by
  refine wp_region_growE (fun i => (L.getD i Sp.any).p) hm hok (fun i w w' v h hx => (L.getD i Sp.any).up w w' v h hx.keeps) ?_ hend
  intro i o ho a w hx hd hk H
  have h := paysFrom_all ops 0 hstep i o (by simpa using ho)
  rw [Nat.zero_add] at h
  refine Or.imp_right (Or.imp_right fun ⟨hw, hE⟩ => ⟨hw, fun K => hE K hd⟩) (h a w hx (Nat.le_trans hB hx.size) hk fun j hj o' ho' d hd' => ?_)
  simp only [List.any_eq_true, Array.mem_toList_iff] at hj
  obtain ⟨e, he, hb⟩ := hj
  simp only [Bool.and_eq_true, beq_iff_eq] at hb
  obtain ⟨rfl, hb⟩ := hb
  exact H e he hb o' ho' d hd'
/-- A call that panics. -/
theorem wp_call_ends {P : Program} {o : Oper} {a : Act} {w : World} {K : Act → World → Prop} {Q : Exit → Act → World → Prop} {f : Nat} {xs : Array Operand} {ats : Array TypeId} {args : Array Value} (h : o.op = .call { callee := .value (.func f), args := xs, argTypes := ats })
    (hcf : ∀ args w, (callFunc f args).run P w = .ok (.enter f args) w) (ha : xs.map a.eval = args)
    (hC : Calls P f args w fun e w' => ∃ c, e = .panicked c ∧ Q (.panic c) a w') : o.wp P a w K Q := by
  have hr : (execOp a.eval o).run P w = .ok (.enter f args) w := by
    obtain ⟨dst, op, type, pos, after, guard⟩ := o
    subst h
    rw [execOp_call_go, ha]
    simp [hcf]
  unfold Oper.wp
  rw [hr]
  refine hC.mono fun e w' h => ?_
  obtain ⟨c, rfl, hq⟩ := h
  exact hq
end Go.Proofs.YtpdikmcaihlbaaaDoor
namespace Go.Proofs.YtpdikmcaihlbaaaDoor
open Go.RowKit

/-- What a reader panics with. -/
def gaveUp : Value := .iface 85 (.agg #[])
set_option maxRecDepth 20000 in
theorem must_any (b : Bool) (w : World) : Calls Tryd.prog 49 #[.bool b] w (fun e w' => (e = if b = true then .returned (.tuple #[]) else .panicked [{ v := gaveUp, recovered := false }]) ∧ w' = w) := by
  cases b
  · go_enter Tryd.func49, Tryd.ntmps49
    go_wp2
    exact ⟨rfl, rfl, rfl⟩
  · go_enter Tryd.func49, Tryd.ntmps49
    go_wp2
    go_end0
    exact ⟨rfl, rfl⟩
/-- A reader's block: the bytes and the place. -/
def RdrC (w : World) (g : Nat) (A : Option Addr) (n c : Nat) (a : Nat) : Prop := Rw w g 62 [.slice A n c, .int .i64 (a : Int)]
theorem grown_ext {w w1 w2 : World} {r : Option Nat} (h : w.grownBy w1 r) (hx : Ext w1 w2) : w.grownBy w2 r :=
  ⟨hx.os.trans h.os, hx.tape.trans h.tape, hx.output.trans h.output, Nat.le_trans h.size hx.size, fun k hk hne => (hx.block k (Nat.lt_of_lt_of_le hk h.size)).trans (h.block k hk hne)⟩
theorem grown_grw {w w' : World} (h : Grw w.heap.size w w') {r : Option Nat} : w.grownBy w' r := grown_ext (World.grownBy.refl w r) ((Ext.refl w).grw h)
/-- What a call of the reader leaves: nothing but its block is other. -/
def OneC (w : World) (g : Nat) (A : Option Addr) (n c : Nat) (r : Option (Value × Nat)) (e : Ending) (w' : World) : Prop := w.grownBy w' (some g) ∧ match r with
  | none => e = .panicked [{ v := gaveUp, recovered := false }]
  | some (v, a) => e = .returned v ∧ RdrC w' g A n c a
set_option maxRecDepth 20000 in
set_option maxHeartbeats 1600000 in
theorem one_any (g : Nat) (A : Option Addr) (l : List UInt8) (n c a : Nat) (w0 w : World) (hr0 : Rd w0 A l) (hx : Ext w0 w) (hg : w0.heap.size ≤ g) (hn : l.length = n) (hnc : n ≤ c) (hl : n ≤ 140737488351232) (han : a ≤ n) (hR : RdrC w g A n c a) :
    Calls Tryd.prog 48 #[.pointer (some ⟨g, 0, none⟩)] w (OneC w g A n c (match l[a]? with | some x => some (.int .u8 (x.toNat : Int), a + 1) | none => none)) := by
  have hR : Rw w g 62 [.slice A n c, .int .i64 (a : Int)] := hR
  have RG := hide hR
  have hnI : (n : Int) ≤ 140737488351232 := by omega
  have haI : (a : Int) ≤ 140737488351232 := by omega
  by_cases hlt : a < n
  · have hai : (a : Int) < (n : Int) := by omega
    obtain ⟨x, hx0⟩ : ∃ x, l[a]? = some x := ⟨_, List.getElem?_eq_getElem (by omega)⟩
    rw [hx0]
    obtain ⟨b, off, hA, hc⟩ := hr0 (by intro h; rw [h] at hx0; cases hx0)
    subst hA
    have hbx := hc a x hx0
    have hbg : b ≠ g := by
      intro e
      subst e
      have h2 : w0.heap[b]? = none := Array.getElem?_eq_none (by omega)
      simp [World.cell?, h2] at hbx
    have hcx := hx.keeps.cell hbx
    have KM := hide (fun (W : World) => must_any true W)
    have c0 := hR.cell (i := 0) rfl
    have c1 := hR.cell (i := 1) rfl
    have f1 := hR.frozen 1
    clear hc hbx
    go_enter Tryd.func48, Tryd.ntmps48
    go_upto_region 1 with fail
    go_cut [13] from 3 to 13 (fun _ wx => wx = w.drew)
    case first =>
      go_region_law (go_simp; go_at_call 49; (with_reducible refine (KM.out _).mono ?_); rintro e x ⟨rfl, rfl⟩)
      all_goals (go_wp2_with fail; go_meet; rfl)
    case rest =>
      have hxc : Ext w wc := by rw [hcut]; exact Ext.drew w
      clear hcut
      have RD := hide (RG.out.ext hxc)
      have hcx1 := hxc.keeps.cell hcx
      have d0 := RD.out.cell (i := 0) rfl
      have d1 := RD.out.cell (i := 1) rfl
      have df := RD.out.frozen 1
      go_upto_region 3 with fail
      obtain ⟨w2, hR2, hG2, hcx2, hgg⟩ : ∃ W, Rw W g 62 [.slice (some ⟨b, off, none⟩) n c, .int .i64 ((a : Int) + 1)] ∧ w.grownBy W (some g) ∧ W.cell? ⟨b, off + a, none⟩ = some (.int .u8 (x.toNat : Int)) ∧ wc.setCell ⟨g, 1, none⟩ (.int .i64 ((a : Int) + 1)) = W := ⟨wc.setCell ⟨g, 1, none⟩ (.int .i64 ((a : Int) + 1)), RD.out.set 1 _, ⟨hxc.os, hxc.tape, hxc.output, Nat.le_trans hxc.size (by simp [World.setCell]), fun k hk hne => (Below.heap_setCell wc ⟨g, 1, none⟩ _ k (fun e => hne (by simp only at e; rw [e]))).trans (hxc.block k hk)⟩, (World.cell?_of_block (a := ⟨b, off + a, none⟩) (Below.heap_setCell wc ⟨g, 1, none⟩ _ b hbg)).trans hcx1, rfl⟩
      rw [hgg]
      have R2 := hide hR2
      have G2 := hide hG2
      clear hgg hR2 hG2 d0 d1 df RD hcx1 hxc
      have d0 := R2.out.cell (i := 0) rfl
      have d1 := R2.out.cell (i := 1) rfl
      have hcai : (a : Int) ≤ (n : Int) := by omega
      go_quiet (fail)
      go_wp2
      go_ret
      refine ⟨grown_ext G2.out (Ext.drewn w2 _), rfl, ?_⟩
      unfold RdrC
      rw [show ((a + 1 : Nat) : Int) = (a : Int) + 1 from by omega]
      exact R2.out.ext (Ext.drewn w2 _)
  · have hai : ¬ (a : Int) < (n : Int) := by omega
    rw [List.getElem?_eq_none (by omega)]
    have KM := hide (fun (W : World) => must_any false W)
    have d0 := hR.cell (i := 0) rfl
    have d1 := hR.cell (i := 1) rfl
    go_enter Tryd.func48, Tryd.ntmps48
    go_upto_region 1 with fail
    rename_i hK
    refine wp_region_spE (Nat.le_refl _) [Sp.is (.pointer (some ⟨g, 0, none⟩)), Sp.is (.pointer (some ⟨g, 0, none⟩)), Sp.is (.pointer (some ⟨g, 1, none⟩)), Sp.is (.int .i64 (a : Int)), Sp.is (.pointer (some ⟨g, 0, none⟩)), Sp.is (.pointer (some ⟨g, 0, none⟩)), Sp.is (.pointer (some ⟨g, 0, none⟩)), Sp.is (.slice A n c), Sp.is (.int .i64 (n : Int)), Sp.is (.bool false), Sp.never] (by kernel_rfl) (by kernel_rfl) ?_ ?_
    · refine ⟨?_, ?_, ?_, ?_, ?_, ?_, ?_, ?_, ?_, ?_, ?_, trivial⟩
      · intro az wz hx hB hk H
        refine .inl ⟨wanted_none rfl, ?_⟩
        refine gives_move rfl ?_
        rw [(ev (show az.tmps[0]? = some (.pointer (some ⟨g, 0, none⟩)) from hk 0 rfl))]
        exact ⟨Grw.refl _ _, rfl⟩
      · intro az wz hx hB hk H
        obtain ⟨v3, h3, s3⟩ := H 0 rfl _ rfl 3 rfl
        obtain rfl : v3 = .pointer (some ⟨g, 0, none⟩) := s3
        refine .inl ⟨wanted_none rfl, ?_⟩
        refine gives_of_run (w' := wz) (v := .pointer (some ⟨g, 0, none⟩)) ?_ ⟨Grw.refl _ _, rfl⟩
        simp [execOp, go_sem, h3]
      · intro az wz hx hB hk H
        obtain ⟨v4, h4, s4⟩ := H 1 rfl _ rfl 4 rfl
        obtain rfl : v4 = .pointer (some ⟨g, 0, none⟩) := s4
        refine .inl ⟨wanted_none rfl, ?_⟩
        refine gives_of_run (w' := wz) (v := .pointer (some ⟨g, 1, none⟩)) ?_ ⟨Grw.refl _ _, rfl⟩
        simp [execOp, go_sem, h4]
      · intro az wz hx hB hk H
        obtain ⟨v5, h5, s5⟩ := H 2 rfl _ rfl 5 rfl
        obtain rfl : v5 = .pointer (some ⟨g, 1, none⟩) := s5
        have hcc := hx.keeps.cell d1
        refine .inl ⟨wanted_none rfl, ?_⟩
        refine gives_of_run (w' := wz) (v := .int .i64 (a : Int)) ?_ ⟨Grw.refl _ _, rfl⟩
        simp [execOp, go_sem, h5, hcc]
      · intro az wz hx hB hk H
        refine .inl ⟨wanted_none rfl, ?_⟩
        refine gives_move rfl ?_
        rw [(ev (show az.tmps[0]? = some (.pointer (some ⟨g, 0, none⟩)) from hk 0 rfl))]
        exact ⟨Grw.refl _ _, rfl⟩
      · intro az wz hx hB hk H
        obtain ⟨v7, h7, s7⟩ := H 4 rfl _ rfl 7 rfl
        obtain rfl : v7 = .pointer (some ⟨g, 0, none⟩) := s7
        refine .inl ⟨wanted_none rfl, ?_⟩
        refine gives_of_run (w' := wz) (v := .pointer (some ⟨g, 0, none⟩)) ?_ ⟨Grw.refl _ _, rfl⟩
        simp [execOp, go_sem, h7]
      · intro az wz hx hB hk H
        obtain ⟨v8, h8, s8⟩ := H 5 rfl _ rfl 8 rfl
        obtain rfl : v8 = .pointer (some ⟨g, 0, none⟩) := s8
        refine .inl ⟨wanted_none rfl, ?_⟩
        refine gives_of_run (w' := wz) (v := .pointer (some ⟨g, 0, none⟩)) ?_ ⟨Grw.refl _ _, rfl⟩
        simp [execOp, go_sem, h8]
      · intro az wz hx hB hk H
        obtain ⟨v9, h9, s9⟩ := H 6 rfl _ rfl 9 rfl
        obtain rfl : v9 = .pointer (some ⟨g, 0, none⟩) := s9
        have hcc := hx.keeps.cell d0
        refine .inl ⟨wanted_none rfl, ?_⟩
        refine gives_of_run (w' := wz) (v := .slice A n c) ?_ ⟨Grw.refl _ _, rfl⟩
        simp [execOp, go_sem, h9, hcc]
      · intro az wz hx hB hk H
        obtain ⟨v10, h10, s10⟩ := H 7 rfl _ rfl 10 rfl
        obtain rfl : v10 = .slice A n c := s10
        refine .inl ⟨wanted_none rfl, ?_⟩
        refine gives_of_run (w' := wz) (v := .int .i64 (n : Int)) ?_ ⟨Grw.refl _ _, rfl⟩
        simp [execOp, go_sem, h10]
      · intro az wz hx hB hk H
        obtain ⟨v6, h6, s6⟩ := H 3 rfl _ rfl 6 rfl
        obtain rfl : v6 = .int .i64 (a : Int) := s6
        obtain ⟨v11, h11, s11⟩ := H 8 rfl _ rfl 11 rfl
        obtain rfl : v11 = .int .i64 (n : Int) := s11
        refine .inl ⟨wanted_none rfl, ?_⟩
        refine gives_lss_int (k := .i64) (a : Int) (n : Int) rfl (ev h6) (ev h11) ⟨Grw.refl _ _, ?_⟩
        show Value.bool (decide ((a : Int) < (n : Int))) = .bool false
        rw [decide_eq_false hai]
      · intro az wz hx hB hk H
        obtain ⟨v12, h12, s12⟩ := H 9 rfl _ rfl 12 rfl
        obtain rfl : v12 = .bool false := s12
        refine .inr (.inr ⟨wanted_none rfl, fun K hdf => ?_⟩)
        refine wp_call_ends rfl Tryd.call49 (by simp only [List.map_toArray, List.map_cons, List.map_nil, ev h12]) ((KM.out wz).mono ?_)
        rintro e w2 ⟨rfl, rfl⟩
        exact ⟨_, rfl, hdf, ⟨grown_grw hx, rfl⟩⟩
    · intro az wz hx hd hs hv hsame
      obtain ⟨v, _, hf⟩ := hv 10 _ 13 rfl rfl
      exact hf.elim
end Go.Proofs.YtpdikmcaihlbaaaDoor
namespace Go.Proofs.YtpdikmcaihlbaaaDoor
open Go.RowKit

/-- The number that stands at a place. -/
def numAt (l : List UInt8) (a : Nat) : Int := num ((l.drop a).take 8) - 9223372036854775808
theorem rdOrd_yes (l : List UInt8) (a : Nat) (h : a + 8 ≤ l.length) : rdOrd l (a : Int) = (numAt l a, ((a + 8 : Nat) : Int), 0) := by
  unfold rdOrd
  have e : rdNum l (a : Int) = (num ((l.drop a).take 8), (a : Int) + 8, 0) := by
    unfold rdNum
    rw [if_neg (by omega), if_neg (by omega), Int.toNat_natCast]
  rw [e]
  rfl
theorem rdOrd_no (l : List UInt8) (a : Nat) (ha : a ≤ l.length) (h : l.length < a + 8) : rdOrd l (a : Int) = (0, 0, 3) := by
  unfold rdOrd
  have e : rdNum l (a : Int) = (0, 0, 3) := by
    unfold rdNum
    rw [if_neg (by omega), if_pos (by omega)]
  rw [e]
  rfl
set_option maxRecDepth 20000 in
set_option maxHeartbeats 1600000 in
theorem number_any (g : Nat) (A : Option Addr) (l : List UInt8) (n c a : Nat) (w0 w : World) (hr0 : Rd w0 A l) (hx : Ext w0 w) (hn : l.length = n) (hnc : n ≤ c) (hl : n ≤ 140737488351232) (han : a ≤ n) (hR : RdrC w g A n c a) :
    Calls Tryd.prog 53 #[.pointer (some ⟨g, 0, none⟩)] w (OneC w g A n c (if a + 8 ≤ n then some (.int .i64 (numAt l a), a + 8) else none)) := by
  have hR : Rw w g 62 [.slice A n c, .int .i64 (a : Int)] := hR
  have RG := hide hR
  have hnI : (n : Int) ≤ 140737488351232 := by omega
  have haI : (a : Int) ≤ 140737488351232 := by omega
  obtain ⟨x, hxr⟩ : ∃ x, rdOrd l (a : Int) = x := ⟨_, rfl⟩
  have KR := hide (fun (W : World) (hW : Ext w0 W) => (show Calls Tryd.prog 57 #[.slice A n c, .int .i64 (a : Int)] W (Three .i64 x W) from by
    have h := readInt_any A c l (a : Int) W (hr0.ext hW) (by omega) (by omega)
    rw [hn, hxr] at h
    exact h))
  have c0 := hR.cell (i := 0) rfl
  have c1 := hR.cell (i := 1) rfl
  have HX0 := hide (hx.trans (Ext.drew w))
  by_cases h8 : a + 8 ≤ n
  · rw [if_pos h8]
    rw [rdOrd_yes l a (by omega)] at hxr
    subst hxr
    obtain ⟨v, HV⟩ : ∃ v, Hid (numAt l a = v) := ⟨_, hide rfl⟩
    rw [HV.out] at KR
    rw [HV.out]
    have KM := hide (fun (W : World) => must_any true W)
    clear hR hr0
    go_enter Tryd.func53, Tryd.ntmps53
    go_upto_region 1 with fail
    go_cut [3, 4, 5] from 6 to 18 (fun p q r wx => p = .int .i64 v ∧ q = .int .i64 ((a + 8 : Nat) : Int) ∧ r = .int .i64 0 ∧ wx = w.drew)
    case first =>
      go_region_law (go_simp; go_at_call 57; (with_reducible refine (KR.out _ HX0.out).mono ?_); rintro e x ⟨rfl, rfl⟩)
      all_goals (go_wp2_with fail; go_meet; exact ⟨rfl, rfl, rfl, rfl⟩)
    case rest =>
      obtain ⟨rfl, rfl, rfl, hwc⟩ := hcut
      have hxc : Ext w wc := by rw [hwc]; exact Ext.drew w
      clear hwc c0 c1
      have RD := hide (RG.out.ext hxc)
      have df := RD.out.frozen 1
      have d1 := RD.out.cell (i := 1) rfl
      go_wp2_with (go_at_call 49; (with_reducible refine (KM.out _).mono ?_); rintro e x ⟨rfl, hx2⟩; have hx2 := hx2.symm; subst hx2)
      go_ret
      refine ⟨⟨hxc.os, hxc.tape, hxc.output, Nat.le_trans hxc.size (by simp [World.setCell]), fun k hk hne => (Below.heap_setCell wc ⟨g, 1, none⟩ _ k (fun e => hne (by simp only at e; rw [e]))).trans (hxc.block k hk)⟩, rfl, RD.out.set 1 _⟩
  · rw [if_neg h8]
    rw [rdOrd_no l a (by omega) (by omega)] at hxr
    subst hxr
    have KM := hide (fun (W : World) => must_any false W)
    clear hR hr0
    go_enter Tryd.func53, Tryd.ntmps53
    go_upto_region 1 with fail
    go_cut [3, 4, 5] from 6 to 18 (fun p q r wx => p = .int .i64 0 ∧ q = .int .i64 0 ∧ r = .int .i64 3 ∧ wx = w.drew)
    case first =>
      go_region_law (go_simp; go_at_call 57; (with_reducible refine (KR.out _ HX0.out).mono ?_); rintro e x ⟨rfl, rfl⟩)
      all_goals (go_wp2_with fail; go_meet; exact ⟨rfl, rfl, rfl, rfl⟩)
    case rest =>
      obtain ⟨rfl, rfl, rfl, hwc⟩ := hcut
      have hxc : Ext w wc := by rw [hwc]; exact Ext.drew w
      clear hwc c0 c1
      go_wp2_with (go_at_call 49; (with_reducible refine (KM.out _).mono ?_); rintro e x ⟨rfl, hx2⟩; have hx2 := hx2.symm; subst hx2)
      exact ⟨rfl, grown_ext (World.grownBy.refl w _) hxc, rfl⟩
end Go.Proofs.YtpdikmcaihlbaaaDoor
