/-
  CodecRuns: for all lists of values, as many as the form reaches, the law answers true and leaves them as they were; utf8.first and utf8.acceptRanges hold what the program's text lays.
  What is read is written: the document's reading of a row, and the program's.
  The document's Decode of any bytes.
  The walk of CodecDecodes.
  CodecDecodes: for all bytes, as many as the form reaches, the law answers true and leaves them as they were; utf8.first and utf8.acceptRanges hold what the program's text lays.
-/
import Derived.Test.YtpdikmcaihlbaaaDoorPkCdE20
import Derived.Test.YtpdikmcaihlbaaaDoorPkCdE21
import Derived.Test.YtpdikmcaihlbaaaDoorPkCdE22
import Derived.Test.YtpdikmcaihlbaaaDoorPkCdE25
import Derived.Test.YtpdikmcaihlbaaaDoorPkCdE26
import Derived.Test.YtpdikmcaihlbaaaDoorPkCdE27
import Derived.Test.YtpdikmcaihlbaaaDoorPkCdE28
import Derived.Test.YtpdikmcaihlbaaaDoorPkCdE29
import Derived.Test.YtpdikmcaihlbaaaDoorPkCdE210
set_option linter.unusedVariables false
set_option linter.unusedSimpArgs false

namespace Go.Proofs.YtpdikmcaihlbaaaDoor.lawCodecRuns
open Go.ChangeShapes Go.WideShapes Go.ChangeAt Go.RowKit
open Go.ChangeMaps (open_string)

set_option maxRecDepth 100000 in
theorem contract (H : Type) (enc : TypeId × Value → H) (W : World) (base : Nat) (args : Array Value) (ds gs : List (DataW H)) (before : List MemPlace)
    (hval : ∀ (j : Nat) t v, Tryd.f9.params[j]? = some t → args[j]? = some v → Value.okWide Tryd.prog W .any base t v)
    (hW : DataW.Whole enc Tryd.prog Tryd.f9.params.toList Rows.codecRunsSpec.vars false W args.toList ds gs before) (hz : (DataW.weightsEach Tryd.prog (Tryd.f9.params.toList ++ (OpenSpec.ofChange Rows.codecRunsSpec).bare.plain.varTypes Tryd.prog) (ds ++ gs)).all (· ≤ reachBytes) = true) (hL : laidMetH Tryd.prog Rows.codecRunsRow.laid W) :
    Calls Tryd.prog 9 args W fun e W' => ∃ v, e = .returned v ∧ Rows.codecRunsSpec.post enc Tryd.prog Tryd.f9 false true false false W args v W' := by
  have hW' := hW
  obtain ⟨p, q, hA0, hV, hbe, hfz, hnd⟩ := hW
  have hA : DataW.TrodAll enc Tryd.prog W 0 (fun _ => true) true Tryd.f9.params.toList args.toList ds p := hA0
  obtain ⟨rfl, rfl⟩ := trodVars_none hV
  rw [Tryd.params9] at hA hval
  obtain ⟨v0, vs0, d0, ds0, p0, q0, hg0, hd0, hp0, h0, r0⟩ := trodAll_cons hA
  obtain ⟨v1, vs1, d1, ds1, p1, q1, hg1, hd1, hp1, h1, r1⟩ := trodAll_cons r0
  obtain ⟨e1, e2, e3⟩ := trodAll_nil r1
  have hds : ds = [d0, d1] := by simp [hd0, hd1, e2]
  obtain rfl : args = #[v0, v1] := by
    have : args.toList = [v0, v1] := by simp [hg0, hg1, e1]
    exact Array.toList_inj.1 this
  subst hds
  obtain ⟨A0, c0, l0, rfl, hc0, hr0, iv0, hd0⟩ := open_values (hval 0 22 v0 rfl rfl) h0
  have hm0 := vals_many hd0 (arg_small hz (j := 0) rfl rfl)
  obtain ⟨A1, c1, l1, rfl, hc1, hr1, iv1, hd1⟩ := open_values (hval 1 22 v1 rfl rfl) h1
  have hm1 := vals_many hd1 (arg_small hz (j := 1) rfl rfl)
  have ht := tabs_of_laid hL
  refine (((codecRuns_walk A0 A1 l0 l1 l0.length l1.length c0 c1 W hr0 hr1 rfl rfl iv0 iv1 ht hm0 hm1).mono fun e w' ⟨he, hx⟩ => (⟨_, he, hx, rfl⟩ : Ret W (Is (.bool true)) e w'))).mono fun e W' ⟨v, he, hx, hv⟩ => ?_
  subst he
  have hv' : v = .bool true := hv
  subst hv'
  exact ⟨_, rfl, law_post laidOut hW' rfl (by rw [Tryd.params9]; exact readable_all _ (by kernel_rfl)) (by kernel_rfl) Tryd.underlying4 rfl hx⟩

theorem laid_met (os : Os) : laidMet Tryd.prog Rows.codecRunsRow.laid ((laidWorld os).forCall (fun _ _ => 0) ⟨#[], #[Value.slice none 0 0, Value.slice none 0 0], []⟩).memory :=
  laidWorld_met os _
theorem reads (os : Os) {H : Type} (enc : TypeId × Value → H) : ∃ places, DataW.whole enc Tryd.prog ((laidWorld os).forCall (fun _ _ => 0) ⟨#[], #[Value.slice none 0 0, Value.slice none 0 0], []⟩).memory Tryd.f9.params.toList Rows.codecRunsSpec.vars false (#[Value.slice none 0 0, Value.slice none 0 0]).toList 8 = some ([.nil, .nil], [], places) :=
  ⟨[], by kernel_rfl⟩

set_option maxRecDepth 100000 in
theorem lifted (os : Os) (started : os.Started) (H : Type) (enc : TypeId × Value → H) (F : Stop.Interp) :
    ReturnsInHanded {} Tryd.checked os 9 .any ((OpenSpec.ofChange Rows.codecRunsSpec).preRow enc Tryd.prog Tryd.f9 Rows.codecRunsRow.domain false Rows.codecRunsRow.laid) (((OpenSpec.ofChange Rows.codecRunsSpec).at F).post enc Tryd.prog Tryd.f9 false true false false) := by
  obtain ⟨places, hx⟩ := reads os enc
  refine returnsInHanded_of_row (C := Tryd.checked) (s := (OpenSpec.ofChange Rows.codecRunsSpec)) own started (by kernel_rfl) Tryd.func9
    (witness_row_at (enc := enc) (C := Tryd.checked) false (laidWorld os) #[Value.slice none 0 0, Value.slice none 0 0] (laidWorld_os os) (by kernel_rfl) (by kernel_rfl) (by kernel_rfl)
      (OpenSpec.preRow_of_cond 8 hx (by kernel_rfl) (fun k hk => by cases hk) (by kernel_rfl) (laid_met os))) ?_
  intro W base args ds gs before hval hW _ hcond hz hL _ _
  exact contract H enc W base args ds gs before hval hW hz hL

theorem said : Rows.CodecRunsSaid :=
  OpenClaim.holds_of_cond 9 Tryd.f9 rfl rfl rfl rfl rfl rfl rfl ⟨rfl, rfl, rfl, rfl, rfl⟩ rfl rfl rfl rfl rfl (by kernel_rfl) Tryd.func9 (by kernel_rfl)
    (of_decide_eq_true (by kernel_rfl)) (by unfold Func.isWrapper; first | (rw [if_pos (by decide +kernel)]; kernel_rfl) | (rw [if_neg (by decide +kernel)]; exact ⟨rfl, rfl⟩))
    (fun os started H enc _ F => by rw [OpenClaim.pre_eq_preRow]; exact lifted os started H enc F)

theorem plain (f : FuncId) (fn : Func) (hf : Tryd.pinned.checked.prog.funcNamed "muniment/munimentlaw04.CodecRuns" = some f) (hfn : Tryd.pinned.checked.prog.funcs[f]? = some fn) :
    Rows.codecRunsCard.stood.looks = Tryd.pinned.checked.prog.looks [] ∧ ∀ (j : Nat) t, fn.params[j]? = some t → Tryd.pinned.checked.prog.wantsStandIn t = false := by
  obtain rfl : f = 9 := Option.some.inj ((show Tryd.prog.funcNamed "muniment/munimentlaw04.CodecRuns" = some 9 by kernel_rfl).symm.trans hf) |>.symm
  obtain rfl : fn = Tryd.f9 := (Option.some.inj (Tryd.func9.symm.trans hfn)).symm
  refine ⟨by kernel_rfl, fun j t ht => ?_⟩
  have h := (show (Tryd.f9.params.toList.all fun t => !Tryd.prog.wantsStandIn t) = true by kernel_rfl)
  have h2 := List.all_eq_true.1 h t (by simpa using Array.mem_of_getElem? ht)
  have h3 : Tryd.prog.wantsStandIn t = false := by simpa using h2
  exact h3

/-- The card. -/
theorem card : Rows.CodecRunsCardSaid :=
  Claim7.holds_tied_plain_at .later [] _ _ _ _ said (fun _ h => by cases h) (by kernel_rfl) (fun _ h => by cases h) codecRuns_row_tie rfl ⟨rfl, rfl⟩ (by kernel_rfl) rfl plain (by kernel_rfl)
end Go.Proofs.YtpdikmcaihlbaaaDoor.lawCodecRuns
namespace Go.Proofs.YtpdikmcaihlbaaaDoor
open Go.RowKit

theorem noS_leD : noS.size ≤ 9223372036854775807 := by decide
theorem vlinD (k n : Int) (s : ByteArray) (h0 : 0 ≤ k) (h1 : k < 256) (h2 : -9223372036854775808 ≤ n) (h3 : n < 9223372036854775808) (h4 : s.size ≤ 9223372036854775807) : VlIn (k, n, s) := ⟨⟨h0, h1⟩, ⟨h2, h3⟩, h4⟩
theorem inv_be64 : ∀ b : List UInt8, b.length = 8 → be64 (num b) = b
  | [b0, b1, b2, b3, b4, b5, b6, b7], _ => by
    have h0 := b0.toNat_lt
    have h1 := b1.toNat_lt
    have h2 := b2.toNat_lt
    have h3 := b3.toNat_lt
    have h4 := b4.toNat_lt
    have h5 := b5.toNat_lt
    have h6 := b6.toNat_lt
    have h7 := b7.toNat_lt
    unfold be64 num
    simp only [List.foldl_cons, List.foldl_nil]
    have bb : ∀ (u : Int) (b : UInt8), u = (b.toNat : Int) → b8 u = b := fun u b h => by rw [h]; exact b8_byte b
    rw [bb _ b0 (by omega), bb _ b1 (by omega), bb _ b2 (by omega), bb _ b3 (by omega), bb _ b4 (by omega), bb _ b5 (by omega), bb _ b6 (by omega), bb _ b7 (by omega)]
/-- What stands at a place, asked for nothing. -/
def rawV (l : List UInt8) (a : Nat) : Option (Vl × Nat) := match l[a]? with
  | none => none
  | some x => rawAt txtAt l a x
/-- So many of them from a place on. -/
def rawMany : Nat → List UInt8 → Nat → Option (List Vl × Nat)
  | 0, _, a => some ([], a)
  | k + 1, l, a => match rawMany k l a with
    | none => none
    | some r => match rawV l r.2 with
      | none => none
      | some q => some (r.1 ++ [q.1], q.2)
/-- The document's reading: read, written, and held against the bytes. -/
def refAt (l : List UInt8) : Option (List Vl) := match l[0]? with
  | none => none
  | some x => match rawMany x.toNat l 1 with
    | none => none
    | some r => if encT r.1 = (0, some l) then some r.1 else none
theorem rawMany_none (l : List UInt8) (a k : Nat) (h : rawMany k l a = none) : ∀ j, rawMany (k + j) l a = none
  | 0 => h
  | j + 1 => by
    show (match rawMany (k + j) l a with | none => none | some r => _) = none
    rw [rawMany_none l a k h j]
theorem valAt_raw {l : List UInt8} {a : Nat} {q : Vl × Nat} (h : valAt txtAt l a = some q) : rawV l a = some q ∧ vOk q.1 = true := by
  unfold valAt at h
  unfold rawV
  cases h0 : l[a]? with
  | none => rw [h0] at h; cases h
  | some x =>
    rw [h0] at h
    simp only at h ⊢
    cases hq : rawAt txtAt l a x with
    | none => rw [hq] at h; cases h
    | some r =>
      rw [hq] at h
      simp only at h
      split at h
      · rename_i hv; injection h with h; subst h; exact ⟨rfl, hv⟩
      · cases h
/-- What is read takes its bytes. -/
theorem raw_le {l : List UInt8} {a : Nat} {q : Vl × Nat} (h : rawV l a = some q) : q.2 ≤ l.length ∧ a < q.2 ∧ VlIn q.1 := by
  unfold rawV at h
  cases h0 : l[a]? with
  | none => rw [h0] at h; cases h
  | some x =>
    rw [h0] at h
    have hal := (List.getElem?_eq_some_iff.1 h0).1
    have hxl := x.toNat_lt
    simp only at h
    unfold rawAt at h
    split at h
    · split at h
      · rename_i h8
        injection h with h; subst h
        have hr := numAt_range l (a + 1) (by omega)
        exact ⟨by simp only; omega, by simp only; omega, vlinD _ _ _ (by decide) (by decide) hr.1 hr.2 noS_leD⟩
      · cases h
    · split at h
      · cases ht : txtAt l (a + 1) with
        | none => rw [ht] at h; cases h
        | some y =>
          rw [ht] at h
          injection h with h
          subst h
          have := txtAt_len (tx := y.1) (k := y.2) ht
          have hz : y.1.length ≤ 255 := by
            unfold txtAt at ht
            split at ht
            · cases ht
            · rename_i z _
              split at ht
              · injection ht with ht
                subst ht
                have := z.toNat_lt
                simp only [List.length_take, List.length_drop]; omega
              · cases ht
          exact ⟨by simp only; omega, by simp only; omega, vlinD _ _ _ (by decide) (by decide) (by decide) (by decide) (by show y.1.toArray.size ≤ _; rw [List.size_toArray]; omega)⟩
      · split at h
        · cases hy : l[a + 1]? with
          | none => rw [hy] at h; cases h
          | some y =>
            rw [hy] at h
            injection h with h
            subst h
            have := (List.getElem?_eq_some_iff.1 hy).1
            have hyl := y.toNat_lt
            exact ⟨by simp only; omega, by simp only; omega, vlinD _ _ _ (by decide) (by decide) (by omega) (by omega) noS_leD⟩
        · injection h with h; subst h; exact ⟨by simp only; omega, by simp only; omega, vlinD _ _ _ (by omega) (by omega) (by decide) (by decide) noS_leD⟩
theorem takeNx {l : List UInt8} {a : Nat} {x : UInt8} (h : l[a]? = some x) : l.take (a + 1) = l.take a ++ [x] := by
  rw [List.take_add_one, h]; rfl
/-- What is read is written. -/
theorem raw_write {l : List UInt8} {a : Nat} {q : Vl × Nat} (h : rawV l a = some q) (hv : vOk q.1 = true) : l.take q.2 = l.take a ++ rowV q.1 := by
  unfold rawV at h
  cases h0 : l[a]? with
  | none => rw [h0] at h; cases h
  | some x =>
    rw [h0] at h
    have hxl := x.toNat_lt
    have hx8 : b8 (x.toNat : Int) = x := b8_byte x
    simp only at h
    unfold rawAt at h
    by_cases h1 : x.toNat = 1
    · rw [if_pos h1] at h
      have ex : x = 1 := by rw [← hx8, h1]; rfl
      split at h
      · rename_i h8
        injection h with h; subst h
        have h2 := num_take_lt8 (l.drop (a + 1))
        have hl : ((l.drop (a + 1)).take 8).length = 8 := by simp; omega
        have e : ord64 (numAt l (a + 1)) = (l.drop (a + 1)).take 8 := by
          unfold ord64 numAt
          rw [show num ((l.drop (a + 1)).take 8) - 9223372036854775808 + 9223372036854775808 = num ((l.drop (a + 1)).take 8) by omega]
          exact inv_be64 _ hl
        show l.take (a + 1 + 8) = l.take a ++ (1 :: ord64 (numAt l (a + 1)))
        rw [e, List.take_add, takeNx h0, ex, List.append_assoc]
        rfl
      · cases h
    · rw [if_neg h1] at h
      by_cases h2 : x.toNat = 2
      · rw [if_pos h2] at h
        have ex : x = 2 := by rw [← hx8, h2]; rfl
        cases ht : txtAt l (a + 1) with
        | none => rw [ht] at h; cases h
        | some y =>
          rw [ht] at h
          injection h with h
          subst h
          unfold txtAt at ht
          cases hz : l[a + 1]? with
          | none => rw [hz] at ht; cases ht
          | some z =>
            rw [hz] at ht
            simp only at ht
            split at ht
            · rename_i hle
              injection ht with ht
              subst ht
              have hl : ((l.drop (a + 1 + 1)).take z.toNat).length = z.toNat := by simp; omega
              have hs : ((((l.drop (a + 1 + 1)).take z.toNat).toArray.size : Nat) : Int) = (z.toNat : Int) := by rw [List.size_toArray, hl]
              show l.take (a + 1 + 1 + z.toNat) = l.take a ++ (2 :: b8 ((((l.drop (a + 1 + 1)).take z.toNat).toArray.size : Nat) : Int) :: (l.drop (a + 1 + 1)).take z.toNat)
              rw [hs, b8_byte, List.take_add, takeNx hz, takeNx h0, ex]
              simp
            · cases ht
      · rw [if_neg h2] at h
        by_cases h3 : x.toNat = 3
        · rw [if_pos h3] at h
          have ex : x = 3 := by rw [← hx8, h3]; rfl
          cases hy : l[a + 1]? with
          | none => rw [hy] at h; cases h
          | some y =>
            rw [hy] at h
            injection h with h
            subst h
            have hy8 : b8 (y.toNat : Int) = y := b8_byte y
            have hyy : ((y.toNat : Int) = 0 ∨ (y.toNat : Int) = 1) := by
              unfold vOk at hv
              simp only [show ¬ (3 : Int) = 0 by decide, show ¬ (3 : Int) = 1 by decide, show ¬ (3 : Int) = 2 by decide, if_false, if_true] at hv
              exact (of_decide_eq_true hv).1
            show l.take (a + 1 + 1) = l.take a ++ [3, if ((y.toNat : Int) == 1) = true then 1 else 0]
            rw [takeNx hy, takeNx h0, ex, List.append_assoc]
            congr 1
            rcases hyy with e | e
            · rw [e] at hy8 ⊢; rw [← hy8]; rfl
            · rw [e] at hy8 ⊢; rw [← hy8]; rfl
        · rw [if_neg h3] at h
          injection h with h
          subst h
          have h00 : x.toNat = 0 := by
            unfold vOk at hv
            by_cases h0' : ((x.toNat : Nat) : Int) = 0
            · omega
            · simp only [if_neg h0', if_neg (show ¬ ((x.toNat : Nat) : Int) = 1 by omega), if_neg (show ¬ ((x.toNat : Nat) : Int) = 2 by omega), if_neg (show ¬ ((x.toNat : Nat) : Int) = 3 by omega)] at hv
              cases hv
          have ex : x = 0 := by rw [← hx8, h00]; rfl
          show l.take (a + 1) = l.take a ++ rowV ((x.toNat : Int), 0, noS)
          rw [takeNx h0, h00, ex]
          rfl
theorem many_raw (l : List UInt8) (a : Nat) : ∀ (k : Nat) (r : List Vl × Nat), manyAt k l a = some r → rawMany k l a = some r ∧ r.1.all vOk = true ∧ r.1.length = k ∧ l.take r.2 = l.take a ++ rowsV r.1
  | 0, r, h => by
    have h : some ([], a) = some r := h
    injection h with h
    subst h
    exact ⟨rfl, rfl, rfl, by simp [rowsV]⟩
  | k + 1, r, h => by
    have h' : (match manyAt k l a with | none => none | some r => match valAt txtAt l r.2 with | none => none | some q => some (r.1 ++ [q.1], q.2)) = some r := h
    show (match rawMany k l a with | none => none | some r => match rawV l r.2 with | none => none | some q => some (r.1 ++ [q.1], q.2)) = some r ∧ _
    cases hm : manyAt k l a with
    | none => rw [hm] at h'; cases h'
    | some s =>
      obtain ⟨i1, i2, i3, i4⟩ := many_raw l a k s hm
      rw [hm] at h'
      simp only at h'
      cases hv : valAt txtAt l s.2 with
      | none => rw [hv] at h'; cases h'
      | some q =>
        rw [hv] at h'
        simp only at h'
        injection h' with h'
        subst h'
        obtain ⟨j1, j2⟩ := valAt_raw hv
        rw [i1]
        simp only
        rw [j1]
        refine ⟨rfl, by simp [i2, j2], by simp [i3], ?_⟩
        show l.take q.2 = l.take a ++ rowsV (s.1 ++ [q.1])
        rw [raw_write j1 j2, i4]
        simp [rowsV]
theorem rawMany_in (l : List UInt8) (a : Nat) : ∀ (k : Nat) (r : List Vl × Nat), rawMany k l a = some r → r.1.length = k ∧ (∀ x ∈ r.1, VlIn x) ∧ (a ≤ l.length → r.2 ≤ l.length)
  | 0, r, h => by
    have h : some ([], a) = some r := h
    injection h with h
    subst h
    exact ⟨rfl, fun _ h => (List.not_mem_nil h).elim, id⟩
  | k + 1, r, h => by
    have h' : (match rawMany k l a with | none => none | some r => match rawV l r.2 with | none => none | some q => some (r.1 ++ [q.1], q.2)) = some r := h
    cases hm : rawMany k l a with
    | none => rw [hm] at h'; cases h'
    | some s =>
      obtain ⟨i1, i2, i3⟩ := rawMany_in l a k s hm
      rw [hm] at h'
      simp only at h'
      cases hv : rawV l s.2 with
      | none => rw [hv] at h'; cases h'
      | some q =>
        rw [hv] at h'
        simp only at h'
        injection h' with h'
        subst h'
        have j := raw_le hv
        refine ⟨by simp [i1], fun x hx => ?_, fun _ => j.1⟩
        rcases List.mem_append.1 hx with hx | hx
        · exact i2 x hx
        · rw [List.mem_singleton.1 hx]; exact j.2.2
theorem encT_eq {L : List Vl} {l : List UInt8} (h : encT L = (0, some l)) : L.length ≤ 12 ∧ L.all vOk = true ∧ l = encB L := by
  unfold encT at h
  split at h
  · simp at h
  · rename_i h1
    split at h
    · rename_i h2
      injection h with _ h
      injection h with h
      exact ⟨by omega, h2, h.symm⟩
    · simp at h
/-- Both readings are one. -/
theorem ref_row (l : List UInt8) : refAt l = rowAt l := by
  cases hr : rowAt l with
  | none =>
    cases hf : refAt l with
    | none => rfl
    | some L =>
      unfold refAt at hf
      cases h0 : l[0]? with
      | none => rw [h0] at hf; cases hf
      | some x =>
        rw [h0] at hf
        simp only at hf
        cases hm : rawMany x.toNat l 1 with
        | none => rw [hm] at hf; cases hf
        | some r =>
          rw [hm] at hf
          simp only at hf
          split at hf
          · rename_i he
            injection hf with hf
            obtain ⟨h12, hall, hl⟩ := encT_eq he
            have hin := (rawMany_in l 1 _ r hm).2.1
            have := row_read r.1 h12 hall hin
            rw [← hl, hr] at this
            cases this
          · cases hf
  | some L =>
    unfold rowAt at hr
    unfold refAt
    cases h0 : l[0]? with
    | none => rw [h0] at hr; cases hr
    | some x =>
      rw [h0] at hr
      simp only at hr ⊢
      split at hr
      · rename_i h12
        cases hm : manyAt x.toNat l 1 with
        | none => rw [hm] at hr; cases hr
        | some r =>
          rw [hm] at hr
          simp only at hr
          split at hr
          · rename_i he
            injection hr with hr
            subst hr
            obtain ⟨i1, i2, i3, i4⟩ := many_raw l 1 _ r hm
            rw [i1]
            simp only
            have e1 : l.take 1 = [x] := by rw [takeNx h0]; rfl
            rw [he, List.take_length, e1] at i4
            have e2 : encT r.1 = (0, some l) := by
              unfold encT
              rw [if_neg (by rw [i3]; omega), if_pos i2, i3, b8_byte, i4]
              rfl
            rw [if_pos e2]
          · cases hr
      · cases hr
end Go.Proofs.YtpdikmcaihlbaaaDoor
namespace Go.Proofs.YtpdikmcaihlbaaaDoor
open Go.RowKit

theorem rawMany_succ {l : List UInt8} {i a : Nat} {L : List Vl} {q : Vl × Nat} (h : rawMany i l 1 = some (L, a)) (hv : rawV l a = some q) : rawMany (i + 1) l 1 = some (L ++ [q.1], q.2) := by
  show (match rawMany i l 1 with | none => none | some r => match rawV l r.2 with | none => none | some q => some (r.1 ++ [q.1], q.2)) = _
  rw [h]
  simp only
  rw [hv]
theorem ref_fail {l : List UInt8} {i a k : Nat} {L : List Vl} {x : UInt8} (h0 : l[0]? = some x) (hk : x.toNat = k) (hi : i < k) (h : rawMany i l 1 = some (L, a)) (hv : rawV l a = none) : refAt l = none := by
  have h1 : rawMany (i + 1) l 1 = none := by
    show (match rawMany i l 1 with | none => none | some r => match rawV l r.2 with | none => none | some q => some (r.1 ++ [q.1], q.2)) = _
    rw [h]
    simp only
    rw [hv]
  have h2 := rawMany_none l 1 (i + 1) h1 (k - (i + 1))
  rw [show i + 1 + (k - (i + 1)) = k by omega] at h2
  unfold refAt
  rw [h0]
  simp only
  rw [hk, h2]
theorem ref_done {l : List UInt8} {a k : Nat} {L : List Vl} {x : UInt8} (h0 : l[0]? = some x) (hk : x.toNat = k) (h : rawMany k l 1 = some (L, a)) : refAt l = if encT L = (0, some l) then some L else none := by
  unfold refAt
  rw [h0]
  simp only
  rw [hk, h]
theorem rawV_at {l : List UInt8} {a : Nat} {x : UInt8} (h : l[a]? = some x) : rawV l a = rawAt txtAt l a x := by unfold rawV; rw [h]
theorem valueV {w : World} {B : Nat} {v : Value} {L : List Vl} (_ : Hid (OwnV w B v L)) : ∃ u, u = v := ⟨v, rfl⟩
theorem ext_own {w w1 w2 : World} {v : Value} {L : List Vl} (hx : Ext w w1) (ho : OwnV w1 w.heap.size v L) (hg : w1.grownBy w2 v.ownBlock) : Ext w w2 :=
  ⟨hg.os.trans hx.os, hg.tape.trans hx.tape, hg.output.trans hx.output, Nat.le_trans hx.size hg.size, fun j hj => (hg.block j (Nat.lt_of_lt_of_le hj hx.size) (fun e => by have := (ho.at j e.symm).1; omega)).trans (hx.block j hj)⟩
set_option maxRecDepth 20000 in
set_option maxHeartbeats 12800000 in
theorem rdecode_any (A : Option Addr) (l : List UInt8) (n c : Nat) (w : World) (hr : Rd w A l) (hn : l.length = n) (hnc : n ≤ c) (hl : n ≤ 140737488351232) (hT : Tabs w) :
    Calls Tryd.prog 18 #[.slice A n c] w (DecC w (refAt l)) := by
  obtain ⟨r, HR⟩ : ∃ r, Hid (refAt l = r) := ⟨_, hide rfl⟩
  rw [HR.out]
  cases h0 : l[0]? with
  | none =>
    obtain rfl : none = r := by rw [← HR.out]; unfold refAt; rw [h0]
    obtain rfl : n = 0 := by have := List.getElem?_eq_none_iff.1 h0; omega
    go_enter Tryd.func18, Tryd.ntmps18
    go_wp2
    go_ret2
    exact ⟨Ext.refl _, rfl⟩
  | some x0 =>
    obtain ⟨k, HK⟩ : ∃ k, Hid (x0.toNat = k) := ⟨_, hide rfl⟩
    have hkI : (k : Int) < 256 := by have := HK.out; have := x0.toNat_lt; omega
    have hnI : (n : Int) ≤ 140737488351232 := by omega
    have hn1 : (0 : Int) < (n : Int) := by have := (List.getElem?_eq_some_iff.1 h0).1; omega
    have hnz : ((n : Int) == 0) = false := by simp; omega
    obtain ⟨b, off, hA, hc⟩ := hr (by intro h; rw [h] at h0; cases h0)
    subst hA
    have hk0 := hc 0 x0 h0
    rw [HK.out, Nat.add_zero] at hk0
    have HK0 := hide hk0
    have HC := hide hc
    have HRD := hide (show Rd w (some ⟨b, off, none⟩) l from hr)
    have HT := hide hT
    have HN := hide hn
    have H0 := hide h0
    have HNC := hide hnc
    clear hr hc hk0 hT h0 hnc
    go_enter Tryd.func18, Tryd.ntmps18
    go_upto_region 6 with fail
    go_loopw [4, 5, 6] (fun ov av iv wr => ∃ (i a : Nat) (L : List Vl), i ≤ k ∧ iv = .int .i64 (i : Int) ∧ av = .int .i64 (a : Int) ∧ Hid (rawMany i l 1 = some (L, a)) ∧ Hid (a ≤ n ∧ L.length = i) ∧ Hid (OwnV wr w.heap.size ov L) ∧ Hid (Ext w wr)) (fun _ _ iv _ => k - (intOf iv).toNat)
    case atStart => exact ⟨0, 1, [], Nat.zero_le _, rfl, rfl, hide rfl, hide ⟨by omega, rfl⟩, hide (OwnV.nil _ _), hide (Ext.refl _)⟩
    case round =>
      obtain ⟨i, a, L, hi, rfl, rfl, HM, HAN, HO, HX⟩ := hrel
      obtain ⟨wr, HWR⟩ := worldOf HX
      subst HWR
      obtain ⟨ov, HOV⟩ := valueV HO
      subst HOV
      have haI : (a : Int) ≤ (n : Int) := by have := HAN.out.1; omega
      have ha140 : (a : Int) ≤ 140737488351232 := by omega
      have k0 := HX.out.keeps.cell HK0.out
      by_cases hlt : i < k
      · have hii : (i : Int) < (k : Int) := by omega
        have hiI : (i : Int) ≤ 256 := by omega
        by_cases hge : n ≤ a
        · have hgeI : (n : Int) ≤ (a : Int) := by omega
          obtain rfl : none = r := by
            rw [← HR.out]
            refine (ref_fail H0.out HK.out hlt HM.out ?_).symm
            unfold rawV
            rw [List.getElem?_eq_none (by rw [HN.out]; exact hge)]
          go_wp2
          go_ret2
          exact ⟨HX.out, rfl⟩
        · have hgeI : ¬ (n : Int) ≤ (a : Int) := by omega
          have han : (a : Int) < (n : Int) := by omega
          obtain ⟨x, hx⟩ : ∃ x, l[a]? = some x := ⟨_, List.getElem?_eq_getElem (by rw [HN.out]; omega)⟩
          have HXA := hide hx
          have HRW := hide (rawV_at hx)
          have cx := HX.out.keeps.cell (HC.out a x hx)
          have hxl := x.toNat_lt
          clear hx
          by_cases q1 : x.toNat = 1
          · rw [show (x.toNat : Int) = 1 by omega] at cx
            have HOB := hide (fun (q : Nat) (hq : ov.ownBlock = some q) => (HO.out.at q hq).2)
            go_upto_region 13 with fail
            obtain ⟨W2, hX2, hB2, hgg⟩ : ∃ W, Ext wr W ∧ Rw W wr.heap.size 26 [.int .u8 1, .int .i64 0, .string ⟨#[]⟩] ∧ wr.alloc (.cells #[.int .u8 1, .int .i64 0, .string ⟨#[]⟩] 26) = W := ⟨_, Ext.alloc _ _, Rw.new _ _ _, rfl⟩
            rw [hgg]
            clear hgg
            have X2 := hide (HX.out.trans hX2)
            have O2 := hide (HO.out.ext hX2)
            have B2 := hide hB2
            have S2 : Hid (w.heap.size ≤ wr.heap.size) := hide HX.out.size
            clear hX2 hB2 cx k0
            have d0 := B2.out.cell (i := 0) rfl
            have d1 := B2.out.cell (i := 1) rfl
            have d2 := B2.out.cell (i := 2) rfl
            by_cases h8 : a + 1 + 8 ≤ n
            · have h8I : ¬ (n : Int) - ((a : Int) + 1) < 8 := by omega
              have hw8 : IntKind.i64.wrap ((n : Int) - ((a : Int) + 1)) = (n : Int) - ((a : Int) + 1) := by rw [IntKind.wrap_i64]; omega
              obtain ⟨nn, HNN⟩ : ∃ nn, Hid (numAt l (a + 1) = nn) := ⟨_, hide rfl⟩
              have KR := hide (show Calls Tryd.prog 35 #[.slice (some ⟨b, off, none⟩) n c, .int .i64 ((a : Int) + 1)] W2 (Three .i64 (nn, ((a + 1 + 8 : Nat) : Int), 0) W2) from by
                have h := rreadInt_any (some ⟨b, off, none⟩) c l (((a + 1 : Nat) : Int)) W2 (HRD.out.ext X2.out) (by rw [HN.out]; omega) (by omega)
                rw [rdOrd_yes l (a + 1) (by rw [HN.out]; omega), HNN.out, HN.out] at h
                exact h)
              have b1 := B2.out.frozen 1
              go_upto_region 31 with (go_at_call 35; (with_reducible refine KR.out.mono ?_); rintro e w3 ⟨rfl, rfl⟩)
              clear b1
              obtain ⟨W3, hX3, hB3, hO3, hgg⟩ : ∃ W, Ext w W ∧ Rw W wr.heap.size 26 [.int .u8 1, .int .i64 nn, .string ⟨#[]⟩] ∧ OwnV W w.heap.size ov L ∧ W2.setCell ⟨wr.heap.size, 1, none⟩ (.int .i64 nn) = W := ⟨_, ext_set X2.out S2.out, B2.out.set 1 (.int .i64 nn), O2.out.same (fun q hq => Below.heap_setCell W2 ⟨wr.heap.size, 1, none⟩ (.int .i64 nn) q (fun e => by simp only at e; have h := HOB.out q hq; omega)), rfl⟩
              rw [hgg]
              clear hgg d0 d1 d2
              have X3 := hide hX3
              have O3 := hide hO3
              have d0 := hB3.cell (i := 0) rfl
              have d1 := hB3.cell (i := 1) rfl
              have d2 := hB3.cell (i := 2) rfl
              clear hX3 hO3 hB3
              have hww : IntKind.i64.wrap ((a : Int) + 1 + 8) = (a : Int) + 1 + 8 := by rw [IntKind.wrap_i64]; omega
              have HM' : Hid (rawMany (i + 1) l 1 = some (L ++ [(1, nn, noS)], a + 1 + 8)) := hide (rawMany_succ (q := ((1, nn, noS), a + 1 + 8)) HM.out (by
                rw [HRW.out]
                unfold rawAt
                rw [if_pos q1, if_pos (by rw [HN.out]; exact h8), HNN.out]))
              go_upto_region 7 with (at_builtin; refine wpList_pushV (by rfl) (.tmp 91) (.tmp 93) rfl w.heap.size _ L (1, nn, noS) rfl rfl O3.out X3.out.size (by have := HAN.out.2; omega) ?_; intro v9 w9 ho9 hg9; have X9 := hide (ext_own X3.out O3.out hg9); have O9 := hide ho9)
              go_wp2
              exact ⟨⟨i + 1, a + 1 + 8, L ++ [(1, nn, noS)], by omega, by go_num, by go_num, HM', hide ⟨by omega, by rw [List.length_append, HAN.out.2]; rfl⟩, O9, X9⟩, by simp [intOf]; omega⟩
            · have h8I : (n : Int) - ((a : Int) + 1) < 8 := by omega
              have hw8 : IntKind.i64.wrap ((n : Int) - ((a : Int) + 1)) = (n : Int) - ((a : Int) + 1) := by rw [IntKind.wrap_i64]; omega
              obtain rfl : none = r := by
                rw [← HR.out]
                refine (ref_fail H0.out HK.out hlt HM.out ?_).symm
                rw [HRW.out]
                unfold rawAt
                rw [if_pos q1, if_neg (by rw [HN.out]; exact h8)]
              go_wp2
              go_ret2
              exact ⟨X2.out, rfl⟩
          · by_cases q2 : x.toNat = 2
            · rw [show (x.toNat : Int) = 2 by omega] at cx
              have HOB := hide (fun (q : Nat) (hq : ov.ownBlock = some q) => (HO.out.at q hq).2)
              go_upto_region 13 with fail
              obtain ⟨W2, hX2, hB2, hgg⟩ : ∃ W, Ext wr W ∧ Rw W wr.heap.size 26 [.int .u8 2, .int .i64 0, .string ⟨#[]⟩] ∧ wr.alloc (.cells #[.int .u8 2, .int .i64 0, .string ⟨#[]⟩] 26) = W := ⟨_, Ext.alloc _ _, Rw.new _ _ _, rfl⟩
              rw [hgg]
              clear hgg
              have X2 := hide (HX.out.trans hX2)
              have O2 := hide (HO.out.ext hX2)
              have B2 := hide hB2
              have S2 : Hid (w.heap.size ≤ wr.heap.size) := hide HX.out.size
              clear hX2 hB2 cx k0
              have d0 := B2.out.cell (i := 0) rfl
              have d1 := B2.out.cell (i := 1) rfl
              have d2 := B2.out.cell (i := 2) rfl
              by_cases hz : a + 1 < n
              · have hzI : ¬ (n : Int) ≤ (a : Int) + 1 := by omega
                have hzL : (a : Int) + 1 < (n : Int) := by omega
                obtain ⟨z, hzz⟩ : ∃ z, l[a + 1]? = some z := ⟨_, List.getElem?_eq_getElem (by rw [HN.out]; omega)⟩
                have hzl := z.toNat_lt
                obtain ⟨zn, HZN⟩ : ∃ u, Hid (z.toNat = u) := ⟨_, hide rfl⟩
                have cz := X2.out.keeps.cell (HC.out (a + 1) z hzz)
                rw [HZN.out] at cz hzl
                have cz2 := cz
                rw [← Nat.add_assoc] at cz2
                have hwz : IntKind.i64.wrap (zn : Int) = (zn : Int) := by rw [IntKind.wrap_i64]; omega
                have hw8 : IntKind.i64.wrap ((n : Int) - ((a : Int) + 1)) = (n : Int) - ((a : Int) + 1) := by rw [IntKind.wrap_i64]; omega
                have HZZ := hide hzz
                clear hzz
                by_cases hf : a + 1 + 1 + zn ≤ n
                · have hfI : ¬ (n : Int) - ((a : Int) + 1) < 1 + (zn : Int) := by omega
                  obtain ⟨tx, HTX⟩ : ∃ tx, Hid ((l.drop (a + 1 + 1)).take zn = tx) := ⟨_, hide rfl⟩
                  have HTL : Hid (tx.length = zn) := hide (by rw [← HTX.out, List.length_take, List.length_drop, HN.out]; omega)
                  have b1 := B2.out.frozen 2
                  obtain ⟨a2, HA2⟩ : ∃ u, Hid (a + 1 + 1 = u) := ⟨_, hide rfl⟩
                  obtain ⟨a3, HA3⟩ : ∃ u, Hid (a2 + zn = u) := ⟨_, hide rfl⟩
                  go_upto_region 28 with fail
                  clear cz cz2
                  have hlo : (a : Int) + 1 + 1 = (a2 : Int) := by have := HA2.out; omega
                  have hhi : (a : Int) + 1 + (1 + (zn : Int)) = (a3 : Int) := by have := HA2.out; have := HA3.out; omega
                  have hb1 : (0 : Int) ≤ (a2 : Int) := by omega
                  have hb2 : (a2 : Int) ≤ (a3 : Int) := by have := HA3.out; omega
                  have hb3 : (a3 : Int) ≤ (c : Int) := by have := HA2.out; have := HA3.out; have := HNC.out; omega
                  have hb4 : a3 - a2 = zn := by have := HA3.out; omega
                  have hw2 : IntKind.i64.wrap ((a : Int) + 1 + 1) = (a2 : Int) := by rw [hlo, IntKind.wrap_i64]; have := HNC.out; omega
                  have hw3 : IntKind.i64.wrap ((a : Int) + 1 + (1 + (zn : Int))) = (a3 : Int) := by rw [hhi, IntKind.wrap_i64]; have := HA2.out; have := HA3.out; omega
                  have RTX : Hid (Rd W2 (some ⟨b, off + a2, none⟩) tx) := hide (by
                    rw [← HTX.out, HA2.out]
                    have h := (Rd.drop (HRD.out.ext X2.out) a2).take zn
                    rw [add_flat] at h
                    exact h)
                  have HTA : Hid (rawV l a = some ((2, 0, ⟨tx.toArray⟩), a3)) := hide (by
                    rw [HRW.out]
                    unfold rawAt
                    rw [if_neg (by omega), if_pos q2]
                    unfold txtAt
                    rw [HZZ.out]
                    simp only
                    rw [HZN.out, if_pos (by rw [HN.out]; exact hf)]
                    simp only
                    rw [HTX.out, HA2.out, HA3.out])
                  clear hlo hhi hb4 hf
                  have hb4 : a3 - a2 = zn := by have := HA3.out; omega
                  have ha3n : a3 ≤ n := by have := HA2.out; have := HA3.out; have := HTL.out; have hx := hfI; omega
                  by_cases hca : c = a2
                  · obtain rfl : a2 = c := hca.symm
                    have hz0 : zn = 0 := by have := HA3.out; omega
                    obtain rfl : tx = [] := List.eq_nil_of_length_eq_zero (by rw [HTL.out, hz0])
                    go_upto_region 31 with (refine wpList_str (by rfl) (.tmp 77) rfl [] ⟨some ⟨b, off, none⟩, 0, rfl, Nat.le_refl _, fun h => absurd rfl h⟩ ?_)
                    clear b1
                    obtain ⟨W3, hX3, hB3, hO3, hgg⟩ : ∃ W, Ext w W ∧ Rw W wr.heap.size 26 [.int .u8 2, .int .i64 0, .string ⟨#[]⟩] ∧ OwnV W w.heap.size ov L ∧ W2.setCell ⟨wr.heap.size, 2, none⟩ (.string ⟨#[]⟩) = W := ⟨_, ext_set X2.out S2.out, B2.out.set 2 (.string ⟨#[]⟩), O2.out.same (fun q hq => Below.heap_setCell W2 ⟨wr.heap.size, 2, none⟩ (.string ⟨#[]⟩) q (fun e => by simp only at e; have h := HOB.out q hq; omega)), rfl⟩
                    rw [hgg]
                    clear hgg d0 d1 d2
                    have X3 := hide hX3
                    have O3 := hide hO3
                    have d0 := hB3.cell (i := 0) rfl
                    have d1 := hB3.cell (i := 1) rfl
                    have d2 := hB3.cell (i := 2) rfl
                    clear hX3 hO3 hB3
                    have HM' : Hid (rawMany (i + 1) l 1 = some (L ++ [(2, 0, ⟨#[]⟩)], a3)) := hide (rawMany_succ (q := ((2, 0, ⟨#[]⟩), a3)) HM.out HTA.out)
                    go_upto_region 7 with (at_builtin; refine wpList_pushV (by rfl) (.tmp 91) (.tmp 93) rfl w.heap.size _ L (2, 0, ⟨#[]⟩) rfl rfl O3.out X3.out.size (by have := HAN.out.2; omega) ?_; intro v9 w9 ho9 hg9; have X9 := hide (ext_own X3.out O3.out hg9); have O9 := hide ho9)
                    go_wp2
                    exact ⟨⟨i + 1, a3, L ++ [(2, 0, ⟨#[]⟩)], by omega, by go_num, by first | go_num | (have h1 := HA2.out; have h2 := HA3.out; congr 1; omega), HM', hide ⟨by omega, by rw [List.length_append, HAN.out.2]; rfl⟩, O9, X9⟩, by simp [intOf]; omega⟩
                  · go_upto_region 31 with (refine wpList_str (by rfl) (.tmp 77) rfl tx ⟨some ⟨b, off + a2, none⟩, c - a2, (by rw [HTL.out]; rfl), (by rw [HTL.out]; omega), RTX.out⟩ ?_)
                    clear b1
                    obtain ⟨W3, hX3, hB3, hO3, hgg⟩ : ∃ W, Ext w W ∧ Rw W wr.heap.size 26 [.int .u8 2, .int .i64 0, .string ⟨tx.toArray⟩] ∧ OwnV W w.heap.size ov L ∧ W2.setCell ⟨wr.heap.size, 2, none⟩ (.string ⟨tx.toArray⟩) = W := ⟨_, ext_set X2.out S2.out, B2.out.set 2 (.string ⟨tx.toArray⟩), O2.out.same (fun q hq => Below.heap_setCell W2 ⟨wr.heap.size, 2, none⟩ (.string ⟨tx.toArray⟩) q (fun e => by simp only at e; have h := HOB.out q hq; omega)), rfl⟩
                    rw [hgg]
                    clear hgg d0 d1 d2
                    have X3 := hide hX3
                    have O3 := hide hO3
                    have d0 := hB3.cell (i := 0) rfl
                    have d1 := hB3.cell (i := 1) rfl
                    have d2 := hB3.cell (i := 2) rfl
                    clear hX3 hO3 hB3
                    have HM' : Hid (rawMany (i + 1) l 1 = some (L ++ [(2, 0, ⟨tx.toArray⟩)], a3)) := hide (rawMany_succ (q := ((2, 0, ⟨tx.toArray⟩), a3)) HM.out HTA.out)
                    go_upto_region 7 with (at_builtin; refine wpList_pushV (by rfl) (.tmp 91) (.tmp 93) rfl w.heap.size _ L (2, 0, ⟨tx.toArray⟩) rfl rfl O3.out X3.out.size (by have := HAN.out.2; omega) ?_; intro v9 w9 ho9 hg9; have X9 := hide (ext_own X3.out O3.out hg9); have O9 := hide ho9)
                    go_wp2
                    exact ⟨⟨i + 1, a3, L ++ [(2, 0, ⟨tx.toArray⟩)], by omega, by go_num, by first | go_num | (have h1 := HA2.out; have h2 := HA3.out; congr 1; omega), HM', hide ⟨by omega, by rw [List.length_append, HAN.out.2]; rfl⟩, O9, X9⟩, by simp [intOf]; omega⟩
                · have hfI : (n : Int) - ((a : Int) + 1) < 1 + (zn : Int) := by omega
                  obtain rfl : none = r := by
                    rw [← HR.out]
                    refine (ref_fail H0.out HK.out hlt HM.out ?_).symm
                    rw [HRW.out]
                    unfold rawAt
                    rw [if_neg (by omega), if_pos q2]
                    unfold txtAt
                    rw [HZZ.out]
                    simp only
                    rw [HZN.out, if_neg (by rw [HN.out]; exact hf)]
                  go_wp2
                  go_ret2
                  exact ⟨X2.out, rfl⟩
              · have hzI : (n : Int) ≤ (a : Int) + 1 := by omega
                obtain rfl : none = r := by
                  rw [← HR.out]
                  refine (ref_fail H0.out HK.out hlt HM.out ?_).symm
                  rw [HRW.out]
                  unfold rawAt
                  rw [if_neg (by omega), if_pos q2]
                  unfold txtAt
                  rw [List.getElem?_eq_none (by rw [HN.out]; omega)]
                go_wp2
                go_ret2
                exact ⟨X2.out, rfl⟩
            · by_cases q3 : x.toNat = 3
              · rw [show (x.toNat : Int) = 3 by omega] at cx
                have HOB := hide (fun (q : Nat) (hq : ov.ownBlock = some q) => (HO.out.at q hq).2)
                go_upto_region 13 with fail
                obtain ⟨W2, hX2, hB2, hgg⟩ : ∃ W, Ext wr W ∧ Rw W wr.heap.size 26 [.int .u8 3, .int .i64 0, .string ⟨#[]⟩] ∧ wr.alloc (.cells #[.int .u8 3, .int .i64 0, .string ⟨#[]⟩] 26) = W := ⟨_, Ext.alloc _ _, Rw.new _ _ _, rfl⟩
                rw [hgg]
                clear hgg
                have X2 := hide (HX.out.trans hX2)
                have O2 := hide (HO.out.ext hX2)
                have B2 := hide hB2
                have S2 : Hid (w.heap.size ≤ wr.heap.size) := hide HX.out.size
                clear hX2 hB2 cx k0
                have d0 := B2.out.cell (i := 0) rfl
                have d1 := B2.out.cell (i := 1) rfl
                have d2 := B2.out.cell (i := 2) rfl
                have hw8 : IntKind.i64.wrap ((n : Int) - ((a : Int) + 1)) = (n : Int) - ((a : Int) + 1) := by rw [IntKind.wrap_i64]; omega
                by_cases hz : a + 1 < n
                · have hzI : ¬ (n : Int) - ((a : Int) + 1) < 1 := by omega
                  have hzL : (a : Int) + 1 < (n : Int) := by omega
                  obtain ⟨z, hzz⟩ : ∃ z, l[a + 1]? = some z := ⟨_, List.getElem?_eq_getElem (by rw [HN.out]; omega)⟩
                  have hzl := z.toNat_lt
                  obtain ⟨zn, HZN⟩ : ∃ u, Hid (z.toNat = u) := ⟨_, hide rfl⟩
                  have cz := X2.out.keeps.cell (HC.out (a + 1) z hzz)
                  rw [HZN.out] at cz hzl
                  have cz2 := cz
                  rw [← Nat.add_assoc] at cz2
                  have hwz : IntKind.i64.wrap (zn : Int) = (zn : Int) := by rw [IntKind.wrap_i64]; omega
                  have HZZ := hide hzz
                  clear hzz
                  have b1 := B2.out.frozen 1
                  go_upto_region 31 with fail
                  clear b1 cz cz2
                  obtain ⟨W3, hX3, hB3, hO3, hgg⟩ : ∃ W, Ext w W ∧ Rw W wr.heap.size 26 [.int .u8 3, .int .i64 (zn : Int), .string ⟨#[]⟩] ∧ OwnV W w.heap.size ov L ∧ W2.setCell ⟨wr.heap.size, 1, none⟩ (.int .i64 (zn : Int)) = W := ⟨_, ext_set X2.out S2.out, B2.out.set 1 (.int .i64 (zn : Int)), O2.out.same (fun q hq => Below.heap_setCell W2 ⟨wr.heap.size, 1, none⟩ (.int .i64 (zn : Int)) q (fun e => by simp only at e; have h := HOB.out q hq; omega)), rfl⟩
                  rw [hgg]
                  clear hgg d0 d1 d2
                  have X3 := hide hX3
                  have O3 := hide hO3
                  have d0 := hB3.cell (i := 0) rfl
                  have d1 := hB3.cell (i := 1) rfl
                  have d2 := hB3.cell (i := 2) rfl
                  clear hX3 hO3 hB3
                  have hww : IntKind.i64.wrap ((a : Int) + 1 + 1) = (a : Int) + 1 + 1 := by rw [IntKind.wrap_i64]; omega
                  have HM' : Hid (rawMany (i + 1) l 1 = some (L ++ [(3, (zn : Int), noS)], a + 1 + 1)) := hide (rawMany_succ (q := ((3, (zn : Int), noS), a + 1 + 1)) HM.out (by
                    rw [HRW.out]
                    unfold rawAt
                    rw [if_neg (by omega), if_neg (by omega), if_pos q3, HZZ.out]
                    simp only
                    rw [HZN.out]))
                  go_upto_region 7 with (at_builtin; refine wpList_pushV (by rfl) (.tmp 91) (.tmp 93) rfl w.heap.size _ L (3, (zn : Int), noS) rfl rfl O3.out X3.out.size (by have := HAN.out.2; omega) ?_; intro v9 w9 ho9 hg9; have X9 := hide (ext_own X3.out O3.out hg9); have O9 := hide ho9)
                  go_wp2
                  exact ⟨⟨i + 1, a + 1 + 1, L ++ [(3, (zn : Int), noS)], by omega, by go_num, by go_num, HM', hide ⟨by omega, by rw [List.length_append, HAN.out.2]; rfl⟩, O9, X9⟩, by simp [intOf]; omega⟩
                · have hzI : (n : Int) - ((a : Int) + 1) < 1 := by omega
                  obtain rfl : none = r := by
                    rw [← HR.out]
                    refine (ref_fail H0.out HK.out hlt HM.out ?_).symm
                    rw [HRW.out]
                    unfold rawAt
                    rw [if_neg (by omega), if_neg (by omega), if_pos q3, List.getElem?_eq_none (by rw [HN.out]; omega)]
                  go_wp2
                  go_ret2
                  exact ⟨X2.out, rfl⟩
              · obtain ⟨kk, HKK⟩ : ∃ kk, Hid (x.toNat = kk) := ⟨_, hide rfl⟩
                rw [HKK.out] at cx q1 q2 q3 hxl
                have hq1 : ((kk : Int) == 1) = false := by simp; omega
                have hq2 : ((kk : Int) == 2) = false := by simp; omega
                have hq3 : ((kk : Int) == 3) = false := by simp; omega
                go_upto_region 13 with fail
                obtain ⟨W2, hX2, hB2, hgg⟩ : ∃ W, Ext wr W ∧ Rw W wr.heap.size 26 [.int .u8 (kk : Int), .int .i64 0, .string ⟨#[]⟩] ∧ wr.alloc (.cells #[.int .u8 (kk : Int), .int .i64 0, .string ⟨#[]⟩] 26) = W := ⟨_, Ext.alloc _ _, Rw.new _ _ _, rfl⟩
                rw [hgg]
                clear hgg
                have X2 := hide (HX.out.trans hX2)
                have O2 := hide (HO.out.ext hX2)
                have B2 := hide hB2
                have S2 : Hid (w.heap.size ≤ wr.heap.size) := hide HX.out.size
                clear hX2 hB2 cx k0
                have d0 := B2.out.cell (i := 0) rfl
                have d1 := B2.out.cell (i := 1) rfl
                have d2 := B2.out.cell (i := 2) rfl
                have hw8 : IntKind.i64.wrap ((n : Int) - ((a : Int) + 1)) = (n : Int) - ((a : Int) + 1) := by rw [IntKind.wrap_i64]; omega
                have hzI : ¬ (n : Int) - ((a : Int) + 1) < 0 := by omega
                go_upto_region 32 with fail
                have HM' : Hid (rawMany (i + 1) l 1 = some (L ++ [((kk : Int), 0, noS)], a + 1)) := hide (rawMany_succ (q := (((kk : Int), 0, noS), a + 1)) HM.out (by
                  rw [HRW.out]
                  unfold rawAt
                  rw [if_neg (by rw [HKK.out]; exact q1), if_neg (by rw [HKK.out]; exact q2), if_neg (by rw [HKK.out]; exact q3), HKK.out]))
                go_upto_region 7 with (at_builtin; refine wpList_pushV (by rfl) (.tmp 91) (.tmp 93) rfl w.heap.size _ L ((kk : Int), 0, noS) rfl rfl O2.out X2.out.size (by have := HAN.out.2; omega) ?_; intro v9 w9 ho9 hg9; have X9 := hide (ext_own X2.out O2.out hg9); have O9 := hide ho9)
                go_wp2
                exact ⟨⟨i + 1, a + 1, L ++ [((kk : Int), 0, noS)], by omega, by go_num, by go_num, HM', hide ⟨by omega, by rw [List.length_append, HAN.out.2]; rfl⟩, O9, X9⟩, by simp [intOf]; omega⟩
      · obtain rfl : k = i := by omega
        have hii : ¬ (k : Int) < (k : Int) := by omega
        have HIN := hide (rawMany_in l 1 k _ HM.out).2.1
        obtain ⟨AM, cM, hvM, hcM, hrM⟩ := HO.out.slice
        rw [HAN.out.2] at hvM hcM
        subst hvM
        have KE := hide (rencode_any AM L k cM wr hrM HAN.out.2 hcM (by omega) HIN.out (HT.out.ext HX.out))
        have HRR : Hid (r = if encT L = (0, some l) then some L else none) := hide (by rw [← HR.out]; exact ref_done H0.out HK.out HM.out)
        have RDW := hide (HRD.out.ext HX.out)
        rcases encT_cases L with ⟨kk, hk, hkz, hkn⟩ | ⟨h12, hall, hE⟩
        · rw [hk] at KE
          obtain rfl : r = none := by
            rw [HRR.out, if_neg]
            rw [hk]
            intro e
            cases e
          go_wp2_with (go_at_call 15; (with_reducible refine KE.out.mono ?_); rintro e w2 ⟨hx2, rfl⟩; have X2 := hide (HX.out.trans hx2))
          go_ret2
          exact ⟨X2.out, rfl⟩
        · rw [hE] at KE
          obtain ⟨FL, HFL⟩ : ∃ u, Hid (encB L = u) := ⟨_, hide rfl⟩
          rw [HFL.out] at KE
          by_cases hfl : FL = l
          · obtain rfl : r = some L := by
              rw [HRR.out, if_pos]
              rw [hE, HFL.out, hfl]
            subst hfl
            go_upto_region 34 with (go_at_call 15; (with_reducible refine KE.out.mono ?_); rintro e w2 ⟨hx2, v2, rfl, ho2⟩; have X2 := hide (HX.out.trans hx2); have B2 := hide ho2.bytes; have R2 := hide (RDW.out.ext hx2); have O2 := hide (HO.out.ext hx2); clear hx2 ho2)
            go_wp2_with (first
              | (refine wpList_str (by rfl) (.tmp 103) rfl FL B2.out ?_)
              | (refine wpList_str (by rfl) (.tmp 105) rfl FL ⟨some ⟨b, off, none⟩, c, (by rw [HN.out]; rfl), (by rw [HN.out]; exact HNC.out), R2.out⟩ ?_))
            go_ret2
            exact ⟨X2.out, _, rfl, O2.out⟩
          · obtain rfl : r = none := by
              rw [HRR.out, if_neg]
              rw [hE, HFL.out]
              intro e
              injection e with _ e
              injection e with e
              exact hfl e
            have hflb : (FL == l) = false := by simpa using hfl
            clear hfl
            go_upto_region 34 with (go_at_call 15; (with_reducible refine KE.out.mono ?_); rintro e w2 ⟨hx2, v2, rfl, ho2⟩; have X2 := hide (HX.out.trans hx2); have B2 := hide ho2.bytes; have R2 := hide (RDW.out.ext hx2); have O2 := hide (HO.out.ext hx2); clear hx2 ho2)
            go_wp2_with (first
              | (refine wpList_str (by rfl) (.tmp 103) rfl FL B2.out ?_)
              | (refine wpList_str (by rfl) (.tmp 105) rfl l ⟨some ⟨b, off, none⟩, c, (by rw [HN.out]; rfl), (by rw [HN.out]; exact HNC.out), R2.out⟩ ?_))
            go_ret2
            exact ⟨X2.out, rfl⟩
end Go.Proofs.YtpdikmcaihlbaaaDoor
namespace Go.Proofs.YtpdikmcaihlbaaaDoor
open Go.RowKit

set_option maxRecDepth 20000 in
set_option maxHeartbeats 3200000 in
theorem codecDecodes_walk (A : Option Addr) (l : List UInt8) (n c : Nat) (w : World) (hr : Rd w A l) (hn : l.length = n) (hnc : n ≤ c) (hl : n ≤ 140737488351232) (hT : Tabs w) :
    Calls Tryd.prog 4 #[.slice A n c] w (RetB w true) := by
  have KA := hide (fun (W : World) (hW : Ext w W) => awake_any W (hT.ext hW))
  have KD := hide (fun (W : World) (hW : Ext w W) => decode_any A l n c W (hr.ext hW) hn hnc hl (hT.ext hW))
  have KR := hide (fun (W : World) (hW : Ext w W) => rdecode_any A l n c W (hr.ext hW) hn hnc hl (hT.ext hW))
  rw [ref_row] at KR
  clear hr hT
  cases hrow : rowAt l with
  | none =>
    rw [hrow] at KD KR
    have KS := hide (fun (W : World) => same_yes none none [] 0 0 0 W (fun h => absurd rfl h) (fun h => absurd rfl h) rfl (by decide))
    go_enter Tryd.func4, Tryd.ntmps4
    go_wp2_with (first
      | (go_at_call 11; (with_reducible refine (KA.out _ (Ext.refl _)).mono ?_); rintro e w1 ⟨rfl, hx1⟩; have X1 := hide hx1)
      | (go_at_call 16; (with_reducible refine (KD.out _ X1.out).mono ?_); rintro e w2 ⟨hx2, rfl⟩; have X2 := hide (X1.out.trans hx2))
      | (go_at_call 18; (with_reducible refine (KR.out _ X2.out).mono ?_); rintro e w3 ⟨hx3, rfl⟩; have X3 := hide (X2.out.trans hx3))
      | (go_at_call 17; (with_reducible refine (KS.out _).mono ?_); rintro e w4 ⟨rfl, hx4⟩; have X4 := hide (X3.out.trans hx4)))
    go_ret
    exact ⟨rfl, X4.out⟩
  | some L =>
    rw [hrow] at KD KR
    obtain ⟨m, HML⟩ : ∃ m, Hid (L.length = m) := ⟨_, hide rfl⟩
    have hm12 : m ≤ 255 := by
      rw [← HML.out]
      unfold rowAt at hrow
      split at hrow
      · cases hrow
      · rename_i x _
        split at hrow
        · split at hrow
          · cases hrow
          · rename_i r hm
            split at hrow
            · injection hrow with hrow
              subst hrow
              have := (many_raw l 1 _ r hm).2.2.1
              omega
            · cases hrow
        · cases hrow
    clear hrow
    go_enter Tryd.func4, Tryd.ntmps4
    go_upto_region 5 with (first
      | (go_at_call 11; (with_reducible refine (KA.out _ (Ext.refl _)).mono ?_); rintro e w1 ⟨rfl, hx1⟩; have X1 := hide hx1)
      | (go_at_call 16; (with_reducible refine (KD.out _ X1.out).mono ?_); rintro e w2 ⟨hx2, v2, rfl, ho2⟩; obtain ⟨A2, c2, hv2, hc2, hr2⟩ := ho2.slice; rw [HML.out] at hv2 hc2; subst hv2; have R2 := hide hr2; have X2 := hide (X1.out.trans hx2); clear ho2 hx2 hr2)
      | (go_at_call 18; (with_reducible refine (KR.out _ X2.out).mono ?_); rintro e w3 ⟨hx3, v3, rfl, ho3⟩; obtain ⟨A3, c3, hv3, hc3, hr3⟩ := ho3.slice; rw [HML.out] at hv3 hc3; subst hv3; have R3 := hide hr3; have R2b := hide (R2.out.ext hx3); have X3 := hide (X2.out.trans hx3); clear ho3 hx3 hr3))
    have KS := hide (same_yes A2 A3 L m c2 c3 w3 R2b.out R3.out HML.out (by omega))
    go_wp2_with (go_at_call 17; (with_reducible refine KS.out.mono ?_); rintro e w4 ⟨rfl, hx4⟩; have X4 := hide (X3.out.trans hx4))
    go_ret
    exact ⟨rfl, X4.out⟩
end Go.Proofs.YtpdikmcaihlbaaaDoor
namespace Go.Proofs.YtpdikmcaihlbaaaDoor.lawCodecDecodes
open Go.ChangeShapes Go.WideShapes Go.ChangeAt Go.RowKit
open Go.ChangeMaps (open_string)

set_option maxRecDepth 100000 in
theorem contract (H : Type) (enc : TypeId × Value → H) (W : World) (base : Nat) (args : Array Value) (ds gs : List (DataW H)) (before : List MemPlace)
    (hval : ∀ (j : Nat) t v, Tryd.f4.params[j]? = some t → args[j]? = some v → Value.okWide Tryd.prog W .any base t v)
    (hW : DataW.Whole enc Tryd.prog Tryd.f4.params.toList Rows.codecDecodesSpec.vars false W args.toList ds gs before) (hz : (DataW.weightsEach Tryd.prog (Tryd.f4.params.toList ++ (OpenSpec.ofChange Rows.codecDecodesSpec).bare.plain.varTypes Tryd.prog) (ds ++ gs)).all (· ≤ reachBytes) = true) (hL : laidMetH Tryd.prog Rows.codecDecodesRow.laid W) :
    Calls Tryd.prog 4 args W fun e W' => ∃ v, e = .returned v ∧ Rows.codecDecodesSpec.post enc Tryd.prog Tryd.f4 false true false false W args v W' := by
  have hW' := hW
  obtain ⟨p, q, hA0, hV, hbe, hfz, hnd⟩ := hW
  have hA : DataW.TrodAll enc Tryd.prog W 0 (fun _ => true) true Tryd.f4.params.toList args.toList ds p := hA0
  obtain ⟨rfl, rfl⟩ := trodVars_none hV
  rw [Tryd.params4] at hA hval
  obtain ⟨v0, vs0, d0, ds0, p0, q0, hg0, hd0, hp0, h0, r0⟩ := trodAll_cons hA
  obtain ⟨e1, e2, e3⟩ := trodAll_nil r0
  have hds : ds = [d0] := by simp [hd0, e2]
  obtain rfl : args = #[v0] := by
    have : args.toList = [v0] := by simp [hg0, e1]
    exact Array.toList_inj.1 this
  subst hds
  obtain ⟨A0, c0, l0, rfl, hlc0, hr0, hd0⟩ := open_bytes (hval 0 27 v0 rfl rfl) h0
  have hb0 := reach_bytes hz (j := 0) rfl rfl Tryd.underlying27 (by kernel_rfl) hd0
  have ht := tabs_of_laid hL
  refine (((codecDecodes_walk A0 l0 l0.length c0 W hr0 rfl hlc0 (by omega) ht).mono fun e w' ⟨he, hx⟩ => (⟨_, he, hx, rfl⟩ : Ret W (Is (.bool true)) e w'))).mono fun e W' ⟨v, he, hx, hv⟩ => ?_
  subst he
  have hv' : v = .bool true := hv
  subst hv'
  exact ⟨_, rfl, law_post laidOut hW' rfl (by rw [Tryd.params4]; exact readable_all _ (by kernel_rfl)) (by kernel_rfl) Tryd.underlying4 rfl hx⟩

theorem laid_met (os : Os) : laidMet Tryd.prog Rows.codecDecodesRow.laid ((laidWorld os).forCall (fun _ _ => 0) ⟨#[], #[Value.slice none 0 0], []⟩).memory :=
  laidWorld_met os _
theorem reads (os : Os) {H : Type} (enc : TypeId × Value → H) : ∃ places, DataW.whole enc Tryd.prog ((laidWorld os).forCall (fun _ _ => 0) ⟨#[], #[Value.slice none 0 0], []⟩).memory Tryd.f4.params.toList Rows.codecDecodesSpec.vars false (#[Value.slice none 0 0]).toList 8 = some ([.nil], [], places) :=
  ⟨[], by kernel_rfl⟩

set_option maxRecDepth 100000 in
theorem lifted (os : Os) (started : os.Started) (H : Type) (enc : TypeId × Value → H) (F : Stop.Interp) :
    ReturnsInHanded {} Tryd.checked os 4 .any ((OpenSpec.ofChange Rows.codecDecodesSpec).preRow enc Tryd.prog Tryd.f4 Rows.codecDecodesRow.domain false Rows.codecDecodesRow.laid) (((OpenSpec.ofChange Rows.codecDecodesSpec).at F).post enc Tryd.prog Tryd.f4 false true false false) := by
  obtain ⟨places, hx⟩ := reads os enc
  refine returnsInHanded_of_row (C := Tryd.checked) (s := (OpenSpec.ofChange Rows.codecDecodesSpec)) own started (by kernel_rfl) Tryd.func4
    (witness_row_at (enc := enc) (C := Tryd.checked) false (laidWorld os) #[Value.slice none 0 0] (laidWorld_os os) (by kernel_rfl) (by kernel_rfl) (by kernel_rfl)
      (OpenSpec.preRow_of_cond 8 hx (by kernel_rfl) (fun k hk => by cases hk) (by kernel_rfl) (laid_met os))) ?_
  intro W base args ds gs before hval hW _ hcond hz hL _ _
  exact contract H enc W base args ds gs before hval hW hz hL

theorem said : Rows.CodecDecodesSaid :=
  OpenClaim.holds_of_cond 4 Tryd.f4 rfl rfl rfl rfl rfl rfl rfl ⟨rfl, rfl, rfl, rfl, rfl⟩ rfl rfl rfl rfl rfl (by kernel_rfl) Tryd.func4 (by kernel_rfl)
    (of_decide_eq_true (by kernel_rfl)) (by unfold Func.isWrapper; first | (rw [if_pos (by decide +kernel)]; kernel_rfl) | (rw [if_neg (by decide +kernel)]; exact ⟨rfl, rfl⟩))
    (fun os started H enc _ F => by rw [OpenClaim.pre_eq_preRow]; exact lifted os started H enc F)

theorem plain (f : FuncId) (fn : Func) (hf : Tryd.pinned.checked.prog.funcNamed "muniment/munimentlaw04.CodecDecodes" = some f) (hfn : Tryd.pinned.checked.prog.funcs[f]? = some fn) :
    Rows.codecDecodesCard.stood.looks = Tryd.pinned.checked.prog.looks [] ∧ ∀ (j : Nat) t, fn.params[j]? = some t → Tryd.pinned.checked.prog.wantsStandIn t = false := by
  obtain rfl : f = 4 := Option.some.inj ((show Tryd.prog.funcNamed "muniment/munimentlaw04.CodecDecodes" = some 4 by kernel_rfl).symm.trans hf) |>.symm
  obtain rfl : fn = Tryd.f4 := (Option.some.inj (Tryd.func4.symm.trans hfn)).symm
  refine ⟨by kernel_rfl, fun j t ht => ?_⟩
  have h := (show (Tryd.f4.params.toList.all fun t => !Tryd.prog.wantsStandIn t) = true by kernel_rfl)
  have h2 := List.all_eq_true.1 h t (by simpa using Array.mem_of_getElem? ht)
  have h3 : Tryd.prog.wantsStandIn t = false := by simpa using h2
  exact h3

/-- The card. -/
theorem card : Rows.CodecDecodesCardSaid :=
  Claim7.holds_tied_plain_at .later [] _ _ _ _ said (fun _ h => by cases h) (by kernel_rfl) (fun _ h => by cases h) codecDecodes_row_tie rfl ⟨rfl, rfl⟩ (by kernel_rfl) rfl plain (by kernel_rfl)
end Go.Proofs.YtpdikmcaihlbaaaDoor.lawCodecDecodes
