/-
  PassChecks: for every two passwords, every secret and every number of rounds, of any size that the form reaches, the law answers true and leaves them as they were; digest.start and digest.roundWords hold what the program's text lays.
  A region that draws its order, each of whose operations leaves the blocks that are there as they are: as wp_region_sp, but the facts may speak of marks.
  Base 64 there and back (plain).
  Base 64: what is read is what is written (plain).
  Base 64 bit by bit (plain); what is written is read.
  Base 64: the document's.
  Base 64: what the document reads, bit by bit (plain).
  Base 64: the document's reading.
  Write, and the law's text: contracts.
-/
import Derived.RegionTactic
import Derived.Deep.RegionLaw
import Derived.ArgAppend
import Derived.Great.BuildSlice
import Derived.Test.YtdllppaichlnaaaDoorPkPsAl0
import Derived.Test.YtdllppaichlnaaaDoorPkPsAl1
import Derived.Test.YtdllppaichlnaaaDoorPkPsAl5
import Derived.Test.YtdllppaichlnaaaDoorPkPsAl6
import Derived.Test.YtdllppaichlnaaaDoorPkPsAl7
set_option linter.unusedVariables false
set_option linter.unusedSimpArgs false

namespace Go.Proofs.YtdllppaichlnaaaDoor.lawPassChecks
open Go.ChangeShapes Go.WideShapes Go.ChangeAt Go.RowKit
open Go.ChangeMaps (open_string)

set_option maxRecDepth 100000 in
theorem contract (H : Type) (enc : TypeId × Value → H) (W : World) (base : Nat) (args : Array Value) (ds gs : List (DataW H)) (before : List MemPlace)
    (hval : ∀ (j : Nat) t v, Tryd.f4.params[j]? = some t → args[j]? = some v → Value.okWide Tryd.prog W .any base t v)
    (hW : DataW.Whole enc Tryd.prog Tryd.f4.params.toList Rows.passChecksSpec.vars false W args.toList ds gs before) (hz : (DataW.weightsEach Tryd.prog (Tryd.f4.params.toList ++ (OpenSpec.ofChange Rows.passChecksSpec).bare.plain.varTypes Tryd.prog) (ds ++ gs)).all (· ≤ reachBytes) = true) (hL : laidMetH Tryd.prog Rows.passChecksRow.laid W) :
    Calls Tryd.prog 4 args W fun e W' => ∃ v, e = .returned v ∧ Rows.passChecksSpec.post enc Tryd.prog Tryd.f4 false true false false W args v W' := by
  have hW' := hW
  obtain ⟨p, q, hA0, hV, hbe, hfz, hnd⟩ := hW
  have hA : DataW.TrodAll enc Tryd.prog W 0 (fun _ => true) true Tryd.f4.params.toList args.toList ds p := hA0
  obtain ⟨rfl, rfl⟩ := trodVars_none hV
  rw [Tryd.params4] at hA hval
  obtain ⟨v0, vs0, d0, ds0, p0, q0, hg0, hd0, hp0, h0, r0⟩ := trodAll_cons hA
  obtain ⟨v1, vs1, d1, ds1, p1, q1, hg1, hd1, hp1, h1, r1⟩ := trodAll_cons r0
  obtain ⟨v2, vs2, d2, ds2, p2, q2, hg2, hd2, hp2, h2, r2⟩ := trodAll_cons r1
  obtain ⟨v3, vs3, d3, ds3, p3, q3, hg3, hd3, hp3, h3, r3⟩ := trodAll_cons r2
  obtain ⟨e1, e2, e3⟩ := trodAll_nil r3
  have hds : ds = [d0, d1, d2, d3] := by simp [hd0, hd1, hd2, hd3, e2]
  obtain rfl : args = #[v0, v1, v2, v3] := by
    have : args.toList = [v0, v1, v2, v3] := by simp [hg0, hg1, hg2, hg3, e1]
    exact Array.toList_inj.1 this
  subst hds
  obtain ⟨s0, rfl, hd0, -, hm0⟩ := open_string Tryd.underlying9 (hval 0 9 v0 rfl rfl) h0
  have hb0 : s0.data.toList.length ≤ 140737488351232 := sized_string hz (j := 0) rfl (by rw [hd0]; rfl)
  obtain ⟨s1, rfl, hd1, -, hm1⟩ := open_string Tryd.underlying9 (hval 1 9 v1 rfl rfl) h1
  have hb1 : s1.data.toList.length ≤ 140737488351232 := sized_string hz (j := 1) rfl (by rw [hd1]; rfl)
  obtain ⟨sa2, sr2, sd2, rfl, ha2, hl2⟩ := open_secret (hval 2 26 v2 rfl rfl) h2
  obtain ⟨n3, rfl, hd3, -, wf3⟩ := open_int Tryd.underlying3 (hval 3 3 v3 rfl rfl) h3
  have hb3 := bounds_i64 wf3
  have ht := tab_of_laid hL
  refine (passChecks_walk s0 s1 sa2 sr2 sd2 n3 W hb0 hb1 ha2 hl2 ht).mono fun e W' ⟨v, he, hx, hv⟩ => ?_
  subst he
  have hv' : v = .bool true := hv
  subst hv'
  exact ⟨_, rfl, law_post laidOut hW' rfl (by rw [Tryd.params4]; exact readable_all _ (by kernel_rfl)) (by kernel_rfl) Tryd.underlying4 rfl hx⟩

theorem laid_met (os : Os) : laidMet Tryd.prog Rows.passChecksRow.laid ((laidWorld os).forCall (fun _ _ => 0) ⟨#[], #[Value.string .empty, Value.string .empty, secW, Value.int .i64 0], []⟩).memory :=
  laidWorld_met os _
theorem reads (os : Os) {H : Type} (enc : TypeId × Value → H) : ∃ places, DataW.whole enc Tryd.prog ((laidWorld os).forCall (fun _ _ => 0) ⟨#[], #[Value.string .empty, Value.string .empty, secW, Value.int .i64 0], []⟩).memory Tryd.f4.params.toList Rows.passChecksSpec.vars false (#[Value.string .empty, Value.string .empty, secW, Value.int .i64 0]).toList 8 = some ([.lit (.string []), .lit (.string []), secDat, .lit (.int .i64 0)], [], places) :=
  ⟨[], by kernel_rfl⟩

set_option maxRecDepth 100000 in
theorem lifted (os : Os) (started : os.Started) (H : Type) (enc : TypeId × Value → H) (F : Stop.Interp) :
    ReturnsInHanded {} Tryd.checked os 4 .any ((OpenSpec.ofChange Rows.passChecksSpec).preRow enc Tryd.prog Tryd.f4 Rows.passChecksRow.domain false Rows.passChecksRow.laid) (((OpenSpec.ofChange Rows.passChecksSpec).at F).post enc Tryd.prog Tryd.f4 false true false false) := by
  obtain ⟨places, hx⟩ := reads os enc
  refine returnsInHanded_of_row (C := Tryd.checked) (s := (OpenSpec.ofChange Rows.passChecksSpec)) own started (by kernel_rfl) Tryd.func4
    (witness_row_at (enc := enc) (C := Tryd.checked) false (laidWorld os) #[Value.string .empty, Value.string .empty, secW, Value.int .i64 0] (laidWorld_os os) (by kernel_rfl) (by kernel_rfl) (by kernel_rfl)
      (OpenSpec.preRow_of_cond 8 hx (by kernel_rfl) (fun k hk => by cases hk) (by kernel_rfl) (laid_met os))) ?_
  intro W base args ds gs before hval hW _ hcond hz hL _ _
  exact contract H enc W base args ds gs before hval hW hz hL

theorem said : Rows.PassChecksSaid :=
  OpenClaim.holds_of_cond 4 Tryd.f4 rfl rfl rfl rfl rfl rfl rfl ⟨rfl, rfl, rfl, rfl, rfl⟩ rfl rfl rfl rfl rfl (by kernel_rfl) Tryd.func4 (by kernel_rfl)
    (of_decide_eq_true (by kernel_rfl)) (by unfold Func.isWrapper; first | (rw [if_pos (by decide +kernel)]; kernel_rfl) | (rw [if_neg (by decide +kernel)]; exact ⟨rfl, rfl⟩))
    (fun os started H enc _ F => by rw [OpenClaim.pre_eq_preRow]; exact lifted os started H enc F)

theorem plain (f : FuncId) (fn : Func) (hf : Tryd.pinned.checked.prog.funcNamed "muniment/munimentlaw18.PassChecks" = some f) (hfn : Tryd.pinned.checked.prog.funcs[f]? = some fn) :
    Rows.passChecksCard.stood.looks = Tryd.pinned.checked.prog.looks [] ∧ ∀ (j : Nat) t, fn.params[j]? = some t → Tryd.pinned.checked.prog.wantsStandIn t = false := by
  obtain rfl : f = 4 := Option.some.inj ((show Tryd.prog.funcNamed "muniment/munimentlaw18.PassChecks" = some 4 by kernel_rfl).symm.trans hf) |>.symm
  obtain rfl : fn = Tryd.f4 := (Option.some.inj (Tryd.func4.symm.trans hfn)).symm
  refine ⟨by kernel_rfl, fun j t ht => ?_⟩
  have h := (show (Tryd.f4.params.toList.all fun t => !Tryd.prog.wantsStandIn t) = true by kernel_rfl)
  have h2 := List.all_eq_true.1 h t (by simpa using Array.mem_of_getElem? ht)
  have h3 : Tryd.prog.wantsStandIn t = false := by simpa using h2
  exact h3

/-- The card. -/
theorem card : Rows.PassChecksCardSaid :=
  Claim7.holds_tied_plain_at .later [] _ _ _ _ said (fun _ h => by cases h) (by kernel_rfl) (fun _ h => by cases h) passChecks_row_tie rfl ⟨rfl, rfl⟩ (by kernel_rfl) rfl plain (by kernel_rfl)
end Go.Proofs.YtdllppaichlnaaaDoor.lawPassChecks
namespace Go.Proofs.YtdllppaichlnaaaDoor
open Go.RowKit

section
variable {P : Program} {ops : Array Oper} {Q : Exit → Act → World → Prop} {S : Nat → World → Value → Prop} {a0 : Act} {w0 : World} {B : Nat}

/-- The facts of the operations that have come up. -/
structure RInvX (B : Nat) (ops : Array Oper) (S : Nat → World → Value → Prop) (a0 : Act) (w0 : World) (listed : Array Bool) (a : Act) (w : World) : Prop where
  size : listed.size = ops.size
  ext : Ext w0 w
  defers : a.defers = a0.defers
  tmps : a.tmps.size = a0.tmps.size
  closed : ∀ (i : Nat) (o : Oper), ops[i]? = some o → listed[i]? = some true → ∀ e ∈ o.after, Region.binds .any e = true → listed[e.on]? = some true
  vals : ∀ (i : Nat) (o : Oper) (d : Nat), ops[i]? = some o → listed[i]? = some true → o.dst = some d → ∃ v, a.tmps[d]? = some v ∧ S i w v
  same : ∀ t, (∀ (i : Nat) (o : Oper), ops[i]? = some o → o.dst = some t → listed[i]? = some false) → a.tmps[t]? = a0.tmps[t]?

/-- What one operation owes. -/
def StepOkX (B : Nat) (P : Program) (ops : Array Oper) (S : Nat → World → Value → Prop) (a0 : Act) (w0 : World) (i : Nat) (o : Oper) : Prop :=
  ∀ (a : Act) (w : World), Ext w0 w → a.defers = a0.defers → (∀ t, keepsB ops i t = true → a.tmps[t]? = a0.tmps[t]?) →
    (∀ e ∈ o.after, Region.binds .any e = true → ∀ (o' : Oper), ops[e.on]? = some o' → ∀ (d : Nat), o'.dst = some d → ∃ v, a.tmps[d]? = some v ∧ S e.on w v) →
    (Region.wanted o (yielded ops a.tmps) = true ∧ gives P o a w fun v w' => Ext w w' ∧ S i w' v) ∨ (Region.wanted o (yielded ops a.tmps) = false ∧ S i w undef)


theorem wpAny_growX (hok : regOk ops a0.tmps.size = true) (hup : ∀ i w w' v, S i w v → Ext w w' → S i w' v)
    (hstep : ∀ (i : Nat) (o : Oper), ops[i]? = some o → StepOkX B P ops S a0 w0 i o)
    (hend : ∀ (a : Act) (w : World), Ext w0 w → a.defers = a0.defers → a.tmps.size = a0.tmps.size → (∀ (i : Nat) (o : Oper) (d : Nat), ops[i]? = some o → o.dst = some d → ∃ v, a.tmps[d]? = some v ∧ S i w v) →
      (∀ t, (∀ (i : Nat) (o : Oper), ops[i]? = some o → o.dst ≠ some t) → a.tmps[t]? = a0.tmps[t]?) → Q .normal a w) :
    ∀ (fuel : Nat) (listed : Array Bool) (a : Act) (w : World), RInvX B ops S a0 w0 listed a w → listed.toList.count true + fuel = ops.size → wpAny P .any ops Q fuel listed a w := by
  have getb : ∀ (l : Array Bool) (i : Nat) (b : Bool), l.getD i b = (l[i]?).getD b := fun l i b => by simp
  have allTrue : ∀ (l : Array Bool), l.toList.count true = l.size → ∀ i, i < l.size → l[i]? = some true := fun l h i hi => by
    have : ∀ x ∈ l.toList, true = x := by
      rw [← List.count_eq_length]; simpa using h
    rw [Array.getElem?_eq_getElem hi]
    congr 1
    exact (this _ (by simp)).symm
  have fin : ∀ (listed : Array Bool) (a : Act) (w : World), RInvX B ops S a0 w0 listed a w → (∀ i, i < ops.size → listed[i]? = some true) → Q .normal a w := by
    intro listed a w I h
    have hlt : ∀ {i : Nat} {o : Oper}, ops[i]? = some o → i < ops.size := fun {i o} ho => by
      rcases Nat.lt_or_ge i ops.size with hlt | hge
      · exact hlt
      · rw [Array.getElem?_eq_none hge] at ho; cases ho
    exact hend a w I.ext I.defers I.tmps (fun i o d ho hd => I.vals i o d ho (h i (hlt ho)) hd) (fun t ht => I.same t fun i o ho hd => absurd hd (ht i o ho))
  have step : ∀ (listed : Array Bool) (a : Act) (w : World) (i : Nat) (K : Act → World → Prop), RInvX B ops S a0 w0 listed a w → i ∈ Region.ready .any ops listed →
      (∀ a' w', RInvX B ops S a0 w0 (listed.setIfInBounds i true) a' w' → K a' w') → wpOp P ops Q i K a w := by
    intro listed a w i K I hr hK
    obtain ⟨hun, o, ho, hall⟩ := mem_ready.1 hr
    have hi : i < listed.size := by
      rw [I.size]
      rcases Nat.lt_or_ge i ops.size with hlt | hge
      · exact hlt
      · rw [Array.getElem?_eq_none hge] at ho; cases ho
    have hfalse : listed[i]? = some false := by
      rw [getb, Array.getElem?_eq_getElem hi] at hun
      rw [Array.getElem?_eq_getElem hi]; simpa using hun
    have hpre : ∀ e ∈ o.after, Region.binds .any e = true → listed[e.on]? = some true := fun e he hb => by
      have h1 := hall e he hb
      rw [getb] at h1
      cases h2 : listed[e.on]? with
      | none => rw [h2] at h1; simp at h1
      | some b => rw [h2] at h1; simp at h1; rw [h1]
    have hset : ∀ (k : Nat), (listed.setIfInBounds i true)[k]? = if i = k then some true else listed[k]? := fun k => by
      rw [Array.getElem?_setIfInBounds]
      by_cases h : i = k
      · subst h; simp [hi]
      · simp [h]
    have next : ∀ v w', Ext w w' → S i w' v → RInvX B ops S a0 w0 (listed.setIfInBounds i true) (a.put o.dst v) w' := by
      intro v w' hx hS
      refine ⟨by simpa using I.size, I.ext.trans hx, ?_, ?_, ?_, ?_, ?_⟩
      · cases hd : o.dst <;> simpa [Act.put] using I.defers
      · cases hd : o.dst <;> simpa [Act.put] using I.tmps
      · intro k ok hk hl e he hb
        rw [hset] at hl ⊢
        by_cases hki : i = k
        · subst hki
          rw [ho] at hk; cases hk
          split
          · rfl
          · exact hpre e he hb
        · rw [if_neg hki] at hl
          split
          · rfl
          · exact I.closed k ok hk hl e he hb
      · intro k ok d hk hl hd
        rw [hset] at hl
        by_cases hki : i = k
        · subst hki
          rw [ho] at hk; cases hk
          refine ⟨v, ?_, hS⟩
          rw [hd]
          have := regOk_lt hok ho hd
          simp only [Act.put, Array.getElem?_setIfInBounds]
          simp [I.tmps, this]
        · rw [if_neg hki] at hl
          obtain ⟨u, hu, hSu⟩ := I.vals k ok d hk hl hd
          refine ⟨u, ?_, hup _ _ _ _ hSu hx⟩
          cases hod : o.dst with
          | none => simpa [Act.put] using hu
          | some d' =>
            have hne : d' ≠ d := fun e => hki (regOk_one hok ho hk (by rw [hod, e]) hd)
            simp only [Act.put, Array.getElem?_setIfInBounds_ne hne]
            exact hu
      · intro t ht
        have hit : o.dst ≠ some t := fun hd => by
          have := ht i o ho hd
          rw [hset, if_pos rfl] at this; cases this
        have := I.same t fun k ok hk hd => by
          have h2 := ht k ok hk hd
          rw [hset] at h2
          split at h2
          · cases h2
          · exact h2
        rw [← this]
        cases hod : o.dst with
        | none => rfl
        | some d' =>
          have hne : d' ≠ t := fun e => hit (by rw [hod, e])
          simp only [Act.put, Array.getElem?_setIfInBounds_ne hne]
    have hs := hstep i o ho a w I.ext I.defers ?_ ?_
    · unfold wpOp
      simp only [ho]
      rcases hs with ⟨hw, hg⟩ | ⟨hw, hS⟩
      · rw [if_pos hw]
        exact .inl (wp_of_gives hg fun v w' ⟨hx, hS⟩ => hK _ _ (next v w' hx hS))
      · rw [if_neg (by rw [hw]; exact Bool.false_ne_true)]
        exact hK _ _ (next _ _ (Ext.refl _) hS)
    · intro t ht
      refine I.same t fun k ok hk hd => ?_
      simp only [keepsB, List.all_eq_true] at ht
      have hm : ok ∈ ops.toList := by simpa using Array.mem_of_getElem? hk
      have := ht ok hm
      simp only [hd, bne_self_eq_false, Bool.false_or, List.any_eq_true, Array.mem_toList_iff] at this
      obtain ⟨e, he, hb⟩ := this
      simp only [Bool.and_eq_true, beq_iff_eq] at hb
      have hkl : k < listed.size := by
        rw [I.size]
        rcases Nat.lt_or_ge k ops.size with hlt | hge
        · exact hlt
        · rw [Array.getElem?_eq_none hge] at hk; cases hk
      cases hv : listed[k]? with
      | none => rw [Array.getElem?_eq_getElem hkl] at hv; cases hv
      | some b =>
        cases b with
        | false => rfl
        | true =>
          have := I.closed k ok hk hv e he hb.2
          rw [hb.1, hfalse] at this; cases this
    · intro e he hb o' ho' d hd
      exact I.vals e.on o' d ho' (hpre e he hb) hd
  have full : ∀ (listed : Array Bool) (a : Act) (w : World), RInvX B ops S a0 w0 listed a w → Region.ready .any ops listed = [] → ∀ i, i < ops.size → listed[i]? = some true := by
    intro listed a w I hr i
    induction i using Nat.strongRecOn with
    | ind i ih =>
      intro hi
      cases hv : listed[i]? with
      | none => rw [Array.getElem?_eq_none_iff, I.size] at hv; omega
      | some b =>
        cases b with
        | true => rfl
        | false =>
          exfalso
          have hmem : i ∈ Region.ready .any ops listed := by
            refine mem_ready.2 ⟨by rw [getb, hv]; rfl, ops[i], Array.getElem?_eq_getElem hi, fun e he hb => ?_⟩
            have hlt := regOk_back hok (Array.getElem?_eq_getElem hi) he hb
            rw [getb, ih e.on hlt (by omega)]; rfl
          rw [hr] at hmem; cases hmem
  intro fuel
  induction fuel with
  | zero =>
    intro listed a w I hc
    have hall := allTrue listed (by rw [I.size]; omega)
    rw [I.size] at hall
    refine ⟨?_, fin listed a w I hall⟩
    cases hr : Region.ready .any ops listed with
    | nil => rfl
    | cons i rest =>
      exfalso
      have hm : i ∈ Region.ready .any ops listed := by rw [hr]; simp
      obtain ⟨hun, o, ho, _⟩ := mem_ready.1 hm
      have hlt : i < ops.size := by
        rcases Nat.lt_or_ge i ops.size with hlt | hge
        · exact hlt
        · rw [Array.getElem?_eq_none hge] at ho; cases ho
      rw [getb, hall i hlt] at hun; cases hun
  | succ fuel ih =>
    intro listed a w I hc
    refine ⟨fun hr => fin listed a w I (full listed a w I hr), fun i hi => step listed a w i _ I hi fun a' w' I' => ih _ a' w' I' ?_⟩
    obtain ⟨hun, o, ho, _⟩ := mem_ready.1 hi
    have hlt : i < listed.size := by
      rw [I.size]
      rcases Nat.lt_or_ge i ops.size with hlt | hge
      · exact hlt
      · rw [Array.getElem?_eq_none hge] at ho; cases ho
    rw [count_set (by rw [getb, Array.getElem?_eq_getElem hlt] at hun; rw [Array.getElem?_eq_getElem hlt]; simpa using hun)]
    omega

/-- THE REGION. -/
theorem wp_region_growX {id : Nat} (S : Nat → World → Value → Prop) (hm : P.follows .mixedOrders = true) (hok : regOk ops a0.tmps.size = true)
    (hup : ∀ i w w' v, S i w v → Ext w w' → S i w' v) (hstep : ∀ (i : Nat) (o : Oper), ops[i]? = some o → StepOkX B P ops S a0 w0 i o)
    (hend : ∀ (a : Act) (w : World), Ext w0 w → a.defers = a0.defers → a.tmps.size = a0.tmps.size → (∀ (i : Nat) (o : Oper) (d : Nat), ops[i]? = some o → o.dst = some d → ∃ v, a.tmps[d]? = some v ∧ S i w v) →
      (∀ t, (∀ (i : Nat) (o : Oper), ops[i]? = some o → o.dst ≠ some t) → a.tmps[t]? = a0.tmps[t]?) → Q .normal a w) :
    (Code.region id ops true).wp P Q a0 w0 := by
  refine wp_region_any hm (wpAny_growX hok hup hstep hend ops.size _ a0 _ ?_ ?_)
  · refine ⟨by simp, Ext.drewn _ _, rfl, rfl, ?_, ?_, fun _ _ => rfl⟩
    · intro i o ho hl
      rw [Array.getElem?_replicate] at hl
      split at hl <;> simp at hl
    · intro i o d ho hl
      rw [Array.getElem?_replicate] at hl
      split at hl <;> simp at hl
  · have : (Array.replicate ops.size false).toList.count true = 0 := by simp [List.count_replicate]
    omega
end

/-- A fact of a world and a value that lasts while the world grows. -/
structure SpX where
  p : World → Value → Prop
  up : ∀ w w' v, p w v → Ext w w' → p w' v
def SpX.any : SpX := ⟨fun _ _ => True, fun _ _ _ _ _ => trivial⟩
def SpX.is (x : Value) : SpX := ⟨fun _ v => v = x, fun _ _ _ h _ => h⟩

/-- What one operation owes, in the form in which it is paid. -/
def PaysX (B : Nat) (P : Program) (ops : Array Oper) (L : List SpX) (a0 : Act) (w0 : World) (i : Nat) (o : Oper) : Prop :=
  ∀ (a : Act) (w : World), Ext w0 w → B ≤ w.heap.size → (∀ t, keepsB ops i t = true → a.tmps[t]? = a0.tmps[t]?) →
    (∀ j, (o.after.toList.any fun e => e.on == j && Region.binds .any e) = true → ∀ (o' : Oper), ops[j]? = some o' → ∀ (d : Nat), o'.dst = some d → ∃ v, a.tmps[d]? = some v ∧ (L.getD j SpX.any).p w v) →
    (Region.wanted o (yielded ops a.tmps) = true ∧ gives P o a w fun v w' => Ext w w' ∧ (L.getD i SpX.any).p w' v) ∨ (Region.wanted o (yielded ops a.tmps) = false ∧ (L.getD i SpX.any).p w undef)

theorem wp_region_spX {B : Nat} {P : Program} {ops : List Oper} {Q : Exit → Act → World → Prop} {a0 : Act} {w0 : World} {id : Nat} (hB : B ≤ w0.heap.size) (L : List SpX) (hm : P.follows .mixedOrders = true) (hok : regOk ops.toArray a0.tmps.size = true)
    (hstep : PaysFrom (PaysX B P ops.toArray L a0 w0) 0 ops)
    (hend : ∀ (a : Act) (w : World), Ext w0 w → a.defers = a0.defers → a.tmps.size = a0.tmps.size → (∀ (i : Nat) (o : Oper) (d : Nat), ops.toArray[i]? = some o → o.dst = some d → ∃ v, a.tmps[d]? = some v ∧ (L.getD i SpX.any).p w v) →
      (∀ t, (∀ (i : Nat) (o : Oper), ops.toArray[i]? = some o → o.dst ≠ some t) → a.tmps[t]? = a0.tmps[t]?) → Q .normal a w) :
    (Code.region id ops.toArray true).wp P Q a0 w0 := by
  refine wp_region_growX (B := B) (fun i => (L.getD i SpX.any).p) hm hok (fun i w w' v h hx => (L.getD i SpX.any).up w w' v h hx) ?_ hend
  intro i o ho a w hx hd hk H
  have h := paysFrom_all ops 0 hstep i o (by simpa using ho)
  rw [Nat.zero_add] at h
  refine h a w hx (Nat.le_trans hB hx.size) hk fun j hj o' ho' d hd' => ?_
  simp only [List.any_eq_true, Array.mem_toList_iff] at hj
  obtain ⟨e, he, hb⟩ := hj
  simp only [Bool.and_eq_true, beq_iff_eq] at hb
  obtain ⟨rfl, hb⟩ := hb
  exact H e he hb o' ho' d hd'
end Go.Proofs.YtdllppaichlnaaaDoor
namespace Go.Proofs.YtdllppaichlnaaaDoor
open Go.RowKit

/-- Six bits each, one behind the other, as a number. -/
def num64 (vs : List Nat) : Nat := vs.foldl (fun a v => a * 64 + v) 0
def num256 (l : List UInt8) : Nat := l.foldl (fun a b => a * 256 + b.toNat) 0
theorem num64_snoc (vs : List Nat) (v : Nat) : num64 (vs ++ [v]) = num64 vs * 64 + v := by simp [num64]
theorem num256_snoc (l : List UInt8) (b : UInt8) : num256 (l ++ [b]) = num256 l * 256 + b.toNat := by simp [num256]
theorem num64_lt : ∀ (n : Nat) (vs : List Nat), vs.length = n → (∀ v ∈ vs, v < 64) → num64 vs < 64 ^ n
  | 0, [], _, _ => by decide
  | n + 1, vs, hn, hv => by
    rcases List.eq_nil_or_concat vs with rfl | ⟨ws, v, rfl⟩
    · cases hn
    · rw [List.concat_eq_append] at hn hv ⊢
      rw [num64_snoc]
      have h1 := num64_lt n ws (by simpa using hn) (fun u hu => hv u (List.mem_append_left _ hu))
      have h2 := hv v (List.mem_append_right _ (List.mem_singleton.2 rfl))
      rw [Nat.pow_succ]
      omega
/-- Two lists of as many six bits that are one number are one list. -/
theorem num64_inj : ∀ (n : Nat) (vs ws : List Nat), vs.length = n → ws.length = n → (∀ v ∈ vs, v < 64) → (∀ v ∈ ws, v < 64) → num64 vs = num64 ws → vs = ws
  | 0, [], [], _, _, _, _, _ => rfl
  | n + 1, vs, ws, hn, hm, hv, hw, he => by
    rcases List.eq_nil_or_concat vs with rfl | ⟨vs, v, rfl⟩
    · cases hn
    rcases List.eq_nil_or_concat ws with rfl | ⟨ws, u, rfl⟩
    · cases hm
    rw [List.concat_eq_append] at hn hv he
    rw [List.concat_eq_append] at hm hw he
    rw [List.concat_eq_append, List.concat_eq_append]
    rw [num64_snoc, num64_snoc] at he
    have h1 := hv v (List.mem_append_right _ (List.mem_singleton.2 rfl))
    have h2 := hw u (List.mem_append_right _ (List.mem_singleton.2 rfl))
    rw [num64_inj n vs ws (by simpa using hn) (by simpa using hm) (fun x hx => hv x (List.mem_append_left _ hx)) (fun x hx => hw x (List.mem_append_left _ hx)) (by omega), show v = u by omega]
/-- What emitN gives, as six bits. -/
def emitV (b l : Nat) : List Nat := if l < 6 then [] else if l < 12 then [b / 2 ^ (l - 6) % 64] else [b / 2 ^ (l - 6) % 64, b / 2 ^ (l - 12) % 64]
theorem emitV_map (b l : Nat) : (emitV b l).map sgn = emitN b l := by
  unfold emitV emitN
  split
  · rfl
  · split <;> rfl
theorem emitV_lt (b l : Nat) : ∀ v ∈ emitV b l, v < 64 := by
  unfold emitV
  intro v hv
  split at hv
  · cases hv
  · split at hv
    · rw [List.mem_singleton.1 hv]; exact Nat.mod_lt _ (by decide)
    · rcases List.mem_cons.1 hv with rfl | hv
      · exact Nat.mod_lt _ (by decide)
      · rw [List.mem_singleton.1 hv]; exact Nat.mod_lt _ (by decide)
/-- Base 64 writes: the six bits and what is left are the bytes' number. -/
theorem goB_num : ∀ (xs done : List UInt8) (vs : List Nat) (b l : Nat), l < 6 → l % 2 = 0 → b < 4294967296 → num256 done = num64 vs * 2 ^ l + b % 2 ^ l → done.length * 8 = vs.length * 6 + l → (∀ v ∈ vs, v < 64) →
    ∃ us : List Nat, (goB xs b l).1 = us.map sgn ∧ (∀ v ∈ us, v < 64) ∧ num256 (done ++ xs) = num64 (vs ++ us) * 2 ^ (goB xs b l).2.2 + (goB xs b l).2.1 % 2 ^ (goB xs b l).2.2 ∧ (done.length + xs.length) * 8 = (vs.length + us.length) * 6 + (goB xs b l).2.2 ∧ (goB xs b l).2.2 < 6
  | [], done, vs, b, l, hl, _, _, hn, hd, _ => ⟨[], rfl, by simp, by simpa [goB] using hn, by simpa [goB] using hd, hl⟩
  | x :: xs, done, vs, b, l, hl, he, hb, hn, hd, hv => by
    obtain ⟨b1, hb1⟩ : ∃ u, b * 256 % 4294967296 + x.toNat = u := ⟨_, rfl⟩
    have hx := x.toNat_lt
    have hb1lt : b1 < 4294967296 := by omega
    have key : num256 (done ++ [x]) = num64 (vs ++ emitV b1 (l + 8)) * 2 ^ ((l + 8) % 6) + b1 % 2 ^ ((l + 8) % 6) ∧ (done ++ [x]).length * 8 = (vs ++ emitV b1 (l + 8)).length * 6 + (l + 8) % 6 := by
      rw [num256_snoc, hn]
      rcases (by omega : l = 0 ∨ l = 2 ∨ l = 4) with rfl | rfl | rfl
      · have e : emitV b1 8 = [b1 / 4 % 64] := rfl
        rw [show 0 + 8 = 8 from rfl, e, num64_snoc, List.length_append, List.length_append]
        simp only [List.length_singleton]
        refine ⟨?_, by omega⟩
        show (num64 vs * 1 + b % 1) * 256 + x.toNat = (num64 vs * 64 + b1 / 4 % 64) * 4 + b1 % 4
        omega
      · have e : emitV b1 10 = [b1 / 16 % 64] := rfl
        rw [show 2 + 8 = 10 from rfl, e, num64_snoc, List.length_append, List.length_append]
        simp only [List.length_singleton]
        refine ⟨?_, by omega⟩
        show (num64 vs * 4 + b % 4) * 256 + x.toNat = (num64 vs * 64 + b1 / 16 % 64) * 16 + b1 % 16
        omega
      · have e : emitV b1 12 = [b1 / 64 % 64] ++ [b1 / 1 % 64] := rfl
        rw [show 4 + 8 = 12 from rfl, e, ← List.append_assoc, num64_snoc, num64_snoc, List.length_append, List.length_append, List.length_append]
        simp only [List.length_singleton]
        refine ⟨?_, by omega⟩
        show (num64 vs * 16 + b % 16) * 256 + x.toNat = ((num64 vs * 64 + b1 / 64 % 64) * 64 + b1 / 1 % 64) * 1 + b1 % 1
        omega
    obtain ⟨us, h1, h2, h3, h4, h5⟩ := goB_num xs (done ++ [x]) (vs ++ emitV b1 (l + 8)) b1 ((l + 8) % 6) (Nat.mod_lt _ (by decide)) (by omega) hb1lt key.1 key.2 (fun v hv2 => by
      rcases List.mem_append.1 hv2 with h | h
      · exact hv v h
      · exact emitV_lt _ _ v h)
    refine ⟨emitV b1 (l + 8) ++ us, ?_, ?_, ?_, ?_, ?_⟩
    · simp only [goB, hb1, h1, List.map_append, emitV_map]
    · intro v hv2
      rcases List.mem_append.1 hv2 with h | h
      · exact emitV_lt _ _ v h
      · exact h2 v h
    · simp only [goB, hb1]
      rw [← List.append_assoc, ← h3, List.append_assoc]
      rfl
    · simp only [goB, hb1]
      simp only [List.length_append, List.length_cons, List.length_nil] at h4 ⊢
      omega
    · simp only [goB, hb1]
      exact h5
end Go.Proofs.YtdllppaichlnaaaDoor
namespace Go.Proofs.YtdllppaichlnaaaDoor
open Go.RowKit

theorem goR_num : ∀ (cs out : List UInt8) (vs : List Nat) (b l : Nat) (r : List UInt8) (b' l' : Nat), l < 8 → l % 2 = 0 → b < 4294967296 → num64 vs = num256 out * 2 ^ l + b % 2 ^ l → vs.length * 6 = out.length * 8 + l → goR cs b l = some (r, b', l') →
    ∃ us : List Nat, cs = us.map sgn ∧ (∀ v ∈ us, v < 64) ∧ num64 (vs ++ us) = num256 (out ++ r) * 2 ^ l' + b' % 2 ^ l' ∧ (vs.length + us.length) * 6 = (out.length + r.length) * 8 + l' ∧ l' < 8 ∧ l' % 2 = 0
  | [], out, vs, b, l, r, b', l', hl, he, hb, hn, hd, h => by
    simp only [goR, Option.some.injEq, Prod.mk.injEq] at h
    obtain ⟨rfl, rfl, rfl⟩ := h
    exact ⟨[], rfl, by simp, by simpa using hn, by simpa using hd, hl, he⟩
  | c :: cs, out, vs, b, l, r, b', l', hl, he, hb, hn, hd, h => by
    cases hs : sixN c with
    | none => simp only [goR, hs] at h; cases h
    | some v =>
      obtain ⟨_, hv64, hsg⟩ := six_some c v hs
      obtain ⟨b1, hb1⟩ : ∃ u, b * 64 % 4294967296 + v = u := ⟨_, rfl⟩
      have hb1lt : b1 < 4294967296 := by omega
      simp only [goR, hs, hb1] at h
      by_cases h2 : 2 ≤ l
      · rw [if_pos h2] at h
        cases hg : goR cs b1 (l - 2) with
        | none => rw [hg] at h; cases h
        | some q =>
          obtain ⟨r1, b2, l2⟩ := q
          rw [hg] at h
          simp only [Option.map_some, Option.some.injEq, Prod.mk.injEq] at h
          obtain ⟨rfl, rfl, rfl⟩ := h
          obtain ⟨y, hy⟩ : ∃ y, b1 / 2 ^ (l - 2) % 256 = y := ⟨_, rfl⟩
          rw [hy]
          have hy256 : y < 256 := by rw [← hy]; exact Nat.mod_lt _ (by decide)
          have hby : (b8 (y : Int)).toNat = y := by
            have := b8_toNat (n := (y : Int)) (by omega) (by omega)
            omega
          have key : num64 (vs ++ [v]) = num256 (out ++ [b8 (y : Int)]) * 2 ^ (l - 2) + b1 % 2 ^ (l - 2) := by
            rw [num64_snoc, num256_snoc, hby, hn, ← hy]
            rcases (by omega : l = 2 ∨ l = 4 ∨ l = 6) with rfl | rfl | rfl
            · show (num256 out * 4 + b % 4) * 64 + v = (num256 out * 256 + b1 / 1 % 256) * 1 + b1 % 1
              omega
            · show (num256 out * 16 + b % 16) * 64 + v = (num256 out * 256 + b1 / 4 % 256) * 4 + b1 % 4
              omega
            · show (num256 out * 64 + b % 64) * 64 + v = (num256 out * 256 + b1 / 16 % 256) * 16 + b1 % 16
              omega
          obtain ⟨us, h1, h3, h4, h5, h6⟩ := goR_num cs (out ++ [b8 (y : Int)]) (vs ++ [v]) b1 (l - 2) r1 b2 l2 (by omega) (by omega) hb1lt key (by simp only [List.length_append, List.length_singleton]; omega) hg
          refine ⟨v :: us, by rw [List.map_cons, hsg, h1], ?_, ?_, ?_, h6⟩
          · intro u hu
            rcases List.mem_cons.1 hu with rfl | hu
            · exact hv64
            · exact h3 u hu
          · have e1 : vs ++ v :: us = (vs ++ [v]) ++ us := by simp
            have e2 : out ++ b8 (y : Int) :: r1 = (out ++ [b8 (y : Int)]) ++ r1 := by simp
            rw [e1, e2]
            exact h4
          · simp only [List.length_append, List.length_cons, List.length_nil] at h5 ⊢
            omega
      · rw [if_neg h2] at h
        have key : num64 (vs ++ [v]) = num256 out * 2 ^ (l + 6) + b1 % 2 ^ (l + 6) := by
          rw [num64_snoc, hn]
          obtain rfl : l = 0 := by omega
          show (num256 out * 1 + b % 1) * 64 + v = num256 out * 64 + b1 % 64
          omega
        obtain ⟨us, h1, h3, h4, h5, h6⟩ := goR_num cs out (vs ++ [v]) b1 (l + 6) r b' l' (by omega) (by omega) hb1lt key (by simp only [List.length_append, List.length_singleton]; omega) h
        refine ⟨v :: us, by rw [List.map_cons, hsg, h1], ?_, ?_, ?_, h6⟩
        · intro u hu
          rcases List.mem_cons.1 hu with rfl | hu
          · exact hv64
          · exact h3 u hu
        · have e1 : vs ++ v :: us = (vs ++ [v]) ++ us := by simp
          rw [e1]
          exact h4
        · simp only [List.length_append, List.length_cons, List.length_nil] at h5 ⊢
          omega
/-- What is read of some signs is written as they are. -/
theorem base_read (q r : List UInt8) (h : readB q = some r) : baseB r = q := by
  unfold readB at h
  cases hg : goR q 0 0 with
  | none => rw [hg] at h; cases h
  | some t =>
    obtain ⟨r1, b, l⟩ := t
    rw [hg] at h
    simp only [finR, Option.bind_some, List.nil_append] at h
    by_cases hc : l = 6 ∨ b % 2 ^ l ≠ 0
    · rw [if_pos hc] at h; cases h
    · rw [if_neg hc] at h
      injection h with h
      subst h
      obtain ⟨us, hq, hu, hnum, hlen, hl8, hle⟩ := goR_num q [] [] 0 0 r1 b l (by decide) (by decide) (by decide) (by decide) (by decide) hg
      obtain ⟨ws, hw, hwl, hwn, hwlen, hl6⟩ := goB_num r1 [] [] 0 0 (by decide) (by decide) (by decide) (by decide) (by decide) (fun v hv => by cases hv)
      have hb0 : b % 2 ^ l = 0 := by
        rcases Nat.eq_zero_or_pos (b % 2 ^ l) with h0 | h0
        · exact h0
        · exact absurd (.inr (by omega)) hc
      have hl6' : l ≠ 6 := fun e => hc (.inl e)
      simp only [List.nil_append, List.length_nil, Nat.zero_add] at hnum hlen hwn hwlen
      rw [hb0, Nat.add_zero] at hnum
      unfold baseB
      obtain ⟨tb, htb⟩ : ∃ u, (goB r1 0 0).2.1 = u := ⟨_, rfl⟩
      obtain ⟨tl, htl⟩ : ∃ u, (goB r1 0 0).2.2 = u := ⟨_, rfl⟩
      rw [htb, htl] at hwn
      rw [htl] at hwlen hl6
      rw [hw, htb, htl, hq]
      rw [hwn] at hnum
      by_cases h0 : 0 < tl
      · rw [if_pos h0]
        have e : ws.map sgn ++ [sgn (tb * 2 ^ (6 - tl) % 64)] = (ws ++ [tb * 2 ^ (6 - tl) % 64]).map sgn := by simp
        rw [e]
        congr 1
        refine num64_inj us.length _ _ (by simp only [List.length_append, List.length_singleton]; omega) rfl ?_ hu ?_
        · intro v hv
          rcases List.mem_append.1 hv with hv | hv
          · exact hwl v hv
          · rw [List.mem_singleton.1 hv]; exact Nat.mod_lt _ (by decide)
        · rw [num64_snoc, hnum]
          rcases (by omega : tl = 2 ∧ l = 4 ∨ tl = 4 ∧ l = 2) with ⟨rfl, rfl⟩ | ⟨rfl, rfl⟩
          · show num64 ws * 64 + tb * 16 % 64 = (num64 ws * 4 + tb % 4) * 16
            omega
          · show num64 ws * 64 + tb * 4 % 64 = (num64 ws * 16 + tb % 16) * 4
            omega
      · obtain rfl : tl = 0 := by omega
        rw [if_neg (by decide), List.append_nil]
        congr 1
        obtain rfl : l = 0 := by omega
        refine num64_inj us.length _ _ (by omega) rfl hwl hu ?_
        rw [hnum]
        simp [Nat.mod_one]
theorem goR_bad (c : UInt8) (hc : sixN c = none) : ∀ (cs : List UInt8) (b l : Nat), goR (cs ++ [c]) b l = none
  | [], b, l => by simp only [List.nil_append, goR, hc]
  | d :: cs, b, l => by
    simp only [List.cons_append, goR]
    cases sixN d with
    | none => rfl
    | some v =>
      simp only
      split
      · rw [goR_bad c hc cs]; rfl
      · exact goR_bad c hc cs _ _
theorem readB_eq (l : List UInt8) : readB (l ++ [61]) = none := by
  unfold readB
  rw [goR_bad 61 (by kernel_rfl)]
  rfl
theorem baseB_len (l : List UInt8) : (baseB l).length = (l.length * 4 + 2) / 3 := by
  have h := goB_len l 0 0 (by decide)
  unfold baseB
  rw [List.length_append]
  split
  · simp only [List.length_singleton]; omega
  · simp only [List.length_nil]; omega
end Go.Proofs.YtdllppaichlnaaaDoor
namespace Go.Proofs.YtdllppaichlnaaaDoor
open Go.RowKit

/-- The bit at a place; 0 behind the end. -/
def bitB (l : List UInt8) (k : Nat) : Nat := (l.getD (k / 8) 0).toNat / 2 ^ (7 - k % 8) % 2
/-- The number of so many bits from a place on. -/
def valB (l : List UInt8) (f : Nat) : Nat → Nat
  | 0 => 0
  | j + 1 => valB l f j * 2 + bitB l (f + j)
theorem bitB_lt (l : List UInt8) (k : Nat) : bitB l k < 2 := Nat.mod_lt _ (by decide)
theorem valB_lt (l : List UInt8) (f : Nat) : ∀ j, valB l f j < 2 ^ j
  | 0 => Nat.one_pos
  | j + 1 => by
    have h1 := valB_lt l f j
    have h2 := bitB_lt l (f + j)
    show valB l f j * 2 + bitB l (f + j) < 2 ^ (j + 1)
    rw [Nat.pow_succ]
    omega
theorem valB_add (l : List UInt8) (f a : Nat) : ∀ b, valB l f (a + b) = valB l f a * 2 ^ b + valB l (f + a) b
  | 0 => by simp [valB]
  | b + 1 => by
    show valB l f (a + b) * 2 + bitB l (f + (a + b)) = valB l f a * 2 ^ (b + 1) + (valB l (f + a) b * 2 + bitB l (f + a + b))
    rw [valB_add l f a b, Nat.pow_succ, ← Nat.add_assoc]
    have e : valB l f a * (2 ^ b * 2) = valB l f a * 2 ^ b * 2 := by rw [Nat.mul_assoc]
    rw [e]
    omega
theorem bitB_out (l : List UInt8) (k : Nat) (h : l.length * 8 ≤ k) : bitB l k = 0 := by
  unfold bitB
  rw [List.getD_eq_getElem?_getD, List.getElem?_eq_none (by omega)]
  simp
theorem valB_out (l : List UInt8) (f : Nat) (h : l.length * 8 ≤ f) : ∀ j, valB l f j = 0
  | 0 => rfl
  | j + 1 => by
    show valB l f j * 2 + bitB l (f + j) = 0
    rw [valB_out l f h j, bitB_out l _ (by omega)]
theorem valB_byte (l : List UInt8) (j : Nat) (x : UInt8) (h : l[j]? = some x) : valB l (j * 8) 8 = x.toNat := by
  have hx := x.toNat_lt
  have hb : ∀ i, i < 8 → bitB l (j * 8 + i) = x.toNat / 2 ^ (7 - i) % 2 := fun i hi => by
    unfold bitB
    rw [show (j * 8 + i) / 8 = j by omega, show (j * 8 + i) % 8 = i by omega, List.getD_eq_getElem?_getD, h]
    rfl
  show (((((((0 * 2 + bitB l (j * 8 + 0)) * 2 + bitB l (j * 8 + 1)) * 2 + bitB l (j * 8 + 2)) * 2 + bitB l (j * 8 + 3)) * 2 + bitB l (j * 8 + 4)) * 2 + bitB l (j * 8 + 5)) * 2 + bitB l (j * 8 + 6)) * 2 + bitB l (j * 8 + 7) = _
  rw [hb 0 (by decide), hb 1 (by decide), hb 2 (by decide), hb 3 (by decide), hb 4 (by decide), hb 5 (by decide), hb 6 (by decide), hb 7 (by decide)]
  simp only [Nat.sub_zero, Nat.reduceSub, Nat.reducePow]
  omega
theorem valB_bytes (l : List UInt8) : ∀ j, j ≤ l.length → valB l 0 (j * 8) = num256 (l.take j)
  | 0, _ => by simp [valB, num256]
  | j + 1, hj => by
    obtain ⟨x, hx⟩ : ∃ x, l[j]? = some x := ⟨_, List.getElem?_eq_getElem (by omega)⟩
    rw [show (j + 1) * 8 = j * 8 + 8 by omega, valB_add, Nat.zero_add, valB_byte l j x hx, valB_bytes l j (by omega), List.take_add_one, hx, Option.toList_some, num256_snoc]
theorem valB_all (l : List UInt8) (d : Nat) : valB l 0 (l.length * 8 + d) = num256 l * 2 ^ d := by
  rw [valB_add, valB_bytes l l.length (Nat.le_refl _), List.take_of_length_le (Nat.le_refl _), valB_out l _ (by omega), Nat.add_zero]
/-- The six bits that the document reads at each place. -/
def sixes (l : List UInt8) (k : Nat) : List Nat := (List.range k).map fun i => valB l (i * 6) 6
theorem sixes_num (l : List UInt8) : ∀ k, num64 (sixes l k) = valB l 0 (k * 6)
  | 0 => rfl
  | k + 1 => by
    have e : sixes l (k + 1) = sixes l k ++ [valB l (k * 6) 6] := by simp [sixes, List.range_succ]
    rw [e, num64_snoc, sixes_num l k, show (k + 1) * 6 = k * 6 + 6 by omega, valB_add, Nat.zero_add]
theorem sixes_lt (l : List UInt8) (k : Nat) : ∀ v ∈ sixes l k, v < 64 := fun v hv => by
  simp only [sixes, List.mem_map] at hv
  obtain ⟨i, _, rfl⟩ := hv
  exact valB_lt l _ 6
theorem sixes_len (l : List UInt8) (k : Nat) : (sixes l k).length = k := by simp [sixes]
/-- Base 64 as six bits. -/
theorem base_sixes (r : List UInt8) : ∃ vs : List Nat, baseB r = vs.map sgn ∧ (∀ v ∈ vs, v < 64) ∧ ∃ d, vs.length * 6 = r.length * 8 + d ∧ d < 6 ∧ d % 2 = 0 ∧ num64 vs = num256 r * 2 ^ d := by
  obtain ⟨ws, hw, hwl, hwn, hwlen, hl6⟩ := goB_num r [] [] 0 0 (by decide) (by decide) (by decide) (by decide) (by decide) (fun v hv => by cases hv)
  simp only [List.nil_append, List.length_nil, Nat.zero_add] at hwn hwlen
  obtain ⟨tb, htb⟩ : ∃ u, (goB r 0 0).2.1 = u := ⟨_, rfl⟩
  obtain ⟨tl, htl⟩ : ∃ u, (goB r 0 0).2.2 = u := ⟨_, rfl⟩
  rw [htb, htl] at hwn
  rw [htl] at hwlen hl6
  unfold baseB
  rw [hw, htb, htl]
  by_cases h0 : 0 < tl
  · rw [if_pos h0]
    refine ⟨ws ++ [tb * 2 ^ (6 - tl) % 64], by simp, ?_, 6 - tl, by simp only [List.length_append, List.length_singleton]; omega, by omega, by omega, ?_⟩
    · intro v hv
      rcases List.mem_append.1 hv with hv | hv
      · exact hwl v hv
      · rw [List.mem_singleton.1 hv]; exact Nat.mod_lt _ (by decide)
    · rw [num64_snoc, hwn]
      rcases (by omega : tl = 2 ∨ tl = 4) with rfl | rfl
      · show num64 ws * 64 + tb * 16 % 64 = (num64 ws * 4 + tb % 4) * 16
        omega
      · show num64 ws * 64 + tb * 4 % 64 = (num64 ws * 16 + tb % 16) * 4
        omega
  · obtain rfl : tl = 0 := by omega
    rw [if_neg (by decide), List.append_nil]
    refine ⟨ws, rfl, hwl, 0, by omega, by decide, by decide, ?_⟩
    rw [hwn]
    simp [Nat.mod_one]
/-- Bit by bit it is the same. -/
theorem base_bits (l : List UInt8) : (sixes l ((l.length * 4 + 2) / 3)).map sgn = baseB l := by
  obtain ⟨vs, h1, h2, d, h3, h4, h5, h6⟩ := base_sixes l
  have hlen := baseB_len l
  rw [h1, List.length_map] at hlen
  rw [h1]
  congr 1
  refine num64_inj vs.length _ _ (by rw [sixes_len]; exact hlen.symm) rfl (sixes_lt l _) h2 ?_
  rw [sixes_num, h6, ← hlen, h3]
  exact valB_all l d
theorem num256_lt : ∀ (n : Nat) (l : List UInt8), l.length = n → num256 l < 256 ^ n
  | 0, [], _ => by decide
  | n + 1, l, hn => by
    rcases List.eq_nil_or_concat l with rfl | ⟨m, b, rfl⟩
    · cases hn
    · rw [List.concat_eq_append] at hn ⊢
      have h1 := num256_lt n m (by simpa using hn)
      have h2 := b.toNat_lt
      rw [num256_snoc, Nat.pow_succ]
      omega
theorem num256_inj : ∀ (n : Nat) (l m : List UInt8), l.length = n → m.length = n → num256 l = num256 m → l = m
  | 0, [], [], _, _, _ => rfl
  | n + 1, l, m, hn, hm, he => by
    rcases List.eq_nil_or_concat l with rfl | ⟨l, a, rfl⟩
    · cases hn
    rcases List.eq_nil_or_concat m with rfl | ⟨m, b, rfl⟩
    · cases hm
    rw [List.concat_eq_append] at hn he
    rw [List.concat_eq_append] at hm he
    rw [List.concat_eq_append, List.concat_eq_append]
    rw [num256_snoc, num256_snoc] at he
    have h1 := a.toNat_lt
    have h2 := b.toNat_lt
    rw [num256_inj n l m (by simpa using hn) (by simpa using hm) (by omega), show a = b from UInt8.toNat_inj.1 (by omega)]
theorem six_sgn (v : Nat) (h : v < 64) : sixN (sgn v) = some v := by
  have all : ∀ v : Fin 64, sixN (sgn v.val) = some v.val := by decide +kernel
  exact all ⟨v, h⟩
theorem goR_some : ∀ (vs : List Nat) (b l : Nat), (∀ v ∈ vs, v < 64) → ∃ t, goR (vs.map sgn) b l = some t
  | [], b, l, _ => ⟨_, rfl⟩
  | v :: vs, b, l, h => by
    have hv := six_sgn v (h v (List.mem_cons_self ..))
    have hr := fun b' l' => goR_some vs b' l' (fun u hu => h u (List.mem_cons_of_mem _ hu))
    simp only [List.map_cons, goR, hv]
    split
    · obtain ⟨t, ht⟩ := hr (b * 64 % 4294967296 + v) (l - 2)
      rw [ht]
      exact ⟨_, rfl⟩
    · exact hr _ _
/-- What is written is read. -/
theorem read_base (r : List UInt8) : readB (baseB r) = some r := by
  obtain ⟨vs, h1, h2, d, h3, h4, h5, h6⟩ := base_sixes r
  rw [h1]
  obtain ⟨⟨r1, b, l⟩, hg⟩ := goR_some vs 0 0 h2
  obtain ⟨us, hq, hu, hnum, hlen, hl8, hle⟩ := goR_num (vs.map sgn) [] [] 0 0 r1 b l (by decide) (by decide) (by decide) (by decide) (by decide) hg
  have huv : us = vs := by
    have e : (us.map sgn).map sixN = (vs.map sgn).map sixN := by rw [hq]
    have f : ∀ ws : List Nat, (∀ v ∈ ws, v < 64) → (ws.map sgn).map sixN = ws.map some := fun ws h => by
      rw [List.map_map]
      exact List.map_congr_left fun v hv => six_sgn v (h v hv)
    rw [f us hu, f vs h2] at e
    exact (List.map_inj_right (fun a b h => by injection h)).1 e
  subst huv
  simp only [List.nil_append, List.length_nil, Nat.zero_add] at hnum hlen
  have hll : r1.length = r.length ∧ l = d := by omega
  obtain ⟨hr1, rfl⟩ := hll
  rw [h6] at hnum
  have hp : 0 < 2 ^ l := Nat.pow_pos (by decide)
  have hb0 : b % 2 ^ l = 0 := by
    have hlt := Nat.mod_lt b hp
    have e : (num256 r * 2 ^ l) % 2 ^ l = (num256 r1 * 2 ^ l + b % 2 ^ l) % 2 ^ l := by rw [hnum]
    rw [Nat.mul_mod_left, Nat.mul_comm, Nat.mul_add_mod, Nat.mod_mod] at e
    exact e.symm
  rw [hb0, Nat.add_zero] at hnum
  have hrr : r = r1 := num256_inj r.length _ _ rfl hr1 (Nat.eq_of_mul_eq_mul_right hp hnum)
  unfold readB
  rw [hg]
  simp only [finR, Option.bind_some, List.nil_append]
  rw [if_neg (by rintro (h | h) <;> omega), hrr]
end Go.Proofs.YtdllppaichlnaaaDoor
namespace Go.Proofs.YtdllppaichlnaaaDoor
open Go.RowKit

set_option maxRecDepth 20000 in
set_option maxHeartbeats 1600000 in
theorem sign_any (v : Nat) (hv : v < 64) (w : World) : Calls Tryd.prog 29 #[.int .i64 (v : Int)] w (fun e w' => e = .returned (.int .u8 ((sgn v).toNat : Int)) ∧ w' = w) := by
  have hvs : v < alph.size := hv
  have hsg : (alph[v]'hvs) = sgn v := by
    have h := sgn_at v hvs
    rw [b8_byte] at h
    exact h
  go_enter Tryd.func29, Tryd.ntmps29
  go_wp2
  go_ret
  exact ⟨by rw [← hsg]; rfl, rfl⟩
theorem and_1 (z : Nat) (h : z < 9223372036854775808) : bits .and .i64 (z : Int) 1 = ((z % 2 : Nat) : Int) := by
  show IntKind.i64.wrap ((BitVec.ofInt 64 ((z : Nat) : Int) &&& BitVec.ofInt 64 ((1 : Nat) : Int)).toNat : Int) = _
  rw [BitVec.toNat_and, BitVec.ofInt_natCast, BitVec.ofInt_natCast, BitVec.toNat_ofNat, BitVec.toNat_ofNat, Nat.mod_eq_of_lt (show z < 2 ^ 64 by omega), Nat.mod_eq_of_lt (show 1 < 2 ^ 64 by omega),
    show (1 : Nat) = 2 ^ 1 - 1 from rfl, Nat.and_two_pow_sub_one_eq_mod, IntKind.wrap_i64]
  omega
set_option maxRecDepth 20000 in
set_option maxHeartbeats 3200000 in
theorem rbase_any (A : Option Addr) (l : List UInt8) (n c : Nat) (w : World) (hr : Rd w A l) (hn : l.length = n) (hnc : n ≤ c) (hl : n ≤ 1000000) :
    Calls Tryd.prog 28 #[.slice A n c] w (Ret w (Is (.string ⟨(baseB l).toArray⟩))) := by
  have HR := hide hr
  have HN := hide hn
  have hnI : (n : Int) ≤ 1000000 := by omega
  obtain ⟨K, HK⟩ : ∃ K, Hid ((n * 4 + 2) / 3 = K) := ⟨_, hide rfl⟩
  have HB : Hid ((sixes l K).map sgn = baseB l) := hide (by rw [← HK.out, ← hn]; exact base_bits l)
  clear hr hn
  go_enter Tryd.func28, Tryd.ntmps28
  go_upto_region 3 with fail
  go_loopw [3, 4, 5, 6] (fun ov iv _ _ wr => ∃ i : Nat, i ≤ K ∧ iv = .int .i64 (i : Int) ∧ Hid (Ext w wr) ∧ Hid (Own wr w.heap.size ov ((sixes l i).map sgn))) (fun _ iv _ _ _ => K - (intOf iv).toNat)
  case atStart => exact ⟨0, Nat.zero_le _, rfl, hide (Ext.refl _), hide (Own.nil _ _)⟩
  case round =>
    obtain ⟨i, hi, rfl, HX, HO⟩ := hrel
    by_cases hlt : i < K
    · have hik : (i : Int) * 6 < (n : Int) * 8 := by have := HK.out; omega
      have hiI : (i : Int) ≤ 2000000 := by have := HK.out; omega
      obtain ⟨wr, HWR⟩ := worldOf HX
      subst HWR
      go_upto_region 7 with fail
      go_loopw [5, 6] (fun vv kv w2 => ∃ j u : Nat, j ≤ 6 ∧ vv = .int .i64 (u : Int) ∧ kv = .int .i64 ((i : Int) * 6 + (j : Int)) ∧ Hid (valB l (i * 6) j = u) ∧ w2 = wr) (fun _ kv _ => i * 6 + 6 - (intOf kv).toNat)
      case atStart => exact ⟨0, 0, by decide, rfl, by simp, hide rfl, rfl⟩
      case round =>
        obtain ⟨j, u, hj, rfl, rfl, HU, rfl⟩ := hrel
        have hub : u < 64 := by
          rw [← HU.out]
          exact Nat.lt_of_lt_of_le (valB_lt l (i * 6) j) (show 2 ^ j ≤ 2 ^ 6 from Nat.pow_le_pow_right (by decide) hj)
        have hubI : (u : Int) < 64 := by omega
        by_cases hj6 : j < 6
        · have hjI : (i : Int) * 6 + (j : Int) < (i : Int) * 6 + 6 := by omega
          by_cases hin : i * 6 + j < n * 8
          · have hinI : (i : Int) * 6 + (j : Int) < (n : Int) * 8 := by omega
            obtain ⟨d, HD⟩ : ∃ d, Hid ((i * 6 + j) / 8 = d) := ⟨_, hide rfl⟩
            have hdI : ((i : Int) * 6 + (j : Int)) / 8 = (d : Int) := by have := HD.out; omega
            have hdn : d < n := by have := HD.out; omega
            have hdnI : (d : Int) < (n : Int) := by omega
            obtain ⟨m, HM⟩ : ∃ m, Hid ((i * 6 + j) % 8 = m) := ⟨_, hide rfl⟩
            have hmI : ((i : Int) * 6 + (j : Int)) % 8 = (m : Int) := by have := HM.out; omega
            obtain ⟨e, HE⟩ : ∃ e, Hid (7 - m = e) := ⟨_, hide rfl⟩
            have heI : (7 : Int) - (m : Int) = (e : Int) := by have := HE.out; have := HM.out; omega
            obtain ⟨x, hx⟩ : ∃ x, l[d]? = some x := ⟨_, List.getElem?_eq_getElem (by rw [HN.out]; exact hdn)⟩
            obtain ⟨b, off, hA, hc⟩ := HR.out (by intro h; rw [h] at hx; cases hx)
            subst hA
            have c0 := HX.out.keeps.cell (hc d x hx)
            clear hc
            have hxl := x.toNat_lt
            obtain ⟨z, HZ⟩ : ∃ z, Hid (x.toNat / 2 ^ e = z) := ⟨_, hide rfl⟩
            have hz : z < 256 := by rw [← HZ.out]; exact Nat.lt_of_le_of_lt (Nat.div_le_self _ _) (by omega)
            have hzI : (x.toNat : Int) / 2 ^ e = (z : Int) := by rw [← HZ.out, Int.natCast_ediv, Int.natCast_pow]; rfl
            have hand := and_1 z (by omega)
            have hwz : IntKind.i64.wrap (z : Int) = (z : Int) := by rw [IntKind.wrap_i64]; omega
            have hbit : bitB l (i * 6 + j) = z % 2 := by
              unfold bitB
              rw [HD.out, HM.out, HE.out, List.getD_eq_getElem?_getD, hx]
              show x.toNat / 2 ^ e % 2 = z % 2
              rw [HZ.out]
            have heb : (e : Int) ≤ 7 := by have := HE.out; omega
            go_wp2
            refine ⟨⟨j + 1, u * 2 + z % 2, by omega, by push_cast; rfl, congrArg (Value.int .i64) (by omega), hide ?_, trivial⟩, by simp [intOf]; omega⟩
            show valB l (i * 6) j * 2 + bitB l (i * 6 + j) = _
            rw [HU.out, hbit]
          · have hinI : ¬ (i : Int) * 6 + (j : Int) < (n : Int) * 8 := by omega
            have hbit : bitB l (i * 6 + j) = 0 := bitB_out l _ (by rw [HN.out]; omega)
            go_wp2
            refine ⟨⟨j + 1, u * 2, by omega, by push_cast; rfl, congrArg (Value.int .i64) (by omega), hide ?_, trivial⟩, by simp [intOf]; omega⟩
            show valB l (i * 6) j * 2 + bitB l (i * 6 + j) = _
            rw [HU.out, hbit]
            rfl
        · obtain rfl : j = 6 := by omega
          have hjI : ¬ (i : Int) * 6 + ((6 : Nat) : Int) < (i : Int) * 6 + 6 := by omega
          have KS := hide (fun (W : World) => sign_any u hub W)
          go_wp2_with (first
            | (go_at_call 29; (with_reducible refine (KS.out _).mono ?_); rintro e x ⟨rfl, hx⟩; have hx := hx.symm; subst hx)
            | (at_builtin; refine wpList_push (by rfl) (.tmp 44) (.tmp 47) rfl w.heap.size _ ((sixes l i).map sgn) rfl rfl HO.out (u8z _) (u8i _) HX.out.size (by rw [List.length_map, sixes_len]; omega) ?_; intro v3 w3 ho3 hb3; rw [b8_byte] at ho3; have X3 := hide (HX.out.below (Nat.le_refl _) hb3)))
          refine ⟨⟨i + 1, by omega, by go_num, X3, hide ?_⟩, by simp [intOf]; omega⟩
          have e : sixes l (i + 1) = sixes l i ++ [u] := by
            rw [← HU.out]
            simp [sixes, List.range_succ]
          rw [e, List.map_append]
          exact ho3
    · obtain rfl : i = K := by omega
      have hik : ¬ (i : Int) * 6 < (n : Int) * 8 := by have := HK.out; omega
      have hiI : (i : Int) ≤ 2000000 := by have := HK.out; omega
      go_wp2_with (refine wpList_str (by rfl) (.tmp 49) rfl ((sixes l i).map sgn) HO.out.bytes ?_)
      go_ret
      rw [← HB.out]
      exact Ret.mk HX.out rfl
end Go.Proofs.YtdllppaichlnaaaDoor
namespace Go.Proofs.YtdllppaichlnaaaDoor
open Go.RowKit

/-- The last sign among the first k that is this one; -1: none is. -/
def fk (c : UInt8) : Nat → Int
  | 0 => -1
  | k + 1 => if sgn k = c then (k : Int) else fk c k
theorem fk_none (c : UInt8) (h : ∀ v, v < 64 → sgn v ≠ c) : ∀ k, k ≤ 64 → fk c k = -1
  | 0, _ => rfl
  | k + 1, hk => by
    unfold fk
    rw [if_neg (h k (by omega)), fk_none c h k (by omega)]
theorem fk_some (c : UInt8) (v : Nat) (hv : v < 64) (h : sgn v = c) : ∀ k, v < k → k ≤ 64 → fk c k = (v : Int)
  | k + 1, hvk, hk => by
    unfold fk
    by_cases e : sgn k = c
    · rw [if_pos e]
      have h1 := six_sgn k (by omega)
      have h2 := six_sgn v hv
      rw [e, ← h, h2] at h1
      injection h1 with h1
      rw [h1]
    · rw [if_neg e]
      have : v ≠ k := fun e2 => e (by rw [← e2]; exact h)
      exact fk_some c v hv h k (by omega) (by omega)
theorem fk_64 (c : UInt8) : fk c 64 = match sixN c with | some v => (v : Int) | none => -1 := by
  cases hs : sixN c with
  | some v =>
    obtain ⟨_, h1, h2⟩ := six_some c v hs
    exact fk_some c v h1 h2 64 h1 (Nat.le_refl _)
  | none =>
    refine fk_none c (fun v hv e => ?_) 64 (Nat.le_refl _)
    have := six_sgn v hv
    rw [e, hs] at this
    cases this
/-- The first j of six bits, the highest first. -/
def bitsOf (v : Nat) (j : Nat) : List UInt8 := (List.range j).map fun i => b8 ((v / 2 ^ (5 - i) % 2 : Nat) : Int)
def bitsAll (vs : List Nat) : List UInt8 := vs.flatMap fun v => bitsOf v 6
/-- The number of so many bits of a list from a place on. -/
def bv (l : List UInt8) (f : Nat) : Nat → Nat
  | 0 => 0
  | j + 1 => bv l f j * 2 + (l.getD (f + j) 0).toNat
theorem bitsOf_len (v j : Nat) : (bitsOf v j).length = j := by simp [bitsOf]
theorem bitsAll_len (vs : List Nat) : (bitsAll vs).length = vs.length * 6 := by
  induction vs with
  | nil => rfl
  | cons v vs ih =>
    have e : bitsAll (v :: vs) = bitsOf v 6 ++ bitsAll vs := rfl
    rw [e, List.length_append, ih, bitsOf_len, List.length_cons]
    omega
theorem cb8n (n : Nat) (h : n < 256) : (b8 (n : Int)).toNat = n := by
  have := b8_toNat (n := (n : Int)) (by omega) (by omega)
  omega
theorem bitsAll_bit (vs : List Nat) : ∀ x ∈ bitsAll vs, x.toNat < 2 := fun x hx => by
  simp only [bitsAll, List.mem_flatMap, bitsOf, List.mem_map] at hx
  obtain ⟨v, _, i, _, rfl⟩ := hx
  have h := Nat.mod_lt (v / 2 ^ (5 - i)) (show 2 > 0 by decide)
  rw [cb8n _ (by omega)]
  exact h
theorem getD_bit (l : List UInt8) (h : ∀ x ∈ l, x.toNat < 2) (k : Nat) : (l.getD k 0).toNat < 2 := by
  rw [List.getD_eq_getElem?_getD]
  cases hk : l[k]? with
  | none => decide
  | some x => exact h x (List.mem_of_getElem? hk)
theorem bv_lt (l : List UInt8) (h : ∀ x ∈ l, x.toNat < 2) (f : Nat) : ∀ j, bv l f j < 2 ^ j
  | 0 => Nat.one_pos
  | j + 1 => by
    have h1 := bv_lt l h f j
    have h2 := getD_bit l h (f + j)
    show bv l f j * 2 + (l.getD (f + j) 0).toNat < 2 ^ (j + 1)
    rw [Nat.pow_succ]
    omega
theorem bv_add (l : List UInt8) (f a : Nat) : ∀ b, bv l f (a + b) = bv l f a * 2 ^ b + bv l (f + a) b
  | 0 => by simp [bv]
  | b + 1 => by
    show bv l f (a + b) * 2 + (l.getD (f + (a + b)) 0).toNat = bv l f a * 2 ^ (b + 1) + (bv l (f + a) b * 2 + (l.getD (f + a + b) 0).toNat)
    rw [bv_add l f a b, Nat.pow_succ, ← Nat.add_assoc]
    have e : bv l f a * (2 ^ b * 2) = bv l f a * 2 ^ b * 2 := by rw [Nat.mul_assoc]
    rw [e]
    omega
theorem bv_front (a b : List UInt8) (f : Nat) : ∀ j, f + j ≤ a.length → bv (a ++ b) f j = bv a f j
  | 0, _ => rfl
  | j + 1, h => by
    show bv (a ++ b) f j * 2 + ((a ++ b).getD (f + j) 0).toNat = bv a f j * 2 + (a.getD (f + j) 0).toNat
    rw [bv_front a b f j (by omega), List.getD_eq_getElem?_getD, List.getD_eq_getElem?_getD, List.getElem?_append_left (by omega)]
theorem bv_six (a : List UInt8) (v : Nat) (hv : v < 64) : bv (a ++ bitsOf v 6) a.length 6 = v := by
  have hb : ∀ i, i < 6 → ((a ++ bitsOf v 6).getD (a.length + i) 0).toNat = v / 2 ^ (5 - i) % 2 := fun i hi => by
    rw [List.getD_eq_getElem?_getD, List.getElem?_append_right (by omega), Nat.add_sub_cancel_left]
    simp only [bitsOf, List.getElem?_map, List.getElem?_range hi, Option.map_some, Option.getD_some]
    have h := Nat.mod_lt (v / 2 ^ (5 - i)) (show 2 > 0 by decide)
    exact cb8n _ (by omega)
  show (((((0 * 2 + ((a ++ bitsOf v 6).getD (a.length + 0) 0).toNat) * 2 + ((a ++ bitsOf v 6).getD (a.length + 1) 0).toNat) * 2 + ((a ++ bitsOf v 6).getD (a.length + 2) 0).toNat) * 2 + ((a ++ bitsOf v 6).getD (a.length + 3) 0).toNat) * 2 + ((a ++ bitsOf v 6).getD (a.length + 4) 0).toNat) * 2 + ((a ++ bitsOf v 6).getD (a.length + 5) 0).toNat = v
  rw [hb 0 (by decide), hb 1 (by decide), hb 2 (by decide), hb 3 (by decide), hb 4 (by decide), hb 5 (by decide)]
  simp only [Nat.sub_zero, Nat.reduceSub, Nat.reducePow]
  omega
theorem bv_all : ∀ (n : Nat) (vs : List Nat), vs.length = n → (∀ v ∈ vs, v < 64) → bv (bitsAll vs) 0 (vs.length * 6) = num64 vs
  | 0, [], _, _ => rfl
  | n + 1, vs, hn, hv => by
    rcases List.eq_nil_or_concat vs with rfl | ⟨ws, v, rfl⟩
    · cases hn
    · rw [List.concat_eq_append] at hn hv ⊢
      have e : bitsAll (ws ++ [v]) = bitsAll ws ++ bitsOf v 6 := by simp [bitsAll]
      have hl := bitsAll_len ws
      rw [e, List.length_append, List.length_singleton, show (ws.length + 1) * 6 = ws.length * 6 + 6 by omega, bv_add, Nat.zero_add, bv_front _ _ _ _ (by omega), bv_all n ws (by simpa using hn) (fun u hu => hv u (List.mem_append_left _ hu)), ← hl, bv_six _ v (hv v (List.mem_append_right _ (List.mem_singleton.2 rfl))), num64_snoc]
/-- The bytes that the document makes of bits. -/
def packB (l : List UInt8) (m : Nat) : List UInt8 := (List.range m).map fun j => b8 ((bv l (j * 8) 8 : Nat) : Int)
theorem packB_len (l : List UInt8) (m : Nat) : (packB l m).length = m := by simp [packB]
theorem packB_num (l : List UInt8) (h : ∀ x ∈ l, x.toNat < 2) : ∀ m, num256 (packB l m) = bv l 0 (m * 8)
  | 0 => rfl
  | m + 1 => by
    have e : packB l (m + 1) = packB l m ++ [b8 ((bv l (m * 8) 8 : Nat) : Int)] := by simp [packB, List.range_succ]
    have hb := bv_lt l h (m * 8) 8
    rw [e, num256_snoc, packB_num l h m, cb8n _ (by simpa using hb), show (m + 1) * 8 = m * 8 + 8 by omega, bv_add, Nat.zero_add]
/-- What the document reads of six bits each is what the call reads. -/
theorem pack_read (vs : List Nat) (hv : ∀ v ∈ vs, v < 64) : readB (vs.map sgn) = if baseB (packB (bitsAll vs) (vs.length * 6 / 8)) = vs.map sgn then some (packB (bitsAll vs) (vs.length * 6 / 8)) else none := by
  cases hr : readB (vs.map sgn) with
  | none =>
    rw [if_neg]
    intro e
    have := read_base (packB (bitsAll vs) (vs.length * 6 / 8))
    rw [e, hr] at this
    cases this
  | some r =>
    have hbr := base_read _ r hr
    have hp : packB (bitsAll vs) (vs.length * 6 / 8) = r := by
      obtain ⟨us, h1, h2, d, h3, h4, h5, h6⟩ := base_sixes r
      rw [hbr] at h1
      have huv : vs = us := by
        have e : (vs.map sgn).map sixN = (us.map sgn).map sixN := by rw [h1]
        have f : ∀ ws : List Nat, (∀ v ∈ ws, v < 64) → (ws.map sgn).map sixN = ws.map some := fun ws h => by
          rw [List.map_map]
          exact List.map_congr_left fun v hv => six_sgn v (h v hv)
        rw [f vs hv, f us h2] at e
        exact (List.map_inj_right (fun a b h => by injection h)).1 e
      subst huv
      have hm : vs.length * 6 / 8 = r.length := by omega
      rw [hm]
      refine num256_inj r.length _ _ (packB_len _ _) rfl ?_
      rw [packB_num _ (bitsAll_bit vs)]
      have hall := bv_all vs.length vs rfl hv
      rw [h3, bv_add, h6] at hall
      have hlt := bv_lt _ (bitsAll_bit vs) (0 + r.length * 8) d
      have hp : 0 < 2 ^ d := Nat.pow_pos (by decide)
      have hz : bv (bitsAll vs) (0 + r.length * 8) d = 0 := by
        have e : (bv (bitsAll vs) 0 (r.length * 8) * 2 ^ d + bv (bitsAll vs) (0 + r.length * 8) d) % 2 ^ d = (num256 r * 2 ^ d) % 2 ^ d := by rw [hall]
        rw [Nat.mul_mod_left, Nat.mul_comm, Nat.mul_add_mod, Nat.mod_eq_of_lt hlt] at e
        exact e
      rw [hz, Nat.add_zero] at hall
      exact Nat.eq_of_mul_eq_mul_right hp hall
    rw [hp, if_pos hbr]
theorem read_bad (a b : List UInt8) (c : UInt8) (hc : sixN c = none) : readB (a ++ c :: b) = none := by
  have h : ∀ (a : List UInt8) (x l : Nat), goR (a ++ c :: b) x l = none := by
    intro a
    induction a with
    | nil => intro x l; simp only [List.nil_append, goR, hc]
    | cons d a ih =>
      intro x l
      simp only [List.cons_append, goR]
      cases sixN d with
      | none => rfl
      | some v =>
        simp only
        split
        · rw [ih]; rfl
        · exact ih _ _
  unfold readB
  rw [h]
  rfl
end Go.Proofs.YtdllppaichlnaaaDoor
namespace Go.Proofs.YtdllppaichlnaaaDoor
open Go.RowKit

theorem and_1b (z : Nat) (h : z < 256) : bits .and .u8 (z : Int) 1 = ((z % 2 : Nat) : Int) := by
  show IntKind.u8.wrap ((BitVec.ofInt 8 ((z : Nat) : Int) &&& BitVec.ofInt 8 ((1 : Nat) : Int)).toNat : Int) = _
  rw [BitVec.toNat_and, BitVec.ofInt_natCast, BitVec.ofInt_natCast, BitVec.toNat_ofNat, BitVec.toNat_ofNat, Nat.mod_eq_of_lt (show z < 2 ^ 8 by omega), Nat.mod_eq_of_lt (show 1 < 2 ^ 8 by omega),
    show (1 : Nat) = 2 ^ 1 - 1 from rfl, Nat.and_two_pow_sub_one_eq_mod, IntKind.wrap_u8]
  omega
set_option maxRecDepth 20000 in
set_option maxHeartbeats 6400000 in
theorem rreadBase_any (s : ByteArray) (w : World) (hs : s.size ≤ 1000000) :
    Calls Tryd.prog 17 #[.string s] w (RdBP w (readB s.data.toList)) := by
  obtain ⟨n, HN⟩ : ∃ n, Hid (s.size = n) := ⟨_, hide rfl⟩
  have hnI : (n : Int) ≤ 1000000 := by have := HN.out; omega
  have hsn : (s.size : Int) = (n : Int) := by rw [HN.out]
  have HSL : Hid (s.data.toList.length = n) := hide (by rw [size_list, HN.out])
  go_enter Tryd.func17, Tryd.ntmps17
  go_upto_region 3 with fail
  go_loopw [4, 5, 6, 7, 8] (fun ov iv _ _ _ wr => ∃ (i : Nat) (vs : List Nat), i ≤ n ∧ iv = .int .i64 (i : Int) ∧ vs.length = i ∧ Hid (s.data.toList.take i = vs.map sgn) ∧ Hid (∀ v ∈ vs, v < 64) ∧ Hid (Ext w wr) ∧ Hid (Own wr w.heap.size ov (bitsAll vs))) (fun _ iv _ _ _ _ => n - (intOf iv).toNat)
  case atStart => exact ⟨0, [], Nat.zero_le _, rfl, rfl, hide rfl, hide (fun v hv => by cases hv), hide (Ext.refl _), hide (Own.nil _ _)⟩
  case round =>
    obtain ⟨i, vs, hi, rfl, hvl, HTK, HVS, HX, HO⟩ := hrel
    by_cases hlt : i < n
    · have hii : (i : Int) < (n : Int) := by omega
      have hiI : (i : Int) ≤ 1000000 := by omega
      have his : i < s.size := by rw [HN.out]; exact hlt
      obtain ⟨c, HC⟩ : ∃ c, Hid (s[i] = c) := ⟨_, hide rfl⟩
      have hci : ((s[i]).toNat : Int) = (c.toNat : Int) := by rw [HC.out]
      have hcn : (s[i]).toNat = c.toNat := by rw [HC.out]
      have hcl := c.toNat_lt
      have HDR : Hid (s.data.toList = s.data.toList.take i ++ c :: s.data.toList.drop (i + 1)) := hide (by
        have hlt' : i < s.data.toList.length := by rw [size_list]; exact his
        have e : s.data.toList.drop i = c :: s.data.toList.drop (i + 1) := by
          rw [List.drop_eq_getElem_cons hlt', ← HC.out]
          rfl
        rw [← e, List.take_append_drop])
      obtain ⟨wr, HWR⟩ := worldOf HX
      subst HWR
      go_upto_region 7 with fail
      go_loopw [6, 7] (fun vv kv w2 => ∃ (k : Nat) (z : Int), k ≤ 64 ∧ kv = .int .i64 (k : Int) ∧ vv = .int .i64 z ∧ Hid (fk c k = z) ∧ Hid (Ext wr w2)) (fun _ kv _ => 64 - (intOf kv).toNat)
      case atStart => exact ⟨0, -1, by decide, rfl, rfl, hide rfl, hide (Ext.refl _)⟩
      case round =>
        obtain ⟨k, z, hk, rfl, rfl, HF, HX2⟩ := hrel
        obtain ⟨w2, HW2⟩ := worldOf HX2
        subst HW2
        by_cases hk64 : k < 64
        · have hkI : (k : Int) < 64 := by omega
          obtain ⟨g, HG⟩ : ∃ g, Hid ((sgn k).toNat = g) := ⟨_, hide rfl⟩
          have KS := hide (fun (W : World) => sign_any k hk64 W)
          rw [HG.out] at KS
          by_cases he : g = c.toNat
          · have heb : ((g : Int) == (c.toNat : Int)) = true := by simp [he]
            have hsg : sgn k = c := UInt8.toNat_inj.1 (by rw [HG.out, he])
            go_upto_region 9 with fail
            go_region_law (go_simp; go_at_call 29; (with_reducible refine (KS.out _).mono ?_); rintro e x ⟨rfl, rfl⟩)
            all_goals
              go_wp2
              exact ⟨⟨k + 1, (k : Int), by omega, by go_num, rfl, hide (by unfold fk; rw [if_pos hsg]), hide (HX2.out.trans (Ext.drew _))⟩, by simp [intOf]; omega⟩
          · have heb : ((g : Int) == (c.toNat : Int)) = false := by simp; omega
            have hsg : ¬ sgn k = c := fun e => he (by rw [← HG.out, e])
            go_upto_region 9 with fail
            go_region_law (go_simp; go_at_call 29; (with_reducible refine (KS.out _).mono ?_); rintro e x ⟨rfl, rfl⟩)
            all_goals
              go_wp2
              exact ⟨⟨k + 1, z, by omega, by go_num, rfl, hide (by unfold fk; rw [if_neg hsg]; exact HF.out), hide (HX2.out.trans (Ext.drew _))⟩, by simp [intOf]; omega⟩
        · obtain rfl : k = 64 := by omega
          have X2 := hide (HX.out.trans HX2.out)
          have O2 := hide (HO.out.ext HX2.out)
          have h64 := fk_64 c
          rw [HF.out] at h64
          cases hsx : sixN c with
          | none =>
            rw [hsx] at h64
            replace h64 : z = -1 := h64
            subst h64
            clear hcn hci
            have HE : Hid (readB s.data.toList = none) := hide (by rw [HDR.out]; exact read_bad _ _ _ hsx)
            go_wp2
            go_ret2
            rw [HE.out]
            exact ⟨X2.out, rfl⟩
          | some v =>
            rw [hsx] at h64
            replace h64 : z = (v : Int) := h64
            subst h64
            clear hcn hci
            obtain ⟨_, hv64, hsg⟩ := six_some c v hsx
            have hv0 : ¬ (v : Int) < 0 := by omega
            obtain ⟨wb, HWB⟩ := worldOf X2
            subst HWB
            go_upto_region 14 with fail
            go_loopw [4, 8] (fun ov kv w3 => ∃ j : Nat, j ≤ 6 ∧ kv = .int .i64 (5 - (j : Int)) ∧ Hid (Ext w w3) ∧ Hid (Own w3 w.heap.size ov (bitsAll vs ++ bitsOf v j))) (fun _ kv _ => (intOf kv + 1).toNat)
            case atStart => exact ⟨0, by decide, rfl, X2, hide (by rw [show bitsOf v 0 = [] from rfl, List.append_nil]; exact O2.out)⟩
            case round =>
              obtain ⟨j, hj, rfl, HX3, HO3⟩ := hrel
              by_cases hj6 : j < 6
              · obtain ⟨e, HE⟩ : ∃ e, Hid (5 - j = e) := ⟨_, hide rfl⟩
                have heI : (5 : Int) - (j : Int) = (e : Int) := by have := HE.out; omega
                have he5 : (e : Int) ≤ 5 := by have := HE.out; omega
                have he0 : (0 : Int) ≤ (e : Int) := by omega
                obtain ⟨z, HZ⟩ : ∃ z, Hid (v / 2 ^ e = z) := ⟨_, hide rfl⟩
                have hz : z < 64 := by rw [← HZ.out]; exact Nat.lt_of_le_of_lt (Nat.div_le_self _ _) hv64
                have hzI : (v : Int) / 2 ^ e = (z : Int) := by rw [← HZ.out, Int.natCast_ediv, Int.natCast_pow]; rfl
                have hwz : IntKind.u8.wrap (z : Int) = (z : Int) := by rw [IntKind.wrap_u8]; omega
                have hand := and_1b z (by omega)
                obtain ⟨y, HY⟩ : ∃ y, Hid (z % 2 = y) := ⟨_, hide rfl⟩
                have hy : y < 2 := by rw [← HY.out]; exact Nat.mod_lt _ (by decide)
                rw [HY.out] at hand
                have hbl := bitsAll_len vs
                rw [heI]
                go_wp2_with (at_builtin; refine wpList_push (by rfl) (.tmp 36) (.tmp 42) rfl w.heap.size _ _ rfl rfl HO3.out (by omega) (by omega) HX3.out.size (by rw [List.length_append, hbl, bitsOf_len]; omega) ?_; intro v3 w3 ho3 hb3; have X3 := hide (HX3.out.below (Nat.le_refl _) hb3))
                refine ⟨⟨j + 1, by omega, congrArg (Value.int .i64) (by omega), X3, hide ?_⟩, by first | (simp [intOf]; done) | (simp [intOf]; omega)⟩
                have e2 : bitsOf v (j + 1) = bitsOf v j ++ [b8 (y : Int)] := by
                  have e3 : bitsOf v (j + 1) = bitsOf v j ++ [b8 ((v / 2 ^ (5 - j) % 2 : Nat) : Int)] := by simp [bitsOf, List.range_succ]
                  rw [e3, HE.out, HZ.out, HY.out]
                rw [e2, ← List.append_assoc]
                exact ho3
              · obtain rfl : j = 6 := by omega
                have h56 : (5 : Int) - ((6 : Nat) : Int) = -1 := rfl
                rw [h56]
                go_wp2
                refine ⟨⟨i + 1, vs ++ [v], by omega, by go_num, by simp [hvl], hide ?_, hide ?_, HX3, hide ?_⟩, by simp [intOf]; omega⟩
                · rw [List.take_add_one, HTK.out, List.map_append]
                  have hlt' : i < s.data.toList.length := by rw [size_list]; exact his
                  rw [List.getElem?_eq_getElem hlt']
                  have e : s.data.toList[i]'hlt' = c := by rw [← HC.out]; rfl
                  rw [e, ← hsg]
                  rfl
                · intro u hu
                  rcases List.mem_append.1 hu with hu | hu
                  · exact HVS.out u hu
                  · rw [List.mem_singleton.1 hu]; exact hv64
                · have e : bitsAll (vs ++ [v]) = bitsAll vs ++ bitsOf v 6 := by simp [bitsAll]
                  rw [e]
                  exact HO3.out
    · obtain rfl : i = n := by omega
      have hii : ¬ (i : Int) < (i : Int) := by omega
      have HS : Hid (s.data.toList = vs.map sgn) := hide (by have h := HTK.out; rw [List.take_of_length_le (by rw [HSL.out]; exact Nat.le_refl _)] at h; exact h)
      obtain ⟨nb, HNB⟩ : ∃ nb, Hid (vs.length * 6 = nb) := ⟨_, hide rfl⟩
      obtain ⟨BL, HBL⟩ : ∃ BL, Hid (bitsAll vs = BL) := ⟨_, hide rfl⟩
      have HLB : Hid (BL.length = nb) := hide (by rw [← HBL.out, bitsAll_len, HNB.out])
      have HBT : Hid (∀ x ∈ BL, x.toNat < 2) := hide (by rw [← HBL.out]; exact bitsAll_bit vs)
      have HRD := hide (pack_read vs HVS.out)
      rw [← HS.out, HBL.out, HNB.out] at HRD
      have hnbI : (nb : Int) ≤ 6000000 := by have := HNB.out; omega
      rw [HBL.out] at HO
      obtain ⟨AB, cB, hvB, hcB, hrB⟩ := HO.out.bytes
      rw [HLB.out] at hvB hcB
      subst hvB
      have RB := hide hrB
      clear hrB HO
      obtain ⟨M, HM⟩ : ∃ M, Hid (nb / 8 = M) := ⟨_, hide rfl⟩
      obtain ⟨wq, HWR⟩ := worldOf HX
      subst HWR
      go_upto_region 19 with fail
      go_loopw [9, 10, 11, 12] (fun pv iv _ _ w4 => ∃ m : Nat, m ≤ M ∧ iv = .int .i64 ((m : Int) * 8) ∧ Hid (Ext wq w4) ∧ Hid (Own w4 wq.heap.size pv (packB BL m))) (fun _ iv _ _ _ => M * 8 - (intOf iv).toNat)
      case atStart => exact ⟨0, Nat.zero_le _, rfl, hide (Ext.refl _), hide (Own.nil _ _)⟩
      case round =>
        obtain ⟨m, hm, rfl, HX4, HO4⟩ := hrel
        have hmI : (m : Int) ≤ 1000000 := by have := HM.out; omega
        by_cases hmM : m < M
        · have hm8 : (m : Int) * 8 + 8 ≤ (nb : Int) := by have := HM.out; omega
          obtain ⟨w4, HW4⟩ := worldOf HX4
          subst HW4
          go_upto_region 23 with fail
          go_loopw [11, 12] (fun bb kv w5 => ∃ k u : Nat, k ≤ 8 ∧ bb = .int .u8 (u : Int) ∧ kv = .int .i64 (k : Int) ∧ Hid (bv BL (m * 8) k = u) ∧ w5 = w4) (fun _ kv _ => 8 - (intOf kv).toNat)
          case atStart => exact ⟨0, 0, by decide, rfl, rfl, hide rfl, rfl⟩
          case round =>
            obtain ⟨k, u, hk, rfl, rfl, HU, rfl⟩ := hrel
            by_cases hk8 : k < 8
            · have hkI : (k : Int) < 8 := by omega
              have hu : u < 128 := by
                rw [← HU.out]
                exact Nat.lt_of_lt_of_le (bv_lt BL HBT.out (m * 8) k) (show 2 ^ k ≤ 2 ^ 7 from Nat.pow_le_pow_right (by decide) (by omega))
              obtain ⟨d, HD⟩ : ∃ d, Hid (m * 8 + k = d) := ⟨_, hide rfl⟩
              have hdI : (m : Int) * 8 + (k : Int) = (d : Int) := by have := HD.out; omega
              have hdn : d < nb := by have := HD.out; omega
              have hdnI : (d : Int) < (nb : Int) := by omega
              obtain ⟨x, hx⟩ : ∃ x, BL[d]? = some x := ⟨_, List.getElem?_eq_getElem (by rw [HLB.out]; exact hdn)⟩
              have hx2 := HBT.out x (List.mem_of_getElem? hx)
              obtain ⟨b, off, hA, hc⟩ := RB.out (by intro h; rw [h] at hx; cases hx)
              subst hA
              have c0 := HX4.out.keeps.cell (hc d x hx)
              clear hc
              have hw1 : IntKind.u8.wrap ((u : Int) * 2) = (u : Int) * 2 := by rw [IntKind.wrap_u8]; omega
              have hw2 : IntKind.u8.wrap ((u : Int) * 2 + (x.toNat : Int)) = (u : Int) * 2 + (x.toNat : Int) := by rw [IntKind.wrap_u8]; omega
              have hm1 : ((u : Int) * 2) % 256 = (u : Int) * 2 := by omega
              have hm2 : ((u : Int) * 2 + (x.toNat : Int)) % 256 = (u : Int) * 2 + (x.toNat : Int) := by omega
              go_wp2
              refine ⟨⟨k + 1, u * 2 + x.toNat, by omega, by push_cast; rfl, by go_num, hide ?_, trivial⟩, by simp [intOf]; omega⟩
              show bv BL (m * 8) k * 2 + (BL.getD (m * 8 + k) 0).toNat = _
              rw [HU.out, HD.out, List.getD_eq_getElem?_getD, hx]
              rfl
            · obtain rfl : k = 8 := by omega
              have hu : u < 256 := by
                rw [← HU.out]
                exact bv_lt BL HBT.out (m * 8) 8
              go_wp2_with (at_builtin; (refine wpList_push (by rfl) (.tmp 64) (.tmp 66) rfl wq.heap.size _ (packB BL m) rfl rfl HO4.out (by omega) (by omega) HX4.out.size (by rw [packB_len]; omega) ?_); intro v3 w3 ho3 hb3; have X3 := hide (HX4.out.below (Nat.le_refl _) hb3))
              refine ⟨⟨m + 1, by omega, congrArg (Value.int .i64) (by omega), X3, hide ?_⟩, by simp [intOf]; omega⟩
              have e : packB BL (m + 1) = packB BL m ++ [b8 (u : Int)] := by
                rw [← HU.out]
                simp [packB, List.range_succ]
              rw [e]
              exact ho3
        · obtain rfl : m = M := by omega
          have hm8 : ¬ (m : Int) * 8 + 8 ≤ (nb : Int) := by have := HM.out; omega
          obtain ⟨P, HP⟩ : ∃ P, Hid (packB BL m = P) := ⟨_, hide rfl⟩
          have HPL : Hid (P.length = m) := hide (by rw [← HP.out, packB_len])
          rw [HP.out] at HO4
          rw [HM.out, HP.out] at HRD
          obtain ⟨AP, cP, hvP, hcP, hrP⟩ := HO4.out.bytes
          rw [HPL.out] at hvP hcP
          subst hvP
          obtain ⟨w4, HW4⟩ := worldOf HX4
          subst HW4
          have KB := hide (rbase_any AP P m cP w4 hrP HPL.out hcP (by omega))
          obtain ⟨tb, HTB⟩ : ∃ tb : ByteArray, Hid (⟨(baseB P).toArray⟩ = tb) := ⟨_, hide rfl⟩
          have HTL : Hid (tb.toList = baseB P) := hide (by rw [ByteArray.toList_eq, ← HTB.out])
          rw [HTB.out] at KB
          by_cases he : baseB P = s.data.toList
          · have hbq : (tb.toList == s.toList) = true := by rw [HTL.out, ByteArray.toList_eq, he]; exact beq_self_eq_true _
            have HE : Hid (readB s.data.toList = some P) := hide (by rw [HRD.out, if_pos he])
            go_wp2_with (go_at_call 28; (with_reducible refine KB.out.mono ?_); rintro e w6 ⟨v6, rfl, hx6, rfl⟩; have X6 := hide ((HX.out.trans HX4.out).trans hx6))
            go_ret2
            rw [HE.out]
            exact ⟨X6.out, .slice AP m cP, rfl, ⟨AP, cP, by rw [HPL.out], by rw [HPL.out]; exact hcP, hrP.ext hx6⟩⟩
          · have hbq : (tb.toList == s.toList) = false := by rw [HTL.out, ByteArray.toList_eq]; exact beq_eq_false_iff_ne.2 he
            have HE : Hid (readB s.data.toList = none) := hide (by rw [HRD.out, if_neg he])
            go_wp2_with (go_at_call 28; (with_reducible refine KB.out.mono ?_); rintro e w6 ⟨v6, rfl, hx6, rfl⟩; have X6 := hide ((HX.out.trans HX4.out).trans hx6))
            go_ret2
            rw [HE.out]
            exact ⟨X6.out, rfl⟩
end Go.Proofs.YtdllppaichlnaaaDoor
namespace Go.Proofs.YtdllppaichlnaaaDoor
open Go.RowKit

/-- A slice without room behind it. -/
def Full (l : List UInt8) (w : World) (v : Value) : Prop := ∃ g, v = .slice (some ⟨g, 0, none⟩) l.length l.length ∧ Rd w (some ⟨g, 0, none⟩) l
theorem Full.ext {l : List UInt8} {w w' : World} {v : Value} (h : Full l w v) (hx : Ext w w') : Full l w' v := by
  obtain ⟨g, hv, hr⟩ := h
  exact ⟨g, hv, hr.ext hx⟩
theorem full_new (w : World) (l : List UInt8) (cs : Array Value) (h : cs = (bs l).toArray) : Full l (w.alloc (.cells cs 5)) (.slice (some ⟨w.heap.size, 0, none⟩) l.length l.length) := by
  subst h
  have := Rd.new w 5 l []
  rw [List.append_nil] at this
  exact ⟨_, rfl, this⟩
set_option maxHeartbeats 400000 in
theorem uint_full (u : Int) (w : World) (h0 : 0 ≤ u) (h1 : u < 18446744073709551616) :
    Calls Tryd.prog 19 #[.int .u64 u] w (Ret w (Full (be64 u))) := by
  have hmk : ∀ w, (Instr.makeSlice 37 (.int .i64 8) (.int .i64 8)).run Tryd.prog w = .ok (.slice (some ⟨w.heap.size, 0, none⟩) 8 8) (w.alloc (.cells #[.int .u8 0, .int .u8 0, .int .u8 0, .int .u8 0, .int .u8 0, .int .u8 0, .int .u8 0, .int .u8 0] 5)) := fun _ => by kernel_rfl
  go_enter Tryd.func19, Tryd.ntmps19
  go_wp2
  go_rounds 9
  go_ret
  exact Ret.mk (Ext.alloc _ _) (full_new _ (be64 u) _ (by rw [be64_cells u h0 h1]))
set_option maxHeartbeats 400000 in
theorem ruint_own (u : Int) (w : World) (h0 : 0 ≤ u) (h1 : u < 18446744073709551616) :
    Calls Tryd.prog 12 #[.int .u64 u] w (Ret w fun w' v => Own w' w.heap.size v (be64 u)) := by
  go_enter Tryd.func12, Tryd.ntmps12
  go_wp2
  refine wp_loop_rounds 9 ?_
  have hown : Own w w.heap.size (.slice none 0 0) [] := Own.nil _ _
  have hb : Below w.heap.size w w := Below.refl _ _
  iterate 8
    rw [rounds_succ]
    go_wp2_with (at_builtin; refine wpList_push rfl (.tmp 9) (.tmp 15) rfl w.heap.size _ _ rfl rfl (by assumption) (by omega) (by omega) (Below.size hb) (by simp) ?_; intro v1 w1 hown1 hb1; replace hb := Below.trans hb hb1; clear hb1)
  rw [rounds_succ]
  go_wp2
  go_ret
  refine Ret.mk hb ?_
  have e : be64 u = [] ++ [b8 (u / 72057594037927936)] ++ [b8 (u / 281474976710656 % 256)] ++ [b8 (u / 1099511627776 % 256)] ++ [b8 (u / 4294967296 % 256)] ++
      [b8 (u / 16777216 % 256)] ++ [b8 (u / 65536 % 256)] ++ [b8 (u / 256 % 256)] ++ [b8 (u % 256)] := by
    have e : u / 72057594037927936 % 256 = u / 72057594037927936 := by omega
    simp [be64, e]
  rw [e]
  assumption
theorem own_from {w w' w2 : World} {v : Value} {l : List UInt8} (hx : Ext w w2) (h : Own w' w2.heap.size v l) : Own w' w.heap.size v l := by
  refine ⟨h.1, ?_⟩
  rcases h.2 with hn | ⟨g, cap, cur, hv, hb, rest⟩
  · exact .inl hn
  · exact .inr ⟨g, cap, cur, hv, Nat.le_trans (Ext.size hx) hb, rest⟩
theorem run_cat_full (w : World) (ty : Nat) (l m : List UInt8) (v u : Value) (hv : Full l w v) (hu : Full m w u) (hm : 0 < m.length) (hlen : l.length + m.length ≤ 1000000) :
    ∃ v' w', (Builtin.append_ #[37, 37] ty #[v, u]).run Tryd.prog w = .ok v' w' ∧ Own w' w.heap.size v' (l ++ m) ∧ Ext w w' := by
  obtain ⟨i0, hi, hz0, hz1, hz2⟩ := info_parts info_u8
  obtain ⟨g, rfl, hr⟩ := hv
  obtain ⟨g2, rfl, hr2⟩ := hu
  have hc : ∀ (A : Addr) (q : List UInt8), Rd w (some A) q → ∀ j x, (bs q)[j]? = some x → w.cell? (A.add j) = some x := fun A q hq j x hx => by
    by_cases hn : q = []
    · subst hn; simp [bs] at hx
    · exact hq.cells rfl hn j x hx
  obtain ⟨v', w', hrun, h2, h3⟩ := run_append_arg_grows (P := Tryd.prog) w 37 ty 5 i0 _ 1 1 Tryd.underlying37 hi hz0 hz1 hz2 rfl (by decide) ⟨g, 0, none⟩ l.length l.length (bs l) (by rw [bs_length]; simp) (hc _ _ hr) ⟨g2, 0, none⟩ m.length m.length (bs m) (by rw [bs_length]; simp) (hc _ _ hr2) (by omega) (by unfold maxLen; omega) (by omega)
  refine ⟨v', w', hrun, ?_, ⟨h3.os, h3.tape, h3.output, h3.size, fun k hk => h3.block k hk (by intro h; cases h)⟩⟩
  unfold Own
  rw [bs_append, List.length_append]
  exact h2
section
variable {o : Oper} {a : Act} {w : World} {R : Value → World → Prop} {x y : Operand}
theorem gives_cat_full (l m : List UInt8) (h : o.op = .call { callee := .builtin .append, args := #[x, y], argTypes := #[37, 37] }) (hx : Full l w (a.eval x)) (hy : Full m w (a.eval y)) (hm : 0 < m.length) (hlen : l.length + m.length ≤ 1000000)
    (hR : ∀ v' w', Own w' w.heap.size v' (l ++ m) → Ext w w' → R v' w') : gives Tryd.prog o a w R := by
  obtain ⟨v', w', hrun, h2, h3⟩ := run_cat_full w o.type l m _ _ hx hy hm hlen
  refine gives_of_run (w' := w') (v := v') ?_ (hR v' w' h2 h3)
  unfold execOp
  simp only [h, resolve, invoke, builtin, Sem.run_bind, Sem.run_pure, Result.andThen_ok, List.map_toArray, List.map_cons, List.map_nil, hrun]
theorem gives_one (n : Int) (h : o.op = .buildSlice 37 1 #[(0, x)]) (h0 : 0 ≤ n) (h1 : n < 256) (hx : a.eval x = .int .u8 n) (hR : R (.slice (some ⟨w.heap.size, 0, none⟩) 1 1) (w.alloc (.cells #[.int .u8 n] 5))) : gives Tryd.prog o a w R := by
  obtain ⟨i0, hi, hz0, hz1, hz2⟩ := info_parts info_u8
  have hb : (Instr.buildSlice 37 1 #[(0, .int .u8 n)]).run Tryd.prog w = .ok (.slice (some ⟨w.heap.size, 0, none⟩) 1 1) (w.alloc (.cells #[.int .u8 n] 5)) := by
    refine run_buildSlice w 37 5 1 #[(0, .int .u8 n)] #[.int .u8 n] i0 _ Tryd.underlying37 hi hz0 (by rw [hz1]; decide) (by rw [hz1]; decide) ?_
    rw [hz1]
    have h := Great.fill_whole (s := 1) (by decide) [.int .u8 n] ((Array.range (1 * 1)).map ((Value.int .u8 0).cells[· % (Value.int .u8 0).cells.size]!)) (by intro v hv; rw [List.mem_singleton.1 hv]; rfl) (by rw [Array.size_map, Array.size_range]; rfl)
    exact h
  refine gives_of_run (w' := w.alloc (.cells #[.int .u8 n] 5)) (v := .slice (some ⟨w.heap.size, 0, none⟩) 1 1) ?_ hR
  unfold execOp
  simp only [h, List.map_toArray, List.map_cons, List.map_nil, hx, Sem.run_bind, hb, Result.andThen_ok, Sem.run_pure]
theorem gives_u8 (n : Int) (h : o.op = .convert 3 5 x) (h0 : 0 ≤ n) (h1 : n < 256) (hx : a.eval x = .int .i64 n) (hR : R (.int .u8 n) w) : gives Tryd.prog o a w R := by
  have hw : IntKind.u8.wrap n = n := by simp only [IntKind.wrap_u8]; omega
  have hrun : (convert 3 5 (.int .i64 n)).run Tryd.prog w = .ok (.int .u8 n) w := by
    simp [go_sem, Tryd.underlying3, Tryd.underlying5, hw]
  refine gives_of_run (w' := w) (v := .int .u8 n) ?_ hR
  unfold execOp
  simp only [h, hx, Sem.run_bind, hrun, Result.andThen_ok, Sem.run_pure]
end
theorem full_one (w : World) (n : Int) (h0 : 0 ≤ n) (h1 : n < 256) : Full [b8 n] (w.alloc (.cells #[.int .u8 n] 5)) (.slice (some ⟨w.heap.size, 0, none⟩) 1 1) := full_new w [b8 n] _ (by unfold bs; simp [b8_toNat h0 h1])
def Ful (l : List UInt8) : SpX := ⟨Full l, fun _ _ _ h hx => h.ext hx⟩
def Owx (B : Nat) (l : List UInt8) : SpX := ⟨fun w v => Own w B v l, fun _ _ _ h hx => h.ext hx⟩
/-- A secret's bytes. -/
def secB (a r : Int) (d : List UInt8) : List UInt8 := be64 a ++ [b8 r] ++ d
theorem secB_len (a r : Int) (d : List UInt8) (h : d.length = 32) : (secB a r d).length = 41 := by unfold secB; rw [List.length_append, List.length_append, h]; rfl
theorem base_own {w : World} {B : Nat} {v : Value} {l : List UInt8} (h : Own w B v l) (hl : l.length = 41) : ∃ A c, v = .slice A 41 c ∧ 41 ≤ c ∧ Rd w A l := by
  obtain ⟨A, c, hv, hc, hr⟩ := h.bytes
  rw [hl] at hv hc
  exact ⟨A, c, hv, hc, hr⟩
set_option maxRecDepth 20000 in
set_option maxHeartbeats 1600000 in
theorem write_no (a r : Int) (d : List UInt8) (w : World) (hk : okR r = false) :
    Calls Tryd.prog 14 #[.agg (sec a r d).toArray] w (Ret w (Is (.tuple #[.string ⟨#[]⟩, .int .i64 3]))) := by
  have KN := hide fun W => (show Calls Tryd.prog 24 #[.int .i64 r] W (fun e w' => e = .returned (.bool false) ∧ W = w') from (by
    have h3 := counts_any r W
    rw [hk] at h3
    exact h3))
  obtain ⟨W1, hX1, hR1, hgg⟩ : ∃ W1, Ext w W1 ∧ Rw W1 w.heap.size 26 (sec a r d) ∧ w.alloc (.cells (sec a r d).toArray 26) = W1 := ⟨_, Ext.alloc _ _, Rw.new w 26 _, rfl⟩
  have X1 := hide hX1
  have c1 := hR1.cell (i := 1) rfl
  clear hX1 hR1 hk
  go_enter Tryd.func14, Tryd.ntmps14
  go_upto_region 1 with fail
  clear hgg
  go_wp2_with (go_at_call 24; (with_reducible refine (KN.out _).mono ?_); rintro e w2 ⟨rfl, rfl⟩)
  go_ret2
  exact Ret.mk X1.out rfl
set_option maxRecDepth 20000 in
set_option maxHeartbeats 1600000 in
theorem write_yes (a r : Int) (d : List UInt8) (w : World) (ha : 0 ≤ a ∧ a < 18446744073709551616) (hd : d.length = 32) (hk : okR r = true) :
    Calls Tryd.prog 14 #[.agg (sec a r d).toArray] w (Ret w (Is (.tuple #[.string ⟨(baseB (secB a r d)).toArray⟩, .int .i64 0]))) := by
  have hr0 : 1 ≤ r ∧ r ≤ 64 := of_decide_eq_true hk
  have HD := hide hd
  have KN := hide fun W => (show Calls Tryd.prog 24 #[.int .i64 r] W (fun e w' => e = .returned (.bool true) ∧ W = w') from (by
    have h3 := counts_any r W
    rw [hk] at h3
    exact h3))
  have KU := hide fun W => uint_full a W ha.1 ha.2
  have HL := hide (secB_len a r d hd)
  have KB := hide fun W (A : Option Addr) (c : Nat) (hA : Rd W A (secB a r d)) (hc : 41 ≤ c) => base_any A (secB a r d) 41 c W hA HL.out hc (by decide)
  obtain ⟨tx, HT⟩ : ∃ tx : ByteArray, Hid (⟨(baseB (secB a r d)).toArray⟩ = tx) := ⟨_, hide rfl⟩
  rw [HT.out] at KB ⊢
  obtain ⟨W1, hX1, hR1, hgg⟩ : ∃ W1, Ext w W1 ∧ Rw W1 w.heap.size 26 (sec a r d) ∧ w.alloc (.cells (sec a r d).toArray 26) = W1 := ⟨_, Ext.alloc _ _, Rw.new w 26 _, rfl⟩
  have X1 := hide hX1
  have R1 := hide hR1
  have c1 := hR1.cell (i := 1) rfl
  obtain ⟨g1, hg1⟩ : ∃ g, g = w.heap.size := ⟨_, rfl⟩
  clear hX1 hR1 hk hd
  go_enter Tryd.func14, Tryd.ntmps14
  go_upto_region 1 with fail
  clear hgg
  go_upto_region 3 with (go_at_call 24; (with_reducible refine (KN.out _).mono ?_); rintro e w2 ⟨rfl, rfl⟩)
  rename_i hK
  rw [← hg1] at R1 ⊢
  clear hg1 c1
  refine wp_region_spX (Nat.le_refl _) [
      SpX.is (.pointer (some ⟨g1, 0, none⟩)),
      SpX.is (.int .u64 a),
      Ful (be64 a),
      SpX.is (.pointer (some ⟨g1, 1, none⟩)),
      SpX.is (.int .i64 r),
      SpX.is (.int .u8 r),
      Ful [b8 r],
      Owx W1.heap.size (be64 a ++ [b8 r]),
      Owx W1.heap.size (be64 a ++ [b8 r])] (by kernel_rfl) (by kernel_rfl) ?_ ?_
  · refine ⟨?_, ?_, ?_, ?_, ?_, ?_, ?_, ?_, ?_, trivial⟩
    · intro az wz hx hB hk H
      refine .inl ⟨wanted_none rfl, ?_⟩
      exact gives_field rfl (by rw [(ev (show az.tmps[1]? = some (.pointer (some ⟨g1, 0, none⟩)) from hk 1 rfl))]) (run_f0 _ _) ⟨Ext.refl _, rfl⟩
    · intro az wz hx hB hk H
      obtain ⟨v9, h9, s9⟩ := H 0 rfl _ rfl 9 rfl
      refine .inl ⟨wanted_none rfl, ?_⟩
      exact gives_cell rfl (by rw [ev h9]; exact s9) Tryd.underlying22 ((R1.out.ext hx).cell (i := 0) rfl) ⟨Ext.refl _, rfl⟩
    · intro az wz hx hB hk H
      obtain ⟨v10, h10, s10⟩ := H 1 rfl _ rfl 10 rfl
      refine .inl ⟨wanted_none rfl, ?_⟩
      refine gives_call rfl Tryd.call19 (by simp only [List.map_toArray, List.map_cons, List.map_nil, ev h10]; rw [s10]) ?_
      exact (KU.out wz).mono fun _ _ ⟨v, he, hx', hf⟩ => ⟨v, he, hx', hf⟩
    · intro az wz hx hB hk H
      refine .inl ⟨wanted_none rfl, ?_⟩
      exact gives_field rfl (by rw [(ev (show az.tmps[1]? = some (.pointer (some ⟨g1, 0, none⟩)) from hk 1 rfl))]) (run_f1 _ _) ⟨Ext.refl _, rfl⟩
    · intro az wz hx hB hk H
      obtain ⟨v12, h12, s12⟩ := H 3 rfl _ rfl 12 rfl
      refine .inl ⟨wanted_none rfl, ?_⟩
      exact gives_cell rfl (by rw [ev h12]; exact s12) Tryd.underlying3 ((R1.out.ext hx).cell (i := 1) rfl) ⟨Ext.refl _, rfl⟩
    · intro az wz hx hB hk H
      obtain ⟨v13, h13, s13⟩ := H 4 rfl _ rfl 13 rfl
      refine .inl ⟨wanted_none rfl, ?_⟩
      exact gives_u8 r rfl (by omega) (by omega) (by rw [ev h13]; exact s13) ⟨Ext.refl _, rfl⟩
    · intro az wz hx hB hk H
      obtain ⟨v14, h14, s14⟩ := H 5 rfl _ rfl 14 rfl
      refine .inl ⟨wanted_none rfl, ?_⟩
      exact gives_one r rfl (by omega) (by omega) (by rw [ev h14]; exact s14) ⟨Ext.alloc _ _, full_one wz r (by omega) (by omega)⟩
    · intro az wz hx hB hk H
      obtain ⟨v11, h11, s11⟩ := H 2 rfl _ rfl 11 rfl
      obtain ⟨v15, h15, s15⟩ := H 6 rfl _ rfl 15 rfl
      refine .inl ⟨wanted_none rfl, ?_⟩
      exact gives_cat_full (be64 a) [b8 r] rfl (by rw [ev h11]; exact s11) (by rw [ev h15]; exact s15) (by show 0 < 1; decide) (by show 8 + 1 ≤ 1000000; decide) (fun v' w' h2 h3 => ⟨h3, own_from hx h2⟩)
    · intro az wz hx hB hk H
      obtain ⟨v16, h16, s16⟩ := H 7 rfl _ rfl 16 rfl
      refine .inl ⟨wanted_none rfl, ?_⟩
      refine gives_assign rfl ?_
      rw [ev h16]
      exact ⟨Ext.refl _, s16⟩
  · intro az wz hx hd hs hv hsame
    obtain ⟨v9, h9, s9⟩ := hv 0 _ 9 rfl rfl
    obtain rfl : v9 = (.pointer (some ⟨g1, 0, none⟩)) := s9
    obtain ⟨v10, h10, s10⟩ := hv 1 _ 10 rfl rfl
    obtain rfl : v10 = (.int .u64 a) := s10
    obtain ⟨v11, h11, s11⟩ := hv 2 _ 11 rfl rfl
    obtain ⟨v12, h12, s12⟩ := hv 3 _ 12 rfl rfl
    obtain rfl : v12 = (.pointer (some ⟨g1, 1, none⟩)) := s12
    obtain ⟨v13, h13, s13⟩ := hv 4 _ 13 rfl rfl
    obtain rfl : v13 = (.int .i64 r) := s13
    obtain ⟨v14, h14, s14⟩ := hv 5 _ 14 rfl rfl
    obtain rfl : v14 = (.int .u8 r) := s14
    obtain ⟨v15, h15, s15⟩ := hv 6 _ 15 rfl rfl
    obtain ⟨v16, h16, s16⟩ := hv 7 _ 16 rfl rfl
    obtain ⟨v4, h4, s4⟩ := hv 8 _ 4 rfl rfl
    have hfr := frame_last (k := 9) [(9, (.pointer (some ⟨g1, 0, none⟩))), (10, (.int .u64 a)), (11, v11), (12, (.pointer (some ⟨g1, 1, none⟩))), (13, (.int .i64 r)), (14, (.int .u8 r)), (15, v15), (16, v16), (4, v4)] hs (by kernel_rfl) (by simp only [List.forall_mem_cons, List.not_mem_nil, false_implies, implies_true, and_true]; exact ⟨h9, h10, h11, h12, h13, h14, h15, h16, h4⟩) (fun t' h => hsame t' fun i o ho => h i o (by intro e; subst e; cases ho) ho)
    simp only [List.foldl_cons, List.foldl_nil, List.setIfInBounds_toArray, List.set_cons_succ, List.set_cons_zero] at hfr
    obtain ⟨tm, df⟩ := az
    simp only [] at hfr hd
    subst hfr hd
    clear hv hsame hs h9 h10 h11 h12 h13 h14 h15 h16 h4
    have X3 := hide (X1.out.trans hx)
    have R3 := hide (R1.out.ext hx)
    have O3 := hide s4
    have hsz := Ext.size hx
    refine hK _ _ ?_
    clear hK
    go_wp2_with (first
      | (at_builtin; refine wpList_cat rfl (.tmp 17) (.tmp 19) rfl W1.heap.size v4 (be64 a ++ [b8 r]) d (some ⟨g1, 2, none⟩) 32 32 rfl rfl HD.out.symm O3.out (sec_rd R3.out) hsz (by rw [HD.out]; show 9 + 32 ≤ 140737488355328; decide) ?_; intro v5 w5 ho5 hb5; obtain ⟨A5, c5, hv5, hc5, hr5⟩ := base_own ho5 HL.out; subst hv5; have X5 := hide (show Ext w w5 from Below.trans X3.out (Below.mono hb5 (Ext.size X1.out))); have B5 := hide (show Rd w5 A5 (secB a r d) from hr5); have C5 := hide hc5; clear ho5 hb5 hr5 hc5)
      | (go_at_call 25; (with_reducible refine (KB.out _ _ _ B5.out C5.out).mono ?_); rintro e w6 ⟨v6, rfl, hx6, rfl⟩; have X6 := hide (X5.out.trans hx6)))
    go_ret2
    exact Ret.mk X6.out rfl
set_option maxRecDepth 20000 in
set_option maxHeartbeats 1600000 in
theorem text_any (a r : Int) (d : List UInt8) (w : World) (ha : 0 ≤ a ∧ a < 18446744073709551616) (hd : d.length = 32) (hk : okR r = true) :
    Calls Tryd.prog 16 #[.agg (sec a r d).toArray] w (Ret w (Is (.string ⟨(baseB (secB a r d)).toArray⟩))) := by
  have hr0 : 1 ≤ r ∧ r ≤ 64 := of_decide_eq_true hk
  have hw8 : IntKind.u8.wrap r = r := by simp only [IntKind.wrap_u8]; omega
  have HD := hide hd
  have KU := hide fun W => ruint_own a W ha.1 ha.2
  have HL := hide (secB_len a r d hd)
  have KB := hide fun W (A : Option Addr) (c : Nat) (hA : Rd W A (secB a r d)) (hc : 41 ≤ c) => rbase_any A (secB a r d) 41 c W hA HL.out hc (by decide)
  obtain ⟨tx, HT⟩ : ∃ tx : ByteArray, Hid (⟨(baseB (secB a r d)).toArray⟩ = tx) := ⟨_, hide rfl⟩
  rw [HT.out] at KB ⊢
  obtain ⟨W1, hX1, hR1, hgg⟩ : ∃ W1, Ext w W1 ∧ Rw W1 w.heap.size 26 (sec a r d) ∧ w.alloc (.cells (sec a r d).toArray 26) = W1 := ⟨_, Ext.alloc _ _, Rw.new w 26 _, rfl⟩
  have X1 := hide hX1
  have R1 := hide hR1
  have c0 := hR1.cell (i := 0) rfl
  clear hX1 hR1 hk hd
  go_enter Tryd.func16, Tryd.ntmps16
  go_upto_region 1 with fail
  clear hgg
  go_upto_region 2 with (go_at_call 12; (with_reducible refine (KU.out _).mono ?_); rintro e w2 ⟨v2, rfl, hx2, ho2⟩; have X2 := hide hx2; have O2 := hide ho2; have R2 := hide (R1.out.ext hx2); have c1 := R2.out.cell (i := 1) rfl; clear hx2 ho2)
  have hs2 := Ext.size X2.out
  have hs1 := Ext.size X1.out
  go_wp2_with (first
    | (at_builtin; refine wpList_push rfl (.tmp 7) (.tmp 11) rfl W1.heap.size v2 (be64 a) rfl rfl O2.out (by omega) (by omega) hs2 (by show 8 < 140737488355328; decide) ?_; intro v3 w3 ho3 hb3; have O3 := hide ho3; have X3 := hide (Below.trans X2.out hb3); have R3 := hide (R2.out.below hb3 (R1.out.lt)); clear ho3 hb3)
    | (at_builtin; refine wpList_cat rfl (.tmp 13) (.tmp 15) rfl W1.heap.size v3 (be64 a ++ [b8 r]) d (some ⟨w.heap.size, 2, none⟩) 32 32 rfl rfl HD.out.symm O3.out (sec_rd R3.out) (Below.size X3.out) (by rw [HD.out]; show 9 + 32 ≤ 140737488355328; decide) ?_; intro v5 w5 ho5 hb5; obtain ⟨A5, c5, hv5, hc5, hr5⟩ := base_own ho5 HL.out; subst hv5; have X5 := hide (Below.trans X3.out hb5); have B5 := hide (show Rd w5 A5 (secB a r d) from hr5); have C5 := hide hc5; clear ho5 hb5 hr5 hc5)
    | (go_at_call 28; (with_reducible refine (KB.out _ _ _ B5.out C5.out).mono ?_); rintro e w6 ⟨v6, rfl, hx6, rfl⟩; have X6 := hide (Below.trans X1.out (Below.mono (Below.trans X5.out (Below.mono hx6 (Below.size X5.out))) hs1))))
  go_ret
  exact Ret.mk X6.out rfl
end Go.Proofs.YtdllppaichlnaaaDoor
