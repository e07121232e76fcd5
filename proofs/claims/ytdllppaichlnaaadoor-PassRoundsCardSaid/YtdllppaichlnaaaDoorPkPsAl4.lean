/-
  As GrowL, for regions in which no block is marked: blocks stay just as they are, so a spec may speak of a block whole.
  A salt with its number behind it; a password's digest by many rounds: Stretch's contract.
  A password's digest by many rounds: Stretch's contract.
  The reference's stretched password: Stretch's contract.
  Are two lists of bytes the same: Equal's contract.
  '[]byte(s)': a block of the call's own with a mark behind it, written in place.
  Plain functions of layer 2 (octet): what numbers and texts are as bytes. No program is spoken of.
  Contracts of the library's functions at this program, laid by the shelf's command in its plain mode.
  Values as they are meant.
  The calls of layer 2 on numbers, and the document's own: what they hand back.
  Reading a signed number.
  Texts as bytes: the call, and the document's own.
  'append(p, s...)', p a slice of bytes of the call's own, s a text.
  Values in rows and in keys.
  Values as bytes: Encode.
  A slice of bytes made with room.
-/
import Derived.Deep.RegionHeld3
import Derived.BigRegion
import Derived.Shelf.Small.Strs
import Derived.Shelf.Strings.Search1
import Derived.Test.YtdllppaichlnaaaDoorProg
import Derived.Lib.AppendStr
import Derived.IntWalk
import Derived.Deep.Cut
import Derived.Deep.CutRange
import Derived.Test.YtdllppaichlnaaaDoorPkPsAl0
import Derived.Test.YtdllppaichlnaaaDoorPkPsAl1
import Derived.Test.YtdllppaichlnaaaDoorPkPsAl2
import Derived.Test.YtdllppaichlnaaaDoorPkPsAl3
set_option linter.unusedVariables false
set_option linter.unusedSimpArgs false

namespace Go.Proofs.YtdllppaichlnaaaDoor.Whole
open Go.RowKit

/-- Blocks stay as they are. -/
def Keeps (w w' : World) : Prop := ∀ (k : Nat) (o : Obj), w.heap[k]? = some o → w'.heap[k]? = some o
theorem Keeps.refl (w : World) : Keeps w w := fun _ _ h => h
theorem Keeps.trans {a b c : World} (h : Keeps a b) (k : Keeps b c) : Keeps a c := fun i o ho => k i o (h i o ho)
theorem keeps_of_ext {w w' : World} (h : Ext w w') : Keeps w w' := fun k o ho => by
  have hlt : k < w.heap.size := by
    rcases Nat.lt_or_ge k w.heap.size with h1 | h1
    · exact h1
    · rw [Array.getElem?_eq_none h1] at ho; cases ho
  rw [Below.block h k hlt]; exact ho
/-- Below B nothing has turned; from there on blocks stay. -/
structure Grw (B : Nat) (w w' : World) : Prop where
  below : Below B w w'
  keeps : Keeps w w'
theorem Grw.refl (B : Nat) (w : World) : Grw B w w := ⟨Below.refl _ _, Keeps.refl _⟩
theorem Grw.trans {B : Nat} {a b c : World} (h : Grw B a b) (k : Grw B b c) : Grw B a c := ⟨h.below.trans k.below, h.keeps.trans k.keeps⟩
theorem Grw.size {B : Nat} {w w' : World} (h : Grw B w w') : w.heap.size ≤ w'.heap.size := h.below.size
theorem Grw.of_ext {B : Nat} {w w' : World} (h : Ext w w') (hB : B ≤ w.heap.size) : Grw B w w' := ⟨Below.mono h hB, keeps_of_ext h⟩
theorem Grw.drewn (B : Nat) (w : World) (n : Nat) : Grw B w { w with drawn := n } := ⟨⟨rfl, rfl, rfl, Nat.le_refl _, fun _ _ => rfl⟩, fun _ _ h => h⟩
theorem Grw.alloc {B : Nat} {w : World} (hB : B ≤ w.heap.size) (o : Obj) : Grw B w (w.alloc o) := Grw.of_ext (Ext.alloc w o) hB
theorem ret_grw {w w' : World} {S : World → Value → Prop} {e : Ending} {B : Nat} (h : Ret w S e w') (hB : B ≤ w.heap.size) : ∃ v, e = .returned v ∧ Grw B w w' ∧ S w' v := by
  obtain ⟨v, he, hx, hS⟩ := h
  exact ⟨v, he, Grw.of_ext hx hB, hS⟩

section
variable {P : Program} {ops : Array Oper} {Q : Exit → Act → World → Prop} {S : Nat → World → Value → Prop} {a0 : Act} {w0 : World} {B : Nat}

/-- The facts of the operations that have come up. -/
structure RInv (B : Nat) (ops : Array Oper) (S : Nat → World → Value → Prop) (a0 : Act) (w0 : World) (listed : Array Bool) (a : Act) (w : World) : Prop where
  size : listed.size = ops.size
  ext : Grw B w0 w
  defers : a.defers = a0.defers
  tmps : a.tmps.size = a0.tmps.size
  closed : ∀ (i : Nat) (o : Oper), ops[i]? = some o → listed[i]? = some true → ∀ e ∈ o.after, Region.binds .any e = true → listed[e.on]? = some true
  vals : ∀ (i : Nat) (o : Oper) (d : Nat), ops[i]? = some o → listed[i]? = some true → o.dst = some d → ∃ v, a.tmps[d]? = some v ∧ S i w v
  same : ∀ t, (∀ (i : Nat) (o : Oper), ops[i]? = some o → o.dst = some t → listed[i]? = some false) → a.tmps[t]? = a0.tmps[t]?

/-- What one operation owes. -/
def StepOk (B : Nat) (P : Program) (ops : Array Oper) (S : Nat → World → Value → Prop) (a0 : Act) (w0 : World) (i : Nat) (o : Oper) : Prop :=
  ∀ (a : Act) (w : World), Grw B w0 w → a.defers = a0.defers → (∀ t, keepsB ops i t = true → a.tmps[t]? = a0.tmps[t]?) →
    (∀ e ∈ o.after, Region.binds .any e = true → ∀ (o' : Oper), ops[e.on]? = some o' → ∀ (d : Nat), o'.dst = some d → ∃ v, a.tmps[d]? = some v ∧ S e.on w v) →
    (Region.wanted o (yielded ops a.tmps) = true ∧ gives P o a w fun v w' => Grw B w w' ∧ S i w' v) ∨ (Region.wanted o (yielded ops a.tmps) = false ∧ S i w undef)

theorem wpAny_last {k : Nat} {last : Oper} (hk : ops[k]? = some last) (hlast : lastOk ops k = true) (hok : regOk ops a0.tmps.size = true) (hup : ∀ i w w' v, S i w v → Grw B w w' → S i w' v)
    (hstep : ∀ (i : Nat) (o : Oper), i ≠ k → ops[i]? = some o → StepOk B P ops S a0 w0 i o)
    (hend : ∀ (a : Act) (w : World), Grw B w0 w → a.defers = a0.defers → a.tmps.size = a0.tmps.size → (∀ (i : Nat) (o : Oper) (d : Nat), i ≠ k → ops[i]? = some o → o.dst = some d → ∃ v, a.tmps[d]? = some v ∧ S i w v) →
      (∀ t, (∀ (i : Nat) (o : Oper), i ≠ k → ops[i]? = some o → o.dst ≠ some t) → a.tmps[t]? = a0.tmps[t]?) → Region.wanted last (yielded ops a.tmps) = true ∧ gives P last a w fun v w' => Q .normal (a.put last.dst v) w') :
    ∀ (fuel : Nat) (listed : Array Bool) (a : Act) (w : World), RInv B ops S a0 w0 listed a w → listed[k]? = some false → listed.toList.count true + fuel = ops.size → wpAny P .any ops Q fuel listed a w := by
  have getb : ∀ (l : Array Bool) (i : Nat) (b : Bool), l.getD i b = (l[i]?).getD b := fun l i b => by simp
  have allTrue : ∀ (l : Array Bool), l.toList.count true = l.size → ∀ i, i < l.size → l[i]? = some true := fun l h i hi => by
    have : ∀ x ∈ l.toList, true = x := by
      rw [← List.count_eq_length]; simpa using h
    rw [Array.getElem?_eq_getElem hi]
    congr 1
    exact (this _ (by simp)).symm
  have hklt : k < ops.size := by
    rcases Nat.lt_or_ge k ops.size with hlt | hge
    · exact hlt
    · rw [Array.getElem?_eq_none hge] at hk; cases hk
  have step : ∀ (listed : Array Bool) (a : Act) (w : World) (i : Nat) (K : Act → World → Prop), i ≠ k → RInv B ops S a0 w0 listed a w → i ∈ Region.ready .any ops listed →
      (∀ a' w', RInv B ops S a0 w0 (listed.setIfInBounds i true) a' w' → K a' w') → wpOp P ops Q i K a w := by
    intro listed a w i K hik I hr hK
    obtain ⟨hun, o, ho, hall⟩ := mem_ready.1 hr
    have hi : i < listed.size := by
      rw [I.size]
      rcases Nat.lt_or_ge i ops.size with hlt | hge
      · exact hlt
      · rw [Array.getElem?_eq_none hge] at ho; cases ho
    have hfalse : listed[i]? = some false := by
      rw [getb, Array.getElem?_eq_getElem hi] at hun
      rw [Array.getElem?_eq_getElem hi]; simpa using hun
    have hpre : ∀ e ∈ o.after, Region.binds .any e = true → listed[e.on]? = some true := fun e he hb => by
      have h1 := hall e he hb
      rw [getb] at h1
      cases h2 : listed[e.on]? with
      | none => rw [h2] at h1; simp at h1
      | some b => rw [h2] at h1; simp at h1; rw [h1]
    have hset : ∀ (k : Nat), (listed.setIfInBounds i true)[k]? = if i = k then some true else listed[k]? := fun k => by
      rw [Array.getElem?_setIfInBounds]
      by_cases h : i = k
      · subst h; simp [hi]
      · simp [h]
    have next : ∀ v w', Grw B w w' → S i w' v → RInv B ops S a0 w0 (listed.setIfInBounds i true) (a.put o.dst v) w' := by
      intro v w' hx hS
      refine ⟨by simpa using I.size, I.ext.trans hx, ?_, ?_, ?_, ?_, ?_⟩
      · cases hd : o.dst <;> simpa [Act.put] using I.defers
      · cases hd : o.dst <;> simpa [Act.put] using I.tmps
      · intro k ok hk hl e he hb
        rw [hset] at hl ⊢
        by_cases hki : i = k
        · subst hki
          rw [ho] at hk; cases hk
          split
          · rfl
          · exact hpre e he hb
        · rw [if_neg hki] at hl
          split
          · rfl
          · exact I.closed k ok hk hl e he hb
      · intro k ok d hk hl hd
        rw [hset] at hl
        by_cases hki : i = k
        · subst hki
          rw [ho] at hk; cases hk
          refine ⟨v, ?_, hS⟩
          rw [hd]
          have := regOk_lt hok ho hd
          simp only [Act.put, Array.getElem?_setIfInBounds]
          simp [I.tmps, this]
        · rw [if_neg hki] at hl
          obtain ⟨u, hu, hSu⟩ := I.vals k ok d hk hl hd
          refine ⟨u, ?_, hup _ _ _ _ hSu hx⟩
          cases hod : o.dst with
          | none => simpa [Act.put] using hu
          | some d' =>
            have hne : d' ≠ d := fun e => hki (regOk_one hok ho hk (by rw [hod, e]) hd)
            simp only [Act.put, Array.getElem?_setIfInBounds_ne hne]
            exact hu
      · intro t ht
        have hit : o.dst ≠ some t := fun hd => by
          have := ht i o ho hd
          rw [hset, if_pos rfl] at this; cases this
        have := I.same t fun k ok hk hd => by
          have h2 := ht k ok hk hd
          rw [hset] at h2
          split at h2
          · cases h2
          · exact h2
        rw [← this]
        cases hod : o.dst with
        | none => rfl
        | some d' =>
          have hne : d' ≠ t := fun e => hit (by rw [hod, e])
          simp only [Act.put, Array.getElem?_setIfInBounds_ne hne]
    have hs := hstep i o hik ho a w I.ext I.defers ?_ ?_
    · unfold wpOp
      simp only [ho]
      rcases hs with ⟨hw, hg⟩ | ⟨hw, hS⟩
      · rw [if_pos hw]
        exact .inl (wp_of_gives hg fun v w' ⟨hx, hS⟩ => hK _ _ (next v w' hx hS))
      · rw [if_neg (by rw [hw]; exact Bool.false_ne_true)]
        exact hK _ _ (next _ _ (Grw.refl _ _) hS)
    · intro t ht
      refine I.same t fun k ok hk hd => ?_
      simp only [keepsB, List.all_eq_true] at ht
      have hm : ok ∈ ops.toList := by simpa using Array.mem_of_getElem? hk
      have := ht ok hm
      simp only [hd, bne_self_eq_false, Bool.false_or, List.any_eq_true, Array.mem_toList_iff] at this
      obtain ⟨e, he, hb⟩ := this
      simp only [Bool.and_eq_true, beq_iff_eq] at hb
      have hkl : k < listed.size := by
        rw [I.size]
        rcases Nat.lt_or_ge k ops.size with hlt | hge
        · exact hlt
        · rw [Array.getElem?_eq_none hge] at hk; cases hk
      cases hv : listed[k]? with
      | none => rw [Array.getElem?_eq_getElem hkl] at hv; cases hv
      | some b =>
        cases b with
        | false => rfl
        | true =>
          have := I.closed k ok hk hv e he hb.2
          rw [hb.1, hfalse] at this; cases this
    · intro e he hb o' ho' d hd
      exact I.vals e.on o' d ho' (hpre e he hb) hd
  have full : ∀ (listed : Array Bool) (a : Act) (w : World), RInv B ops S a0 w0 listed a w → Region.ready .any ops listed = [] → ∀ i, i < ops.size → listed[i]? = some true := by
    intro listed a w I hr i
    induction i using Nat.strongRecOn with
    | ind i ih =>
      intro hi
      cases hv : listed[i]? with
      | none => rw [Array.getElem?_eq_none_iff, I.size] at hv; omega
      | some b =>
        cases b with
        | true => rfl
        | false =>
          exfalso
          have hmem : i ∈ Region.ready .any ops listed := by
            refine mem_ready.2 ⟨by rw [getb, hv]; rfl, ops[i], Array.getElem?_eq_getElem hi, fun e he hb => ?_⟩
            have hlt := regOk_back hok (Array.getElem?_eq_getElem hi) he hb
            rw [getb, ih e.on hlt (by omega)]; rfl
          rw [hr] at hmem; cases hmem
  have step_k : ∀ (listed : Array Bool) (a : Act) (w : World) (K : Act → World → Prop), RInv B ops S a0 w0 listed a w → listed[k]? = some false → k ∈ Region.ready .any ops listed →
      (∀ i, i < ops.size → i ≠ k → listed[i]? = some true) ∧ ((∀ v w', Q .normal (a.put last.dst v) w' → K (a.put last.dst v) w') → wpOp P ops Q k K a w) := by
    intro listed a w K I hkf hr
    obtain ⟨hun, o, ho, hall⟩ := mem_ready.1 hr
    rw [hk] at ho
    cases ho
    have hothers : ∀ i, i < ops.size → i ≠ k → listed[i]? = some true := by
      intro i hi hne
      have h1 := lastOk_edge hlast hk hi hne
      obtain ⟨e, he, hb, rfl⟩ := h1
      have h2 := hall e he hb
      rw [getb] at h2
      cases h3 : listed[e.on]? with
      | none => rw [h3] at h2; simp at h2
      | some b => rw [h3] at h2; simp at h2; rw [h2]
    refine ⟨hothers, fun hK => ?_⟩
    have hlt : ∀ {i : Nat} {o : Oper}, ops[i]? = some o → i < ops.size := fun {i o} ho => by
      rcases Nat.lt_or_ge i ops.size with hlt | hge
      · exact hlt
      · rw [Array.getElem?_eq_none hge] at ho; cases ho
    obtain ⟨hw, hg⟩ := hend a w I.ext I.defers I.tmps (fun i o d hne ho hd => I.vals i o d ho (hothers i (hlt ho) hne) hd) (fun t ht => I.same t fun i o ho hd => by
      by_cases hne : i = k
      · subst hne; exact hkf
      · exact absurd hd (ht i o hne ho))
    unfold wpOp
    simp only [hk]
    rw [if_pos hw]
    exact .inl (wp_of_gives hg fun v w' h => hK v w' h)
  intro fuel
  induction fuel with
  | zero =>
    intro listed a w I hkf hc
    have hall := allTrue listed (by rw [I.size]; omega)
    rw [I.size] at hall
    rw [hall k hklt] at hkf
    cases hkf
  | succ fuel ih =>
    intro listed a w I hkf hc
    refine ⟨fun hr => ?_, fun i hi => ?_⟩
    · have := full listed a w I hr k hklt
      rw [hkf] at this; cases this
    · have hcount : ∀ (l : Array Bool), True := fun _ => trivial
      obtain ⟨hun, o, ho, _⟩ := mem_ready.1 hi
      have hlt : i < listed.size := by
        rw [I.size]
        rcases Nat.lt_or_ge i ops.size with hlt | hge
        · exact hlt
        · rw [Array.getElem?_eq_none hge] at ho; cases ho
      have hif : listed[i]? = some false := by rw [getb, Array.getElem?_eq_getElem hlt] at hun; rw [Array.getElem?_eq_getElem hlt]; simpa using hun
      have hcs := count_set hif
      by_cases hik : i = k
      · subst hik
        rw [hk] at ho
        cases ho
        have hothers := (step_k listed a w (fun _ _ => True) I hkf hi).1
        refine (step_k listed a w _ I hkf hi).2 fun v w' hQ => ?_
        have hall2 : ∀ j, j < ops.size → (listed.setIfInBounds i true)[j]? = some true := fun j hj => by
          rw [Array.getElem?_setIfInBounds]
          by_cases h : i = j
          · subst h; simp [hlt]
          · simp only [h, if_false]; exact hothers j hj (fun e => h e.symm)
        have hfu : fuel = 0 := by
          have : (listed.setIfInBounds i true).toList.count true = ops.size := by
            have hsz : (listed.setIfInBounds i true).toList.length = ops.size := by simpa using I.size
            rw [← hsz, List.count_eq_length]
            intro x hx
            obtain ⟨j, hj, rfl⟩ := List.mem_iff_getElem.1 hx
            have h1 := hall2 j (by rw [← hsz]; exact hj)
            rw [Array.getElem?_eq_getElem (by simpa using hj)] at h1
            simp only [Option.some.injEq] at h1
            rw [Array.getElem_toList]
            exact h1.symm
          omega
        subst hfu
        refine ⟨?_, hQ⟩
        cases hr : Region.ready .any ops (listed.setIfInBounds i true) with
        | nil => rfl
        | cons j rest =>
          exfalso
          have hm : j ∈ Region.ready .any ops (listed.setIfInBounds i true) := by rw [hr]; simp
          obtain ⟨hun2, o2, ho2, _⟩ := mem_ready.1 hm
          have hj2 : j < ops.size := by
            rcases Nat.lt_or_ge j ops.size with hlt | hge
            · exact hlt
            · rw [Array.getElem?_eq_none hge] at ho2; cases ho2
          rw [getb, hall2 j hj2] at hun2; cases hun2
      · refine step listed a w i _ hik I hi fun a' w' I' => ih _ a' w' I' ?_ (by omega)
        rw [Array.getElem?_setIfInBounds]
        simp only [hik, if_false]
        exact hkf

end

/-- A fact of a world and a value that lasts while the world grows. -/
structure Sp where
  p : World → Value → Prop
  up : ∀ w w' v, p w v → Keeps w w' → p w' v
def Sp.any : Sp := ⟨fun _ _ => True, fun _ _ _ _ _ => trivial⟩
def Sp.is (x : Value) : Sp := ⟨fun _ v => v = x, fun _ _ _ h _ => h⟩

/-- What one operation owes, in the form in which it is paid. -/
def Pays (B : Nat) (P : Program) (ops : Array Oper) (L : List Sp) (a0 : Act) (w0 : World) (i : Nat) (o : Oper) : Prop :=
  ∀ (a : Act) (w : World), Grw B w0 w → B ≤ w.heap.size → (∀ t, keepsB ops i t = true → a.tmps[t]? = a0.tmps[t]?) →
    (∀ j, (o.after.toList.any fun e => e.on == j && Region.binds .any e) = true → ∀ (o' : Oper), ops[j]? = some o' → ∀ (d : Nat), o'.dst = some d → ∃ v, a.tmps[d]? = some v ∧ (L.getD j Sp.any).p w v) →
    (Region.wanted o (yielded ops a.tmps) = true ∧ gives P o a w fun v w' => Grw B w w' ∧ (L.getD i Sp.any).p w' v) ∨ (Region.wanted o (yielded ops a.tmps) = false ∧ (L.getD i Sp.any).p w undef)
/-- THE REGION, its last operation at place k. -/
theorem wp_region_last {B : Nat} {P : Program} {ops : List Oper} {Q : Exit → Act → World → Prop} {a0 : Act} {w0 : World} {id : Nat} (hB : B ≤ w0.heap.size) (L : List Sp) (k : Nat) (last : Oper) (hk : ops.toArray[k]? = some last) (hlast : lastOk ops.toArray k = true)
    (hm : P.follows .mixedOrders = true) (hok : regOk ops.toArray a0.tmps.size = true)
    (hstep : PaysFrom (fun i o => i = k ∨ Pays B P ops.toArray L a0 w0 i o) 0 ops)
    (hend : ∀ (a : Act) (w : World), Grw B w0 w → a.defers = a0.defers → a.tmps.size = a0.tmps.size → (∀ (i : Nat) (o : Oper) (d : Nat), i ≠ k → ops.toArray[i]? = some o → o.dst = some d → ∃ v, a.tmps[d]? = some v ∧ (L.getD i Sp.any).p w v) →
      (∀ t, (∀ (i : Nat) (o : Oper), i ≠ k → ops.toArray[i]? = some o → o.dst ≠ some t) → a.tmps[t]? = a0.tmps[t]?) → Region.wanted last (yielded ops.toArray a.tmps) = true ∧ gives P last a w fun v w' => Q .normal (a.put last.dst v) w') :
    (Code.region id ops.toArray true).wp P Q a0 w0 := by
  refine wp_region_any hm (wpAny_last (S := fun i => (L.getD i Sp.any).p) (w0 := w0) (a0 := a0) (B := B) hk hlast hok (fun i w w' v h hx => (L.getD i Sp.any).up w w' v h hx.keeps) ?_ hend _ _ a0 _ ?_ ?_ ?_)
  · intro i o hne ho a w hx hd hk' H
    have h := paysFrom_all ops 0 hstep i o (by simpa using ho)
    rw [Nat.zero_add] at h
    rcases h with h | h
    · exact absurd h hne
    refine h a w hx (Nat.le_trans hB hx.size) hk' fun j hj o' ho' d hd' => ?_
    simp only [List.any_eq_true, Array.mem_toList_iff] at hj
    obtain ⟨e, he, hb⟩ := hj
    simp only [Bool.and_eq_true, beq_iff_eq] at hb
    obtain ⟨rfl, hb⟩ := hb
    exact H e he hb o' ho' d hd'
  · refine ⟨by simp, Grw.drewn _ _ _, rfl, rfl, ?_, ?_, fun _ _ => rfl⟩
    · intro i o ho hl
      rw [Array.getElem?_replicate] at hl
      split at hl <;> simp at hl
    · intro i o d ho hl
      rw [Array.getElem?_replicate] at hl
      split at hl <;> simp at hl
  · have hklt : k < ops.toArray.size := by
      rcases Nat.lt_or_ge k ops.toArray.size with hlt | hge
      · exact hlt
      · rw [Array.getElem?_eq_none hge] at hk; cases hk
    rw [Array.getElem?_replicate, if_pos hklt]
  · have : (Array.replicate ops.toArray.size false).toList.count true = 0 := by simp [List.count_replicate]
    omega

end Go.Proofs.YtdllppaichlnaaaDoor.Whole
namespace Go.Proofs.YtdllppaichlnaaaDoor
open Go.RowKit

def numberedL (salt : List UInt8) : List UInt8 := salt ++ [0, 0, 0, 1]
theorem over_front (n : Nat) (l : List UInt8) (h : l.length ≤ n) : over (List.replicate n 0) 0 (l.take n) = l ++ List.replicate (n - l.length) 0 := by
  unfold over
  rw [List.take_of_length_le h]
  simp
theorem set_last (l : List UInt8) : (l ++ List.replicate 4 0).set (l.length + 3) 1 = numberedL l := by
  rw [List.set_append_right _ _ (by omega)]
  simp [numberedL]

set_option maxRecDepth 20000 in
set_option maxHeartbeats 1600000 in
theorem numbered_any (A : Option Addr) (c : Nat) (l : List UInt8) (w : World) (hr : Rd w A l) (hl : l.length ≤ 140737488355320) :
    Calls Tryd.prog 32 #[.slice A l.length c] w (Ret w (Bytes (numberedL l))) := by
  obtain ⟨n, HN⟩ : ∃ n, Hid (l.length = n) := ⟨_, rfl⟩
  rw [HN.out] at hl ⊢
  have hmk := fun W => run_make_bytes (n + 4) (by omega) W
  rw [show ((n + 4 : Nat) : Int) = (n : Int) + 4 from by omega] at hmk
  go_enter Tryd.func32, Tryd.ntmps32
  have hyl : n + 3 < (l ++ List.replicate 4 (0 : UInt8)).length := by rw [List.length_append, List.length_replicate, HN.out]; omega
  have HYL := hide hyl
  have HLE : Hid (l.length ≤ n + 4) := by show l.length ≤ n + 4; rw [HN.out]; omega
  have HDR : Hid (List.replicate (n + 4 - l.length) (0 : UInt8) = List.replicate 4 0) := by rw [HN.out, Nat.add_sub_cancel_left]; rfl
  have hlt3 : (n : Int) + 3 < (n : Int) + 4 := by omega
  clear hyl
  go_wp2_with (refine wpList_copy rfl (.tmp 8) (.tmp 9) rfl w.heap.size 0 (n + 4) (n + 4) A n c rfl rfl (List.replicate (n + 4) 0) l HN.out.symm (Blk.made w (n + 4)) (hr.ext (Ext.alloc w _)) (by rw [List.length_replicate]; omega) w.heap.size (Nat.le_refl _) ?_; intro w1 hg1 hb1; rw [over_front _ _ HLE.out, HDR.out] at hg1; have hcx := hg1.cell (List.getElem?_eq_getElem HYL.out); have hfx := hg1.frozen (n + 3); have HG := hide hg1; clear hg1)
  have HB : Hid (Blk (w1.setCell ⟨w.heap.size, n + 3, none⟩ (.int .u8 1)) w.heap.size (numberedL l)) := by
    have := HG.out.set (n + 3) 1 (by decide) (by decide)
    rw [show b8 1 = (1 : UInt8) from rfl, ← HN.out, set_last, HN.out] at this
    exact this
  have hx1 : Ext w w1 := Below.trans (Ext.alloc w _) hb1
  go_ret
  exact Ret.mk (Below.set hx1 (Nat.le_refl _) _) (HB.out.bytes (by simp [numberedL, HN.out]) (Nat.le_refl _))

def xorL (a b : List UInt8) : List UInt8 := List.zipWith (· ^^^ ·) a b
/-- The last tag, and what all of them give, behind so many rounds more than one. -/
def stretchS (pass salt : List UInt8) : Nat → List UInt8 × List UInt8
  | 0 => (tagK pass (numberedL salt), tagK pass (numberedL salt))
  | n + 1 => (tagK pass (stretchS pass salt n).1, xorL (stretchS pass salt n).2 (tagK pass (stretchS pass salt n).1))
theorem tagK_length (a b : List UInt8) : (tagK a b).length = 32 := rfl
theorem stretchS_length (pass salt : List UInt8) (n : Nat) : (stretchS pass salt n).1.length = 32 ∧ (stretchS pass salt n).2.length = 32 := by
  induction n with
  | zero => exact ⟨rfl, rfl⟩
  | succ n ih => exact ⟨rfl, by show (List.zipWith _ _ _).length = _; rw [List.length_zipWith, ih.2, tagK_length]; rfl⟩
/-- Two results, the first out of its cell. -/
theorem ret_rw2 {P : Program} {fn : Func} {p q : Tmp} {ty : TypeId} {S : Ending → World → Prop} {a : Act} {w : World} (hf : fn.results = #[.cell p ty, .tmp q]) (hd : a.defers = []) (g : Nat) (hp : a.tmps.getD p undef = .pointer (some ⟨g, 0, none⟩)) (t : TypeId) (vs : List Value) (hr : Rw w g t vs)
    (n : Nat) (e : TypeId) (hu : P.underlying ty = some (.array n e)) (hi : (P.info? ty).map (·.size) = some n) (hn : n = vs.length) (v2 : Value) (hq : a.tmps.getD q undef = v2) (h : S (.returned (.tuple #[.agg vs.toArray, v2])) w) : bodyPost P fn S .ret a w := by
  have hrun : (results fn a.tmps).run P w = .ok (.tuple #[.agg vs.toArray, v2]) w := by
    have hp' : a.tmps[p]?.getD undef = .pointer (some ⟨g, 0, none⟩) := by simpa using hp
    have hq' : a.tmps[q]?.getD undef = v2 := by simpa using hq
    simp [results, hf, hp', hq', asAddr, run_loadVar_row w g t ty vs.toArray (0, 0) _ hr hu rfl (by rw [hi, hn]; simp)]
  exact bodyPost_ret hrun hd h
theorem zeros_agg : Tryd.prog.built 24 [] = some (bs (List.replicate 32 0)).toArray := by kernel_rfl

set_option maxRecDepth 20000 in
set_option maxHeartbeats 1600000 in
theorem stretch_bad (A B : Option Addr) (c d m n : Nat) (r : Int) (w : World) (h : r < 1 ∨ 64 < r) :
    Calls Tryd.prog 18 #[.slice A m c, .slice B n d, .int .i64 r] w (Ret w (Is (.tuple #[.agg (bs (List.replicate 32 0)).toArray, .int .i64 1]))) := by
  have hb := fun W => run_build (P := Tryd.prog) W 24 #[] _ zeros_agg
  by_cases h1 : r < 1
  · clear h
    go_enter Tryd.func18, Tryd.ntmps18
    go_wp2_with (first
      | ((with_reducible show wpList _ _ _ (⟨none, .store _ (.tmp 6) _, _, _, _, _⟩ :: _) _ _);
         refine wpList_store_rw rfl 24 (.tmp 6) (.tmp 18) rfl _ rfl (bs (List.replicate 32 0)) rfl 24 (bs (List.replicate 32 0)) (heap_alloc_new w _) 32 (by kernel_rfl) rfl rfl (List.all_eq_true.2 (bs_one _)) ?_;
         intro w5 hr5 hl5))
    exact ret_rw2 rfl rfl _ rfl _ _ hr5 32 5 Tryd.underlying24 (by kernel_rfl) rfl _ rfl (Ret.mk ((Ext.alloc w _).laid hl5 (Nat.le_refl _)) rfl)
  · have h2 : 64 < r := by omega
    clear h
    go_enter Tryd.func18, Tryd.ntmps18
    go_wp2_with (first
      | ((with_reducible show wpList _ _ _ (⟨none, .store _ (.tmp 6) _, _, _, _, _⟩ :: _) _ _);
         refine wpList_store_rw rfl 24 (.tmp 6) (.tmp 18) rfl _ rfl (bs (List.replicate 32 0)) rfl 24 (bs (List.replicate 32 0)) (heap_alloc_new w _) 32 (by kernel_rfl) rfl rfl (List.all_eq_true.2 (bs_one _)) ?_;
         intro w5 hr5 hl5))
    exact ret_rw2 rfl rfl _ rfl _ _ hr5 32 5 Tryd.underlying24 (by kernel_rfl) rfl _ rfl (Ret.mk ((Ext.alloc w _).laid hl5 (Nat.le_refl _)) rfl)
end Go.Proofs.YtdllppaichlnaaaDoor
namespace Go.Proofs.YtdllppaichlnaaaDoor
open Go.RowKit

theorem xorL_get (a b : List UInt8) (k : Nat) (x y : UInt8) (hx : a[k]? = some x) (hy : b[k]? = some y) : (xorL a b)[k]? = some (x ^^^ y) := by
  unfold xorL
  rw [List.getElem?_zipWith, hx, hy]
theorem xorL_length (a b : List UInt8) (h : a.length = 32) (h2 : b.length = 32) : (xorL a b).length = 32 := by
  unfold xorL
  rw [List.length_zipWith, h, h2]
  rfl
theorem gives_load_st {P : Program} {o : Oper} {a : Act} {w : World} {R : Value → World → Prop} (ty : TypeId) (x : Operand) (ho : o.op = .load ty x) (g : Nat) (hx : a.eval x = .pointer (some ⟨g, 0, none⟩)) (t : TypeId) (vs : List Value) (hr : Rw w g t vs)
    (d : TypeDesc) (hu : P.underlying ty = some d) (hd : (match d with | .struct _ | .array _ _ => true | _ => false) = true) (hi : (P.info? ty).map (·.size) = some vs.length) (hR : R (.agg vs.toArray) w) : gives P o a w R := by
  unfold gives execOp
  simp only [ho, hx, Instr.loadAt, Instr.sureAddr, Sem.run_bind, Sem.run_pure, Result.andThen_ok, run_loadVar_row w g t ty vs.toArray (0, 0) _ hr hu hd (by rw [hi]; simp)]
  exact hR
theorem gives_alloc {P : Program} {o : Oper} {a : Act} {w : World} {R : Value → World → Prop} {t : TypeId} (h : o.op = .alloc t) (cs : Array Value) (hrun : (Instr.alloc t true (.tuple #[])).run P w = .ok (.pointer (some ⟨w.heap.size, 0, none⟩)) (w.alloc (.cells cs t))) (hR : R (.pointer (some ⟨w.heap.size, 0, none⟩)) (w.alloc (.cells cs t))) : gives P o a w R := by
  refine gives_of_run (w' := w.alloc (.cells cs t)) (v := .pointer (some ⟨w.heap.size, 0, none⟩)) ?_ hR
  unfold execOp
  simp only [h, Sem.run_bind, hrun, Result.andThen_ok, Sem.run_pure]
/-- A new block. -/
def Fresh (B : Nat) (t : TypeId) (vs : List Value) (w : World) (v : Value) : Prop := ∃ g, v = .pointer (some ⟨g, 0, none⟩) ∧ B ≤ g ∧ Rw w g t vs
def Whole.Sp.fresh (B : Nat) (t : TypeId) (vs : List Value) : Whole.Sp := ⟨Fresh B t vs, fun _ _ _ h hx => by
  obtain ⟨g, hv, hB, hr⟩ := h
  exact ⟨g, hv, hB, hx _ _ hr⟩⟩
theorem grow_keeps {w w' : World} (h : Whole.Keeps w w') : Keeps w w' := fun k o ho => .inl (h k o ho)
def Whole.Sp.bytes (l : List UInt8) : Whole.Sp := ⟨Bytes l, fun _ _ _ h hx => h.keep (grow_keeps hx)⟩
theorem alloc32 (w : World) : (Instr.alloc 24 true (.tuple #[])).run Tryd.prog w = .ok (.pointer (some ⟨w.heap.size, 0, none⟩)) (w.alloc (.cells (bs (List.replicate 32 0)).toArray 24)) := by
  kernel_rfl

set_option maxRecDepth 20000 in
set_option maxHeartbeats 4000000 in
theorem stretch_any (A B : Option Addr) (c d : Nat) (pass salt : List UInt8) (r : Nat) (w : World) (hA : Rd w A pass) (hB : Rd w B salt) (hpc : pass.length ≤ c) (hsc : salt.length ≤ d) (hp : pass.length ≤ 1000000) (hs : salt.length ≤ 1000000) (hr : r < 64) (ht : Tab w) :
    Calls Tryd.prog 18 #[.slice A pass.length c, .slice B salt.length d, .int .i64 ((r : Int) + 1)] w (Ret w (Is (.tuple #[.agg (bs (stretchS pass salt r).2).toArray, .int .i64 0]))) := by
  obtain ⟨s1, HS1⟩ : ∃ s, Hid (innerS pass = s) := ⟨_, rfl⟩
  obtain ⟨s2, HS2⟩ : ∃ s, Hid (outerS pass = s) := ⟨_, rfl⟩
  have k1 : s1.ok := by rw [← HS1.out]; exact innerS_ok pass
  have k2 : s2.ok := by rw [← HS2.out]; exact outerS_ok pass
  have KK := hide fun W (h : Ext w W) => (show Calls Tryd.prog 30 #[.slice A pass.length c] W (Ret W (Is (.agg (us (s1.list ++ s2.list)).toArray))) from (by
    have h3 := keyedBy_any A c pass W (hA.ext h) hpc (by omega) (ht.ext h)
    rw [HS1.out, HS2.out] at h3
    exact h3))
  have KN := hide fun W (h : Ext w W) => numbered_any B d salt W (hB.ext h) (by omega)
  have HTS : Hid (∀ p, tagS s1 s2 p = tagK pass p) := fun p => by rw [← HS1.out, ← HS2.out]; rfl
  have KT := hide fun W (h : Ext w W) (C : Option Addr) (e : Nat) (p : List UInt8) (hC : Rd W C p) (he : p.length ≤ e) (hl : p.length ≤ 2000000) => (show Calls Tryd.prog 31 #[.agg (us (s1.list ++ s2.list)).toArray, .slice C p.length e] W (Ret W (Is (.agg (bs (tagK pass p)).toArray))) from (by
    have h3 := tag_any s1 s2 k1 k2 C e p W hC he (by omega) (ht.ext h)
    rw [HTS.out p] at h3
    exact h3))
  have hnl : (numberedL salt).length ≤ 2000000 := by simp [numberedL]; omega
  have HNL := hide hnl
  obtain ⟨L, HL⟩ : ∃ L : Nat → List UInt8, Hid (∀ n, (stretchS pass salt n).1 = L n) := ⟨fun n => (stretchS pass salt n).1, fun _ => rfl⟩
  obtain ⟨M, HM⟩ : ∃ M : Nat → List UInt8, Hid (∀ n, (stretchS pass salt n).2 = M n) := ⟨fun n => (stretchS pass salt n).2, fun _ => rfl⟩
  have HLL : Hid (∀ n, (L n).length = 32) := fun n => by rw [← HL.out]; exact (stretchS_length pass salt n).1
  have HML : Hid (∀ n, (M n).length = 32) := fun n => by rw [← HM.out]; exact (stretchS_length pass salt n).2
  have HL0 : Hid (tagK pass (numberedL salt) = L 0) := HL.out 0
  have HM0 : Hid (L 0 = M 0) := by show L 0 = M 0; rw [← HL.out, ← HM.out]; rfl
  have HLS : Hid (∀ n, tagK pass (L n) = L (n + 1)) := fun n => by rw [← HL.out, ← HL.out]; rfl
  have HMS : Hid (∀ n, xorL (M n) (L (n + 1)) = M (n + 1)) := fun n => by rw [← HL.out, ← HM.out, ← HM.out]; rfl
  rw [HM.out]
  have hr1 : (1 : Int) ≤ (r : Int) + 1 := by omega
  have hr2 : (r : Int) + 1 ≤ 64 := by omega
  clear hp hs hpc hsc hnl k1 k2
  go_enter Tryd.func18, Tryd.ntmps18
  go_wp2_with (first
    | (go_at_call 30; refine (KK.out _ (Ext.alloc w _)).mono ?_; rintro e w2 ⟨v2, rfl, hw2, rfl⟩;
       have hx2 : Ext w w2 := (Ext.alloc w _).trans hw2;
       have HZ2 : Hid (Rw w2 w.heap.size 24 (bs (List.replicate 32 0))) := Rw.ext (show Rw _ _ _ _ from heap_alloc_new w _) hw2)
    | ((with_reducible show wpList _ _ _ (⟨none, .store _ (.tmp 8) _, _, _, _, _⟩ :: _) _ _);
       refine wpList_store_rw rfl 66 (.tmp 8) (.tmp 20) rfl _ rfl (us (s1.list ++ s2.list)) rfl 66 (us (List.replicate 16 0)) (heap_alloc_new w2 _) 16 (by kernel_rfl) rfl rfl (us_one _) ?_;
       intro w3 hr3 hl3;
       have HK3 := hide hr3;
       have hs2 : w.heap.size + 1 ≤ w2.heap.size := (by have := Rw.lt HZ2.out; omega);
       have HZ3 : Hid (Rw w3 w.heap.size 24 (bs (List.replicate 32 0))) := Rw.other (Rw.ext HZ2.out (Ext.alloc _ _)) hl3 (by omega);
       have hx3 : Ext w w3 := (hx2.trans (Ext.alloc _ _)).laid hl3 (by omega);
       clear hr3 hl3))
  generalize hg8 : w2.heap.size = g8 at *
  have HG8 : Hid (w.heap.size + 1 ≤ g8) := hide (by omega)
  clear HZ2 hx2 hw2 hg8 KK hs2
  dsimp only [Act.put, List.setIfInBounds_toArray, List.set_cons_succ, List.set_cons_zero]
  refine Whole.wp_region_last (Nat.le_refl _) [
      ⟨fun _ v => v = .agg (us (s1.list ++ s2.list)).toArray, fun _ _ _ h _ => h⟩,
      ⟨fun _ v => v = .slice B salt.length d, fun _ _ _ h _ => h⟩,
      Whole.Sp.bytes (numberedL salt),
      ⟨fun _ v => v = .agg (bs (L 0)).toArray, fun _ _ _ h _ => h⟩,
      Whole.Sp.fresh w3.heap.size 24 (bs (List.replicate 32 0))] 5 _ rfl (by kernel_rfl) (by kernel_rfl) (by kernel_rfl) ?_ ?_
  · refine ⟨.inr ?_, .inr ?_, .inr ?_, .inr ?_, .inr ?_, .inl rfl, trivial⟩
    · intro az wz hx hB0 hk H
      refine .inl ⟨wanted_none rfl, ?_⟩
      exact gives_load_st 66 (.tmp 8) rfl g8 (by rw [(ev (show az.tmps[8]? = some (.pointer (some ⟨g8, 0, none⟩)) from hk 8 rfl))]) 66 _ (Rw.below HK3.out hx.below (Rw.lt HK3.out)) _ Tryd.underlying66 rfl (by kernel_rfl) ⟨Whole.Grw.refl _ _, rfl⟩
    · intro az wz hx hB0 hk H
      refine .inl ⟨wanted_none rfl, ?_⟩
      refine gives_move rfl ?_
      rw [(ev (show az.tmps[1]? = some (.slice B salt.length d) from hk 1 rfl))]
      exact ⟨Whole.Grw.refl _ _, rfl⟩
    · intro az wz hx hB0 hk H
      obtain ⟨v22, h22, s22⟩ := H 1 rfl _ rfl 22 rfl
      refine .inl ⟨wanted_none rfl, ?_⟩
      refine gives_call rfl Tryd.call32 (by simp only [List.map_toArray, List.map_cons, List.map_nil, ev h22]; rw [s22]) ?_
      exact (KN.out wz (Below.trans hx3 (Below.mono hx.below hx3.size))).mono fun _ _ h => Whole.ret_grw h hB0
    · intro az wz hx hB0 hk H
      obtain ⟨v21, h21, s21⟩ := H 0 rfl _ rfl 21 rfl
      obtain ⟨v23, h23, C, e3, hv3, he3, hrd3⟩ := H 2 rfl _ rfl 23 rfl
      refine .inl ⟨wanted_none rfl, ?_⟩
      refine gives_call rfl Tryd.call31 (by simp only [List.map_toArray, List.map_cons, List.map_nil, ev h21, ev h23]; rw [s21, hv3]) ?_
      have h := KT.out wz (Below.trans hx3 (Below.mono hx.below hx3.size)) C e3 (numberedL salt) hrd3 he3 HNL.out
      rw [HL0.out] at h
      exact h.mono fun _ _ h => Whole.ret_grw h hB0
    · intro az wz hx hB0 hk H
      refine .inl ⟨wanted_none rfl, ?_⟩
      exact gives_alloc rfl _ (alloc32 wz) ⟨Whole.Grw.alloc hB0 _, wz.heap.size, rfl, hB0, heap_alloc_new wz _⟩
  · intro az wz hx hd hs hv hsame
    obtain ⟨v21, h21, s21⟩ := hv 0 _ 21 (by decide) rfl rfl
    obtain rfl : v21 = (.agg (us (s1.list ++ s2.list)).toArray) := s21
    obtain ⟨v22, h22, s22⟩ := hv 1 _ 22 (by decide) rfl rfl
    obtain rfl : v22 = (.slice B salt.length d) := s22
    obtain ⟨v23, h23, s23⟩ := hv 2 _ 23 (by decide) rfl rfl
    obtain ⟨v24, h24, s24⟩ := hv 3 _ 24 (by decide) rfl rfl
    obtain rfl : v24 = (.agg (bs (L 0)).toArray) := s24
    obtain ⟨v9, h9, g9, rfl, hg9, hr9⟩ := hv 4 _ 9 (by decide) rfl rfl
    have hfr := frame_last [(21, (.agg (us (s1.list ++ s2.list)).toArray)), (22, (.slice B salt.length d)), (23, v23), (24, (.agg (bs (L 0)).toArray)), (9, .pointer (some ⟨g9, 0, none⟩))] hs (by kernel_rfl) (by simp only [List.forall_mem_cons, List.not_mem_nil, false_implies, implies_true, and_true]; exact ⟨h21, h22, h23, h24, h9⟩) hsame
    simp only [List.foldl_cons, List.foldl_nil, List.setIfInBounds_toArray, List.set_cons_succ, List.set_cons_zero] at hfr
    obtain ⟨tm, df⟩ := az
    simp only [] at hfr hd
    subst hfr hd
    clear hv hsame hs h21 h22 h23 h24 h9 s23
    refine ⟨wanted_none rfl, ?_⟩
    refine gives_store_rw 24 (.tmp 9) (.tmp 24) rfl g9 rfl (bs (L 0)) rfl 24 (bs (List.replicate 32 0)) hr9 32 (by kernel_rfl) (by rw [bs_length, HLL.out]) (by rw [bs_length, bs_length, HLL.out]; rfl) (List.all_eq_true.2 (bs_one _)) ?_
    intro w5 hr5 hl5
    have hx5 : Ext w w5 := Ext.laid (Below.trans hx3 (Below.mono hx.below hx3.size)) hl5 (Nat.le_trans hx3.size hg9)
    have h8 : g8 < w3.heap.size := Rw.lt HK3.out
    have HK5 : Hid (Rw w5 g8 66 (us (s1.list ++ s2.list))) := Rw.other (Rw.below HK3.out hx.below h8) hl5 (by omega)
    have HZ5 : Hid (Rw w5 w.heap.size 24 (bs (List.replicate 32 0))) := Rw.other (Rw.below HZ3.out hx.below (Rw.lt HZ3.out)) hl5 (by have := Rw.lt HZ3.out; omega)
    have HG9 : Hid (w3.heap.size ≤ g9) := hide hg9
    have HG98 : Hid (g8 < g9) := hide (by omega)
    have HR5 := hide hr5
    clear hx HK3 HZ3 hl5 hr9 hg9 h8 hr5
    dsimp only [Act.put]
    go_wp2_with (first
      | ((with_reducible show wpList _ _ _ (⟨some 25, .load _ _, _, _, _, _⟩ :: _) _ _);
         refine wpList_load_rw rfl 24 (.tmp 9) rfl g9 rfl 24 (bs (L 0)) HR5.out 32 5 Tryd.underlying24 (by kernel_rfl) (by rw [bs_length, HLL.out]) ?_)
      | ((with_reducible show wpList _ _ _ (⟨none, .store _ (.tmp 10) _, _, _, _, _⟩ :: _) _ _);
         refine wpList_store_rw rfl 24 (.tmp 10) (.tmp 25) rfl _ rfl (bs (L 0)) rfl 24 (bs (List.replicate 32 0)) (heap_alloc_new w5 _) 32 (by kernel_rfl) (by rw [bs_length, HLL.out]) (by rw [bs_length, bs_length, HLL.out]; rfl) (List.all_eq_true.2 (bs_one _)) ?_;
         intro w6 hr6 hl6;
         have h95 := Rw.lt HR5.out;
         have HX6 : Hid (Ext w w6) := hide ((hx5.trans (Ext.alloc _ _)).laid hl6 (by have := hx5.size; omega));
         have HK6 : Hid (Rw w6 g8 66 (us (s1.list ++ s2.list))) := Rw.other (Rw.ext HK5.out (Ext.alloc _ _)) hl6 (by have := Rw.lt HK5.out; omega);
         have HZ6 : Hid (Rw w6 w.heap.size 24 (bs (List.replicate 32 0))) := Rw.other (Rw.ext HZ5.out (Ext.alloc _ _)) hl6 (by have := Rw.lt HZ5.out; omega);
         have HR6 : Hid (Rw w6 g9 24 (bs (L 0))) := Rw.other (Rw.ext HR5.out (Ext.alloc _ _)) hl6 (by omega);
         have HM6 := hide hr6;
         clear hr6 hl6 hx5))
    generalize hg10 : w5.heap.size = g10 at *
    have HG10 : Hid (g9 < g10) := hide (by omega)
    have HB8 : Hid (w.heap.size < g8) := hide (by have := HG8.out; omega)
    have HB9 : Hid (w.heap.size < g9) := hide (by have := HB8.out; have := HG98.out; omega)
    clear HK5 HZ5 HR5 h95 hg10
    go_loopw [28] (fun i wr => ∃ k : Nat, k ≤ r ∧ i = .int .i64 k ∧ Hid (Rw wr g9 24 (bs (L k))) ∧ Hid (Rw wr g10 24 (bs (M k))) ∧ Hid (Rw wr g8 66 (us (s1.list ++ s2.list))) ∧ Hid (Rw wr w.heap.size 24 (bs (List.replicate 32 0))) ∧ Hid (Ext w wr)) (fun i _ => r - (intOf i).toNat)
    case atStart => exact ⟨0, Nat.zero_le _, rfl, HR6, HM0.out ▸ HM6, HK6, HZ6, HX6⟩
    clear HR6 HM6 HK6 HZ6 HX6
    case round =>
      obtain ⟨k, hk, rfl, HRk, HMk, HKk, HZk, HXk⟩ := hrel
      by_cases hlt : k < r
      · have hki : (k : Int) < (r : Int) := by omega
        go_wp2
        refine Whole.wp_region_last (Nat.le_refl _) [
            ⟨fun _ v => v = .agg (us (s1.list ++ s2.list)).toArray, fun _ _ _ h _ => h⟩,
            ⟨fun _ v => v = .slice (some ⟨g9, 0, none⟩) 32 32, fun _ _ _ h _ => h⟩,
            ⟨fun _ v => v = .agg (bs (L (k + 1))).toArray, fun _ _ _ h _ => h⟩] 3 _ rfl (by kernel_rfl) (by kernel_rfl) (by kernel_rfl) ?_ ?_
        · refine ⟨.inr ?_, .inr ?_, .inr ?_, .inl rfl, trivial⟩
          · intro az wz hx hB0 hk H
            refine .inl ⟨wanted_none rfl, ?_⟩
            exact gives_load_st 66 (.tmp 8) rfl g8 (by rw [(ev (show az.tmps[8]? = some (.pointer (some ⟨g8, 0, none⟩)) from hk 8 rfl))]) 66 _ (Rw.below HKk.out hx.below (Rw.lt HKk.out)) _ Tryd.underlying66 rfl (by kernel_rfl) ⟨Whole.Grw.refl _ _, rfl⟩
          · intro az wz hx hB0 hk H
            refine .inl ⟨wanted_none rfl, ?_⟩
            exact gives_all (n := 32) rfl (by rw [(ev (show az.tmps[9]? = some (.pointer (some ⟨g9, 0, none⟩)) from hk 9 rfl))]) (run_all32 _ _) ⟨Whole.Grw.refl _ _, rfl⟩
          · intro az wz hx hB0 hk H
            obtain ⟨v30, h30, s30⟩ := H 0 rfl _ rfl 30 rfl
            obtain ⟨v31, h31, s31⟩ := H 1 rfl _ rfl 31 rfl
            refine .inl ⟨wanted_none rfl, ?_⟩
            refine gives_call rfl Tryd.call31 (by simp only [List.map_toArray, List.map_cons, List.map_nil, ev h30, ev h31]; rw [s30, s31]) ?_
            have h := KT.out wz (Below.trans HXk.out (Below.mono hx.below HXk.out.size)) (some ⟨g9, 0, none⟩) 32 (L k) (Rw.rd (Rw.below HRk.out hx.below (Rw.lt HRk.out))) (by rw [HLL.out]; exact Nat.le_refl _) (by rw [HLL.out]; decide)
            rw [HLS.out, HLL.out] at h
            exact h.mono fun _ _ h => Whole.ret_grw h hB0
        · intro az wz hx hd hs hv hsame
          obtain ⟨v30, h30, s30⟩ := hv 0 _ 30 (by decide) rfl rfl
          obtain rfl : v30 = (.agg (us (s1.list ++ s2.list)).toArray) := s30
          obtain ⟨v31, h31, s31⟩ := hv 1 _ 31 (by decide) rfl rfl
          obtain rfl : v31 = (.slice (some ⟨g9, 0, none⟩) 32 32) := s31
          obtain ⟨v32, h32, s32⟩ := hv 2 _ 32 (by decide) rfl rfl
          obtain rfl : v32 = (.agg (bs (L (k + 1))).toArray) := s32
          have hfr := frame_last [(30, (.agg (us (s1.list ++ s2.list)).toArray)), (31, (.slice (some ⟨g9, 0, none⟩) 32 32)), (32, (.agg (bs (L (k + 1))).toArray))] hs (by kernel_rfl) (by simp only [List.forall_mem_cons, List.not_mem_nil, false_implies, implies_true, and_true]; exact ⟨h30, h31, h32⟩) hsame
          simp only [List.foldl_cons, List.foldl_nil, List.setIfInBounds_toArray, List.set_cons_succ, List.set_cons_zero] at hfr
          obtain ⟨tm, df⟩ := az
          simp only [] at hfr hd
          subst hfr hd
          clear hv hsame hs h30 h31 h32
          refine ⟨wanted_none rfl, ?_⟩
          have hl9 := Rw.lt HRk.out
          have hl10 := Rw.lt HMk.out
          have hl8 := Rw.lt HKk.out
          have hl6 := Rw.lt HZk.out
          refine gives_store_rw 24 (.tmp 9) (.tmp 32) rfl g9 rfl (bs (L (k + 1))) rfl 24 (bs (L k)) (Rw.below HRk.out hx.below hl9) 32 (by kernel_rfl) (by rw [bs_length, HLL.out]) (by rw [bs_length, bs_length, HLL.out, HLL.out]) (List.all_eq_true.2 (bs_one _)) ?_
          intro w7 hr7 hl7
          have h98 := HG98.out
          have h910 := HG10.out
          have hb9 := HB9.out
          have HX7 : Hid (Ext w w7) := hide (Ext.laid (Below.trans HXk.out (Below.mono hx.below HXk.out.size)) hl7 (by omega))
          have HK7 : Hid (Rw w7 g8 66 (us (s1.list ++ s2.list))) := Rw.other (Rw.below HKk.out hx.below hl8) hl7 (by omega)
          have HZ7 : Hid (Rw w7 w.heap.size 24 (bs (List.replicate 32 0))) := Rw.other (Rw.below HZk.out hx.below hl6) hl7 (by omega)
          have HM7 : Hid (Rw w7 g10 24 (bs (M k))) := Rw.other (Rw.below HMk.out hx.below hl10) hl7 (by omega)
          have HR7 := hide hr7
          clear hx HXk HKk HZk HMk HRk hl7 hr7 hl9 hl10 hl8 hl6 h98 h910 hb9
          dsimp only [Act.put]
          go_wp2
          go_loopw [11, 33] (fun _ i wr => ∃ j : Nat, j ≤ 32 ∧ i = .int .i64 j ∧ Hid (Rw wr g10 24 (bs ((M (k + 1)).take j ++ (M k).drop j))) ∧ Hid (Rw wr g9 24 (bs (L (k + 1)))) ∧ Hid (Rw wr g8 66 (us (s1.list ++ s2.list))) ∧ Hid (Rw wr w.heap.size 24 (bs (List.replicate 32 0))) ∧ Hid (Ext w wr)) (fun _ i _ => 32 - (intOf i).toNat)
          case atStart => exact ⟨0, Nat.zero_le _, rfl, HM7, HR7, HK7, HZ7, HX7⟩
          clear HM7 HR7 HK7 HZ7 HX7
          case round =>
            obtain ⟨j, hj, rfl, HMj, HRj, HKj, HZj, HXj⟩ := hrel
            by_cases hjt : j < 32
            · have hji : (j : Int) < 32 := by omega
              have hji0 : (0 : Int) ≤ (j : Int) := by omega
              obtain ⟨x, hxj⟩ : ∃ x, (M k)[j]? = some x := ⟨_, List.getElem?_eq_getElem (by rw [HML.out]; exact hjt)⟩
              obtain ⟨y, hyj⟩ : ∃ y, (L (k + 1))[j]? = some y := ⟨_, List.getElem?_eq_getElem (by rw [HLL.out]; exact hjt)⟩
              have hxy := xorL_get _ _ _ _ _ hxj hyj
              rw [HMS.out] at hxy
              have cx := Rw.cell HMj.out (i := j) (v := .int .u8 (x.toNat : Int)) (by rw [bs_get, get_part _ _ _ (by rw [HML.out]; exact hjt), hxj]; rfl)
              have cy := Rw.cell HRj.out (i := j) (v := .int .u8 (y.toNat : Int)) (by rw [bs_get, hyj]; rfl)
              have fx := Rw.frozen HMj.out j
              have hx2 := x.toNat_lt
              have hy2 := y.toNat_lt
              have e1 := u8_xor_nat x.toNat y.toNat (by omega) (by omega)
              have HS : Hid (Rw (wr.setCell ⟨g10, j, none⟩ (.int .u8 ((x.toNat ^^^ y.toNat : Nat) : Int))) g10 24 (bs ((M (k + 1)).take (j + 1) ++ (M k).drop (j + 1)))) := by
                have h := Rw.set HMj.out j (.int .u8 ((x.toNat ^^^ y.toNat : Nat) : Int))
                have e : (bs ((M (k + 1)).take j ++ (M k).drop j)).set j (.int .u8 ((x.toNat ^^^ y.toNat : Nat) : Int)) = bs (((M (k + 1)).take j ++ (M k).drop j).set j (x ^^^ y)) := by
                  unfold bs
                  rw [List.map_set, UInt8.toNat_xor]
                rw [e, set_part _ _ _ _ hxy (by rw [HML.out]; exact hjt)] at h
                exact h
              have h910 := HG10.out
              have h98 := HG98.out
              have hb9 := HB9.out
              clear hxj hyj hxy
              go_wp2
              go_region
              all_goals
                go_wp2
                refine ⟨⟨j + 1, by omega, by go_num, hide HS.out, hide (Rw.far HRj.out (by show g9 ≠ g10; omega) _), hide (Rw.far HKj.out (by show g8 ≠ g10; omega) _), hide (Rw.far HZj.out (by show w.heap.size ≠ g10; omega) _), hide ((Below.set (B := w.heap.size) (p := ⟨g10, j, none⟩) HXj.out (by show w.heap.size ≤ g10; omega) _).drew)⟩, by simp [intOf]; omega⟩
            · have hj32 : j = 32 := by omega
              have hji : ¬ (j : Int) < 32 := by omega
              have HMn : Hid (Rw wr g10 24 (bs (M (k + 1)))) := by
                have h := HMj.out
                rw [hj32, List.take_of_length_le (by rw [HML.out]; exact Nat.le_refl _), List.drop_of_length_le (by rw [HML.out]; exact Nat.le_refl _), List.append_nil] at h
                exact h
              clear hj32 hjt HMj
              go_wp2
              exact ⟨⟨k + 1, by omega, by go_num, HRj, HMn, HKj, HZj, HXj⟩, by simp [intOf]; omega⟩
      · have hkr : k = r := by omega
        have hki : ¬ (k : Int) < (r : Int) := by omega
        have hlM : (M k).length = 32 := HML.out k
        have HMr : Hid (M k = M r) := hide (by rw [hkr])
        clear hkr hlt
        go_wp2_with (first
          | ((with_reducible show wpList _ _ _ (⟨some 46, .load _ _, _, _, _, _⟩ :: _) _ _);
             refine wpList_load_rw rfl 24 (.tmp 10) rfl g10 rfl 24 (bs (M k)) HMk.out 32 5 Tryd.underlying24 (by kernel_rfl) (by rw [bs_length, HML.out]) ?_)
          | ((with_reducible show wpList _ _ _ (⟨none, .store _ (.tmp 6) _, _, _, _, _⟩ :: _) _ _);
             refine wpList_store_rw rfl 24 (.tmp 6) (.tmp 46) rfl _ rfl (bs (M k)) rfl 24 (bs (List.replicate 32 0)) HZk.out 32 (by kernel_rfl) (by rw [bs_length, HML.out]) (by rw [bs_length, bs_length, HML.out]; rfl) (List.all_eq_true.2 (bs_one _)) ?_;
             intro w8 hr8 hl8))
        exact ret_rw2 rfl rfl _ rfl _ _ hr8 32 5 Tryd.underlying24 (by kernel_rfl) (by rw [bs_length, HML.out]) _ rfl (Ret.mk (HXk.out.laid hl8 (Nat.le_refl _)) (by rw [HMr.out]; rfl))
end Go.Proofs.YtdllppaichlnaaaDoor
namespace Go.Proofs.YtdllppaichlnaaaDoor
open Go.RowKit

set_option maxRecDepth 20000 in
set_option maxHeartbeats 8000000 in
theorem rstretch_any (tb : List Nat) (htb : Hid (tb = startW ++ roundW)) (A B : Option Addr) (c d : Nat) (pass salt : List UInt8) (r : Nat) (w : World) (hA : Rd w A pass) (hB : Rd w B salt) (hp : pass.length ≤ 1000000) (hs : salt.length ≤ 1000000) (hr : r < 64) :
    Calls Tryd.prog 10 #[.agg (us tb).toArray, .slice A pass.length c, .slice B salt.length d, .int .i64 ((r : Int) + 1)] w (Ret w (Is (.agg (bs (stretchS pass salt r).2).toArray))) := by
  have HTL : Hid (tb.length = 72) := hide (by rw [htb.out]; rfl)
  obtain ⟨np, HNP⟩ : ∃ n, Hid (pass.length = n) := ⟨_, hide rfl⟩
  obtain ⟨ns, HNS⟩ : ∃ n, Hid (salt.length = n) := ⟨_, hide rfl⟩
  have KT := hide fun W (h : Ext w W) (C : Option Addr) (e : Nat) (q : List UInt8) (hC : Rd W C q) (hl : q.length ≤ 2000000) => (show Calls Tryd.prog 20 #[.agg (us tb).toArray, .slice A np c, .slice C q.length e] W (Ret W (Is (.agg (bs (tagK pass q)).toArray))) from (by
    have h3 := rtag_any tb htb A C c e pass q W (hA.ext h) hC (by omega) (by omega)
    rw [HNP.out] at h3
    exact h3))
  obtain ⟨nl, HNL⟩ : ∃ l, Hid (numberedL salt = l) := ⟨_, hide rfl⟩
  have HNLL : Hid (nl.length ≤ 2000000) := hide (by rw [← HNL.out]; simp [numberedL]; omega)
  obtain ⟨L, HL⟩ : ∃ L : Nat → List UInt8, Hid (∀ n, (stretchS pass salt n).1 = L n) := ⟨fun n => (stretchS pass salt n).1, fun _ => rfl⟩
  obtain ⟨M, HM⟩ : ∃ M : Nat → List UInt8, Hid (∀ n, (stretchS pass salt n).2 = M n) := ⟨fun n => (stretchS pass salt n).2, fun _ => rfl⟩
  have HLL : Hid (∀ n, (L n).length = 32) := fun n => by rw [← HL.out]; exact (stretchS_length pass salt n).1
  have HML : Hid (∀ n, (M n).length = 32) := fun n => by rw [← HM.out]; exact (stretchS_length pass salt n).2
  have HL0 : Hid (tagK pass nl = L 0) := by rw [← HNL.out]; exact HL.out 0
  have HM0 : Hid (L 0 = M 0) := by show L 0 = M 0; rw [← HL.out, ← HM.out]; rfl
  have HLS : Hid (∀ n, tagK pass (L n) = L (n + 1)) := fun n => by rw [← HL.out, ← HL.out]; rfl
  have HMS : Hid (∀ n, xorL (M n) (L (n + 1)) = M (n + 1)) := fun n => by rw [← HL.out, ← HM.out, ← HM.out]; rfl
  rw [HM.out, HNP.out, HNS.out]
  have hr1 : (1 : Int) ≤ (r : Int) + 1 := by omega
  have hr2 : (r : Int) + 1 ≤ 64 := by omega
  have HSS := hide hs
  clear hp hs
  obtain ⟨g4, hg4⟩ : ∃ g, g = w.heap.size := ⟨_, rfl⟩
  have HW0 := hide (show Wds ((w.alloc (.cells (us tb).toArray 35)).alloc (.cells (bs (List.replicate 32 0)).toArray 24)) w.heap.size 35 tb from heap_alloc2_old w _ _)
  have HZ0 := hide (show Rw ((w.alloc (.cells (us tb).toArray 35)).alloc (.cells (bs (List.replicate 32 0)).toArray 24)) (w.heap.size + 1) 24 (bs (List.replicate 32 0)) from heap_alloc2_new w _ _)
  have hx0 : Ext w ((w.alloc (.cells (us tb).toArray 35)).alloc (.cells (bs (List.replicate 32 0)).toArray 24)) := (Ext.alloc _ _).trans (Ext.alloc _ _)
  have hs0 : w.heap.size + 2 ≤ ((w.alloc (.cells (us tb).toArray 35)).alloc (.cells (bs (List.replicate 32 0)).toArray 24)).heap.size := by simp
  go_enter Tryd.func10, Tryd.ntmps10
  go_wp2_with (first
    | ((with_reducible show wpList _ _ _ (⟨some 16, .call _, _, _, _, _⟩ :: _) _ _); refine wpList_cat rfl (.tmp 14) (.tmp 15) rfl (w.heap.size + 2) _ [] salt B ns d rfl rfl HNS.out.symm (Own.nil _ _) (hB.ext hx0) hs0 (by have := HSS.out; simp only [List.length_nil]; omega) ?_; intro v1 w1 hown1 hb1; rw [List.nil_append] at hown1;
       have HW1 : Hid (Wds w1 w.heap.size 35 tb) := hide (Wds.below HW0.out hb1 (by omega));
       have HZ1 : Hid (Rw w1 (w.heap.size + 1) 24 (bs (List.replicate 32 0))) := hide (Rw.below HZ0.out hb1 (by omega));
       have hx1 : Ext w w1 := Below.trans hx0 (Below.mono hb1 (by omega));
       have hs1 : w.heap.size + 2 ≤ w1.heap.size := Nat.le_trans hs0 hb1.size;
       have HO1 := hide hown1; clear hown1 hb1)
    | ((with_reducible show wpList _ _ _ (⟨some 19, .call _, _, _, _, _⟩ :: _) _ _); refine wpList_cat rfl (.tmp 17) (.tmp 18) rfl (w.heap.size + 2) _ salt [0, 0, 0, 1] (some ⟨w1.heap.size, 0, none⟩) 4 4 rfl rfl rfl (HO1.out.alloc _) (Rd.new w1 _ [0, 0, 0, 1] []) (by simp; omega) (by have := HSS.out; simp only [List.length_cons, List.length_nil]; omega) ?_; intro v2 w2 hown2 hb2; rw [show salt ++ [0, 0, 0, 1] = nl from HNL.out] at hown2;
       have HW2 : Hid (Wds w2 w.heap.size 35 tb) := hide (Wds.below (Wds.ext HW1.out (Ext.alloc _ _)) hb2 (by omega));
       have HZ2 : Hid (Rw w2 (w.heap.size + 1) 24 (bs (List.replicate 32 0))) := hide (Rw.below (Rw.ext HZ1.out (Ext.alloc _ _)) hb2 (by omega));
       have hx2 : Ext w w2 := Below.trans (hx1.trans (Ext.alloc _ _)) (Below.mono hb2 (by omega));
       obtain ⟨C2, c2, rfl, _, hr2'⟩ := hown2.bytes;
       have HR2 := hide hr2'; clear hown2 hb2 hr2')
    | ((with_reducible show wpList _ _ _ (⟨some 20, .load _ _, _, _, _, _⟩ :: _) _ _);
       refine wpList_load_row rfl 35 (.tmp 4) rfl w.heap.size rfl 35 (us tb).toArray (0, 0) _ HW2.out Tryd.underlying35 rfl (by rw [List.size_toArray, us_length, HTL.out]; kernel_rfl) ?_)
    | (go_at_call 20; (with_reducible refine (KT.out _ hx2 C2 c2 nl HR2.out HNLL.out).mono ?_); rw [HL0.out]; rintro e w3 ⟨v3, rfl, hw3, rfl⟩;
       have hx3 : Ext w w3 := hx2.trans hw3;
       have HW3 : Hid (Wds w3 w.heap.size 35 tb) := hide (Wds.ext HW2.out hw3);
       have HZ3 : Hid (Rw w3 (w.heap.size + 1) 24 (bs (List.replicate 32 0))) := hide (Rw.ext HZ2.out hw3))
    | ((with_reducible show wpList _ _ _ (⟨none, .store _ (.tmp 10) _, _, _, _, _⟩ :: _) _ _);
       refine wpList_store_rw rfl 24 (.tmp 10) (.tmp 23) rfl _ rfl (bs (L 0)) rfl 24 (bs (List.replicate 32 0)) (heap_alloc_new w3 _) 32 (by kernel_rfl) (by rw [bs_length, HLL.out]) (by rw [bs_length, bs_length, HLL.out]; rfl) (List.all_eq_true.2 (bs_one _)) ?_;
       intro w4 hr4 hl4;
       have hl3 := Wds.lt HW3.out; have hl3' := Rw.lt HZ3.out;
       have hx4 : Ext w w4 := (hx3.trans (Ext.alloc _ _)).laid hl4 hx3.size;
       have HW4 : Hid (Wds w4 w.heap.size 35 tb) := hide (Wds.other (Wds.ext HW3.out (Ext.alloc _ _)) hl4 (by omega));
       have HZ4 : Hid (Rw w4 (w.heap.size + 1) 24 (bs (List.replicate 32 0))) := hide (Rw.other (Rw.ext HZ3.out (Ext.alloc _ _)) hl4 (by omega));
       have HU4 := hide hr4; clear hr4 hl4)
    | ((with_reducible show wpList _ _ _ (⟨some 24, .load _ _, _, _, _, _⟩ :: _) _ _);
       refine wpList_load_rw rfl 24 (.tmp 10) rfl _ rfl 24 (bs (L 0)) HU4.out 32 5 Tryd.underlying24 (by kernel_rfl) (by rw [bs_length, HLL.out]) ?_)
    | ((with_reducible show wpList _ _ _ (⟨none, .store _ (.tmp 11) _, _, _, _, _⟩ :: _) _ _);
       refine wpList_store_rw rfl 24 (.tmp 11) (.tmp 24) rfl _ rfl (bs (L 0)) rfl 24 (bs (List.replicate 32 0)) (heap_alloc_new w4 _) 32 (by kernel_rfl) (by rw [bs_length, HLL.out]) (by rw [bs_length, bs_length, HLL.out]; rfl) (List.all_eq_true.2 (bs_one _)) ?_;
       intro w6 hr6 hl6;
       have h94 := Rw.lt HU4.out; have h93 := Wds.lt HW4.out; have h92 := Rw.lt HZ4.out;
       have HX6 : Hid (Ext w w6) := hide ((hx4.trans (Ext.alloc _ _)).laid hl6 hx4.size);
       have HK6 : Hid (Wds w6 w.heap.size 35 tb) := hide (Wds.other (Wds.ext HW4.out (Ext.alloc _ _)) hl6 (by omega));
       have HZ6 : Hid (Rw w6 (w.heap.size + 1) 24 (bs (List.replicate 32 0))) := hide (Rw.other (Rw.ext HZ4.out (Ext.alloc _ _)) hl6 (by omega));
       have HR6 : Hid (Rw w6 w3.heap.size 24 (bs (L 0))) := hide (Rw.other (Rw.ext HU4.out (Ext.alloc _ _)) hl6 (by omega));
       have HM6 : Hid (Rw w6 w4.heap.size 24 (bs (L 0))) := hide hr6;
       have HG := hide (show w.heap.size + 1 < w3.heap.size ∧ w3.heap.size < w4.heap.size by omega);
       clear hr6 hl6 h94 h93 h92 hx4))
  generalize hg9 : w3.heap.size = g9 at *
  generalize hg10 : w4.heap.size = g10 at *
  clear HW0 HZ0 hx0 hs0 HW1 HZ1 hx1 hs1 HO1 HW2 HZ2 hx2 HR2 HW3 HZ3 hx3 hw3 HW4 HZ4 HU4 hg9 hg10 hl3 hl3'
  go_loopw [12, 13] (fun i _ wr => ∃ k : Nat, k ≤ r ∧ i = .int .i64 ((k : Int) + 1) ∧ Hid (Rw wr g9 24 (bs (L k))) ∧ Hid (Rw wr g10 24 (bs (M k))) ∧ Hid (Wds wr w.heap.size 35 tb) ∧ Hid (Rw wr (w.heap.size + 1) 24 (bs (List.replicate 32 0))) ∧ Hid (Ext w wr)) (fun i _ _ => r + 1 - (intOf i).toNat)
  case atStart => exact ⟨0, Nat.zero_le _, rfl, HR6, HM0.out ▸ HM6, HK6, HZ6, HX6⟩
  clear HR6 HM6 HK6 HZ6 HX6
  case round =>
    obtain ⟨k, hk, rfl, HRk, HMk, HKk, HZk, HXk⟩ := hrel
    by_cases hlt : k < r
    · have hki : (k : Int) + 1 < (r : Int) + 1 := by omega
      go_wp2
      refine Whole.wp_region_last (Nat.le_refl _) [
          ⟨fun _ v => v = .agg (us tb).toArray, fun _ _ _ h _ => h⟩,
          ⟨fun _ v => v = .slice A np c, fun _ _ _ h _ => h⟩,
          ⟨fun _ v => v = .slice (some ⟨g9, 0, none⟩) 32 32, fun _ _ _ h _ => h⟩,
          ⟨fun _ v => v = .agg (bs (L (k + 1))).toArray, fun _ _ _ h _ => h⟩] 4 _ rfl (by kernel_rfl) (by kernel_rfl) (by kernel_rfl) ?_ ?_
      · refine ⟨.inr ?_, .inr ?_, .inr ?_, .inr ?_, .inl rfl, trivial⟩
        · intro az wz hx hB0 hk H
          refine .inl ⟨wanted_none rfl, ?_⟩
          exact gives_load_st 35 (.tmp 4) rfl w.heap.size (by rw [(ev (show az.tmps[4]? = some (.pointer (some ⟨w.heap.size, 0, none⟩)) from hk 4 rfl))]) 35 _ (Rw.below HKk.out hx.below (Wds.lt HKk.out)) _ Tryd.underlying35 rfl (by rw [us_length, HTL.out]; kernel_rfl) ⟨Whole.Grw.refl _ _, rfl⟩
        · intro az wz hx hB0 hk H
          refine .inl ⟨wanted_none rfl, ?_⟩
          refine gives_move rfl ?_
          rw [(ev (show az.tmps[1]? = some (.slice A np c) from hk 1 rfl))]
          exact ⟨Whole.Grw.refl _ _, rfl⟩
        · intro az wz hx hB0 hk H
          refine .inl ⟨wanted_none rfl, ?_⟩
          exact gives_all (n := 32) rfl (by rw [(ev (show az.tmps[10]? = some (.pointer (some ⟨g9, 0, none⟩)) from hk 10 rfl))]) (run_all32 _ _) ⟨Whole.Grw.refl _ _, rfl⟩
        · intro az wz hx hB0 hk H
          obtain ⟨v30, h30, s30⟩ := H 0 rfl _ rfl 30 rfl
          obtain ⟨v31, h31, s31⟩ := H 1 rfl _ rfl 31 rfl
          obtain ⟨v32, h32, s32⟩ := H 2 rfl _ rfl 32 rfl
          refine .inl ⟨wanted_none rfl, ?_⟩
          refine gives_call rfl Tryd.call20 (by simp only [List.map_toArray, List.map_cons, List.map_nil, ev h30, ev h31, ev h32]; rw [s30, s31, s32]) ?_
          have h := KT.out wz (Below.trans HXk.out (Below.mono hx.below HXk.out.size)) (some ⟨g9, 0, none⟩) 32 (L k) (Rw.rd (Rw.below HRk.out hx.below (Rw.lt HRk.out))) (by rw [HLL.out]; decide)
          rw [HLS.out, HLL.out] at h
          exact h.mono fun _ _ h => Whole.ret_grw h hB0
      · intro az wz hx hd hs hv hsame
        obtain ⟨v30, h30, s30⟩ := hv 0 _ 30 (by decide) rfl rfl
        obtain rfl : v30 = (.agg (us tb).toArray) := s30
        obtain ⟨v31, h31, s31⟩ := hv 1 _ 31 (by decide) rfl rfl
        obtain rfl : v31 = (.slice A np c) := s31
        obtain ⟨v32, h32, s32⟩ := hv 2 _ 32 (by decide) rfl rfl
        obtain rfl : v32 = (.slice (some ⟨g9, 0, none⟩) 32 32) := s32
        obtain ⟨v33, h33, s33⟩ := hv 3 _ 33 (by decide) rfl rfl
        obtain rfl : v33 = (.agg (bs (L (k + 1))).toArray) := s33
        have hfr := frame_last [(30, (.agg (us tb).toArray)), (31, (.slice A np c)), (32, (.slice (some ⟨g9, 0, none⟩) 32 32)), (33, (.agg (bs (L (k + 1))).toArray))] hs (by kernel_rfl) (by simp only [List.forall_mem_cons, List.not_mem_nil, false_implies, implies_true, and_true]; exact ⟨h30, h31, h32, h33⟩) hsame
        simp only [List.foldl_cons, List.foldl_nil, List.setIfInBounds_toArray, List.set_cons_succ, List.set_cons_zero] at hfr
        obtain ⟨tm, df⟩ := az
        simp only [] at hfr hd
        subst hfr hd
        clear hv hsame hs h30 h31 h32 h33
        refine ⟨wanted_none rfl, ?_⟩
        have hl9 := Rw.lt HRk.out
        have hl10 := Rw.lt HMk.out
        have hl8 := Wds.lt HKk.out
        have hl6 := Rw.lt HZk.out
        refine gives_store_rw 24 (.tmp 10) (.tmp 33) rfl g9 rfl (bs (L (k + 1))) rfl 24 (bs (L k)) (Rw.below HRk.out hx.below hl9) 32 (by kernel_rfl) (by rw [bs_length, HLL.out]) (by rw [bs_length, bs_length, HLL.out, HLL.out]) (List.all_eq_true.2 (bs_one _)) ?_
        intro w7 hr7 hl7
        have hG := HG.out
        have HX7 : Hid (Ext w w7) := hide (Ext.laid (Below.trans HXk.out (Below.mono hx.below HXk.out.size)) hl7 (by omega))
        have HK7 : Hid (Wds w7 w.heap.size 35 tb) := hide (Wds.other (Wds.below HKk.out hx.below hl8) hl7 (by omega))
        have HZ7 : Hid (Rw w7 (w.heap.size + 1) 24 (bs (List.replicate 32 0))) := hide (Rw.other (Rw.below HZk.out hx.below hl6) hl7 (by omega))
        have HM7 : Hid (Rw w7 g10 24 (bs (M k))) := hide (Rw.other (Rw.below HMk.out hx.below hl10) hl7 (by omega))
        have HR7 := hide hr7
        clear hx HXk HKk HZk HMk HRk hl7 hr7 hl9 hl10 hl8 hl6 hG
        dsimp only [Act.put]
        go_wp2
        go_loopw [13] (fun i wr => ∃ j : Nat, j ≤ 32 ∧ i = .int .i64 j ∧ Hid (Rw wr g10 24 (bs ((M (k + 1)).take j ++ (M k).drop j))) ∧ Hid (Rw wr g9 24 (bs (L (k + 1)))) ∧ Hid (Wds wr w.heap.size 35 tb) ∧ Hid (Rw wr (w.heap.size + 1) 24 (bs (List.replicate 32 0))) ∧ Hid (Ext w wr)) (fun i _ => 32 - (intOf i).toNat)
        case atStart => exact ⟨0, Nat.zero_le _, rfl, HM7, HR7, HK7, HZ7, HX7⟩
        clear HM7 HR7 HK7 HZ7 HX7
        case round =>
          obtain ⟨j, hj, rfl, HMj, HRj, HKj, HZj, HXj⟩ := hrel
          by_cases hjt : j < 32
          · have hji : (j : Int) < 32 := by omega
            have hji0 : (0 : Int) ≤ (j : Int) := by omega
            obtain ⟨x, hxj⟩ : ∃ x, (M k)[j]? = some x := ⟨_, List.getElem?_eq_getElem (by rw [HML.out]; exact hjt)⟩
            obtain ⟨y, hyj⟩ : ∃ y, (L (k + 1))[j]? = some y := ⟨_, List.getElem?_eq_getElem (by rw [HLL.out]; exact hjt)⟩
            have hxy := xorL_get _ _ _ _ _ hxj hyj
            rw [HMS.out] at hxy
            have cx := Rw.cell HMj.out (i := j) (v := .int .u8 (x.toNat : Int)) (by rw [bs_get, get_part _ _ _ (by rw [HML.out]; exact hjt), hxj]; rfl)
            have cy := Rw.cell HRj.out (i := j) (v := .int .u8 (y.toNat : Int)) (by rw [bs_get, hyj]; rfl)
            have fx := Rw.frozen HMj.out j
            have hx2 := x.toNat_lt
            have hy2 := y.toNat_lt
            have e1 := u8_xor_nat x.toNat y.toNat (by omega) (by omega)
            have HS : Hid (Rw (wr.setCell ⟨g10, j, none⟩ (.int .u8 ((x.toNat ^^^ y.toNat : Nat) : Int))) g10 24 (bs ((M (k + 1)).take (j + 1) ++ (M k).drop (j + 1)))) := by
              have h := Rw.set HMj.out j (.int .u8 ((x.toNat ^^^ y.toNat : Nat) : Int))
              have e : (bs ((M (k + 1)).take j ++ (M k).drop j)).set j (.int .u8 ((x.toNat ^^^ y.toNat : Nat) : Int)) = bs (((M (k + 1)).take j ++ (M k).drop j).set j (x ^^^ y)) := by
                unfold bs
                rw [List.map_set, UInt8.toNat_xor]
              rw [e, set_part _ _ _ _ hxy (by rw [HML.out]; exact hjt)] at h
              exact h
            have hG := HG.out
            have hG1 := hG.1
            have hG2 := hG.2
            clear hxj hyj hxy hG
            go_wp2
            go_region
            all_goals
              go_wp2
              refine ⟨⟨j + 1, by omega, by go_num, hide HS.out, hide (Rw.far HRj.out (by show g9 ≠ g10; omega) _), hide (Wds.far HKj.out (by show w.heap.size ≠ g10; omega) _), hide (Rw.far HZj.out (by show w.heap.size + 1 ≠ g10; omega) _), hide ((Below.set (B := w.heap.size) (p := ⟨g10, j, none⟩) HXj.out (by show w.heap.size ≤ g10; omega) _).drew)⟩, by simp [intOf]; omega⟩
          · have hj32 : j = 32 := by omega
            have hji : ¬ (j : Int) < 32 := by omega
            have HMn : Hid (Rw wr g10 24 (bs (M (k + 1)))) := by
              have h := HMj.out
              rw [hj32, List.take_of_length_le (by rw [HML.out]; exact Nat.le_refl _), List.drop_of_length_le (by rw [HML.out]; exact Nat.le_refl _), List.append_nil] at h
              exact h
            clear hj32 hjt HMj
            go_wp2
            exact ⟨⟨k + 1, by omega, by go_num, HRj, HMn, HKj, HZj, HXj⟩, by simp [intOf]; omega⟩
    · have hkr : k = r := by omega
      have hki : ¬ (k : Int) + 1 < (r : Int) + 1 := by omega
      have HMr : Hid (M k = M r) := hide (by rw [hkr])
      clear hkr hlt
      go_wp2_with (first
        | ((with_reducible show wpList _ _ _ (⟨some 47, .load _ _, _, _, _, _⟩ :: _) _ _);
           refine wpList_load_rw rfl 24 (.tmp 11) rfl g10 rfl 24 (bs (M k)) HMk.out 32 5 Tryd.underlying24 (by kernel_rfl) (by rw [bs_length, HML.out]) ?_)
        | ((with_reducible show wpList _ _ _ (⟨none, .store _ (.tmp 8) _, _, _, _, _⟩ :: _) _ _);
           refine wpList_store_rw rfl 24 (.tmp 8) (.tmp 47) rfl _ rfl (bs (M k)) rfl 24 (bs (List.replicate 32 0)) HZk.out 32 (by kernel_rfl) (by rw [bs_length, HML.out]) (by rw [bs_length, bs_length, HML.out]; rfl) (List.all_eq_true.2 (bs_one _)) ?_;
           intro w8 hr8 hl8))
      exact ret_rw rfl rfl _ rfl _ _ hr8 32 5 Tryd.underlying24 (by kernel_rfl) (by rw [bs_length, HML.out]) (Ret.mk (HXk.out.laid hl8 (Nat.le_succ _)) (by rw [HMr.out]; rfl))
end Go.Proofs.YtdllppaichlnaaaDoor
namespace Go.Proofs.YtdllppaichlnaaaDoor
open Go.RowKit

theorem or_zero (a b : Nat) : a ||| b = 0 ↔ a = 0 ∧ b = 0 := by
  constructor
  · intro h
    have h1 : a ≤ a ||| b := Nat.left_le_or
    have h2 : b ≤ a ||| b := Nat.right_le_or
    omega
  · rintro ⟨rfl, rfl⟩; rfl
theorem xor_zero (a b : Nat) : a ^^^ b = 0 ↔ a = b := by
  constructor
  · intro h
    have : (a ^^^ b) ^^^ b = 0 ^^^ b := by rw [h]
    rwa [Nat.xor_assoc, Nat.xor_self, Nat.xor_zero, Nat.zero_xor] at this
  · rintro rfl; exact Nat.xor_self _
theorem same_step (l m : List UInt8) (k acc : Nat) (x y : UInt8) (hx : l[k]? = some x) (hy : m[k]? = some y) (h : acc = 0 ↔ l.take k = m.take k) : (acc ||| (x.toNat ^^^ y.toNat) = 0) ↔ l.take (k + 1) = m.take (k + 1) := by
  have hl : (l.take k).length = (m.take k).length := by
    have h1 := (List.getElem?_eq_some_iff.1 hx).1
    have h2 := (List.getElem?_eq_some_iff.1 hy).1
    simp; omega
  rw [or_zero, xor_zero, h, List.take_add_one, List.take_add_one, hx, hy]
  simp only [Option.toList_some]
  constructor
  · rintro ⟨h1, h2⟩
    rw [h1, UInt8.toNat_inj.1 h2]
  · intro h2
    have := List.append_inj h2 hl
    exact ⟨this.1, by rw [(List.cons.inj this.2).1]⟩

set_option maxRecDepth 20000 in
set_option maxHeartbeats 1600000 in
theorem equal_any (A B : Option Addr) (c d : Nat) (l m : List UInt8) (w : World) (hA : Rd w A l) (hB : Rd w B m) (hl : l.length ≤ 140737488355328) :
    Calls Tryd.prog 23 #[.slice A l.length c, .slice B m.length d] w (Ret w (Is (.bool (l == m)))) := by
  by_cases hn : l.length = m.length
  · have HN := hide hn
    obtain ⟨n, HL⟩ : ∃ n, Hid (l.length = n) := ⟨_, rfl⟩
    have hm : m.length = n := by rw [← hn, HL.out]
    rw [HL.out] at hl
    rw [hm, HL.out]
    clear hm hn
    go_enter Tryd.func23, Tryd.ntmps23
    go_wp2
    go_loopw [5, 14] (fun u i wr => ∃ k acc : Nat, k ≤ n ∧ i = .int .i64 k ∧ acc < 256 ∧ u = .int .u8 acc ∧ Hid (acc = 0 ↔ l.take k = m.take k) ∧ Ext w wr) (fun _ i _ => n - (intOf i).toNat)
    case atStart => exact ⟨0, 0, Nat.zero_le _, rfl, by decide, rfl, by simp [Hid], Ext.refl _⟩
    case round =>
      obtain ⟨k, acc, hk, rfl, hacc, rfl, HA, hx⟩ := hrel
      by_cases hlt : k < n
      · obtain ⟨b, off, x, rfl, hxk, hcx⟩ := (hA.ext hx).at (k := k) (by rw [HL.out]; exact hlt)
        obtain ⟨b2, off2, y, rfl, hyk, hcy⟩ := (hB.ext hx).at (k := k) (by rw [← HN.out, HL.out]; exact hlt)
        have hx2 := x.toNat_lt
        have hy2 := y.toNat_lt
        have hlt2 : (k : Int) < (n : Int) := by omega
        have HS := hide (same_step l m k acc x y hxk hyk HA.out)
        have e1 := u8_xor_nat x.toNat y.toNat (by omega) (by omega)
        have hz : x.toNat ^^^ y.toNat < 256 := Nat.xor_lt_two_pow (n := 8) (by omega) (by omega)
        have e2 := u8_or_nat acc (x.toNat ^^^ y.toNat) hacc hz
        have hz2 : acc ||| (x.toNat ^^^ y.toNat) < 256 := Nat.or_lt_two_pow (n := 8) hacc hz
        clear hxk hyk HA
        go_wp2
        go_quiet (fail)
        go_wp2
        exact ⟨⟨k + 1, _, by omega, by go_num, hz2, rfl, HS, hx.drewN _⟩, by simp [intOf]; omega⟩
      · have hge : ¬ (k : Int) < (n : Int) := by omega
        have HE : Hid (acc = 0 ↔ l = m) := by
          have e : k = n := by omega
          have h1 := HA.out
          rw [e, List.take_of_length_le (by rw [HL.out]; omega), List.take_of_length_le (by rw [← HN.out, HL.out]; omega)] at h1
          exact h1
        clear HA hk hlt
        go_wp2
        go_ret
        refine Ret.mk hx ?_
        show Value.bool ((acc : Int) == 0) = Value.bool (l == m)
        congr 1
        rw [Bool.eq_iff_iff, beq_iff_eq, beq_iff_eq]
        exact ⟨fun h => HE.out.1 (by omega), fun h => by have := HE.out.2 h; omega⟩
  · have h1 : ¬ ((l.length : Int) = (m.length : Int)) := by omega
    have hb : (l == m) = false := by
      rw [beq_eq_false_iff_ne]
      intro e
      exact hn (by rw [e])
    go_enter Tryd.func23, Tryd.ntmps23
    go_wp2
    go_ret
    exact Ret.mk (Ext.refl _) (by rw [hb]; rfl)
end Go.Proofs.YtdllppaichlnaaaDoor
namespace Go.Proofs.YtdllppaichlnaaaDoor
open Go.RowKit

/-- Block g begins with the bytes l; it may be written. -/
def Mrk (w : World) (g : Nat) (l : List UInt8) : Prop := ∃ (m : List UInt8) (n : Nat), w.heap[g]? = some (.cells (bs (l ++ m)).toArray 5 (n, n + 1)) ∧ (l ++ m).length ≤ n
section
variable {w w' : World} {g : Nat} {l : List UInt8}
theorem Mrk.lt (h : Mrk w g l) : g < w.heap.size := by
  obtain ⟨m, n, h, _⟩ := h
  rcases Nat.lt_or_ge g w.heap.size with h' | h'
  · exact h'
  · rw [Array.getElem?_eq_none h'] at h; cases h
theorem Mrk.cell (h : Mrk w g l) {i : Nat} {x : UInt8} (hx : l[i]? = some x) : w.cell? ⟨g, i, none⟩ = some (.int .u8 (x.toNat : Int)) := by
  obtain ⟨m, n, h, _⟩ := h
  have hlt := (List.getElem?_eq_some_iff.1 hx).1
  rw [cell_of_row w g i _ _ (n, n + 1) h, List.getElem?_toArray, bs_get, List.getElem?_append_left hlt, hx]
  rfl
theorem Mrk.frozen (h : Mrk w g l) {i : Nat} (hi : i < l.length) : w.frozen? ⟨g, i, none⟩ = false := by
  obtain ⟨m, n, h, hn⟩ := h
  rw [List.length_append] at hn
  have : ¬ n ≤ i := by omega
  simp [World.frozen?, h, this]
theorem Mrk.set (h : Mrk w g l) {i : Nat} (hi : i < l.length) (n : Int) (h0 : 0 ≤ n) (h1 : n < 256) : Mrk (w.setCell ⟨g, i, none⟩ (.int .u8 n)) g (l.set i (b8 n)) := by
  obtain ⟨m, k, h, hk⟩ := h
  refine ⟨m, k, ?_, by simpa using hk⟩
  have e : (bs (l.set i (b8 n) ++ m)).toArray = (bs (l ++ m)).toArray.setIfInBounds i (.int .u8 n) := by
    rw [List.setIfInBounds_toArray]
    congr 1
    rw [← List.set_append_left _ _ hi]
    unfold bs
    rw [List.map_set, b8_toNat h0 h1]
  rw [e]
  simp [World.setCell, Array.getElem?_modify, h]
theorem Mrk.ext (h : Mrk w g l) (hx : Ext w w') : Mrk w' g l := by
  obtain ⟨m, n, h1, h2⟩ := id h
  exact ⟨m, n, (Below.block hx g h.lt).trans h1, h2⟩
theorem Mrk.far (h : Mrk w g l) {p : Addr} (hp : g ≠ p.block) (u : Value) : Mrk (w.setCell p u) g l := by
  obtain ⟨m, n, h1, h2⟩ := h
  exact ⟨m, n, (Below.heap_setCell w p u g hp).trans h1, h2⟩
theorem Mrk.rd (h : Mrk w g l) : Rd w (some ⟨g, 0, none⟩) l := fun _ => ⟨g, 0, rfl, fun j u hu => by rw [Nat.zero_add]; exact h.cell hu⟩
end
theorem set_mix {α : Type} (P S : List α) (k : Nat) (z : α) (hP : P[k]? = some z) (hS : k < S.length) : (P.take k ++ S.drop k).set k z = P.take (k + 1) ++ S.drop (k + 1) := by
  have hk : k < P.length := (List.getElem?_eq_some_iff.1 hP).1
  have hlen : (P.take k).length = k := by simp; omega
  rw [List.set_append_right _ _ (by omega), hlen, Nat.sub_self, List.drop_eq_getElem_cons hS, List.set_cons_zero, List.take_add_one, hP]
  simp
theorem keep_mix {α : Type} (P S : List α) (k : Nat) (z : α) (hP : P[k]? = some z) (hS : S[k]? = some z) : P.take k ++ S.drop k = P.take (k + 1) ++ S.drop (k + 1) := by
  obtain ⟨hk, hkz⟩ := List.getElem?_eq_some_iff.1 hS
  rw [List.drop_eq_getElem_cons hk, List.take_add_one, hP, hkz]
  simp
theorem get_mix {α : Type} (P S : List α) (k : Nat) (hP : k < P.length) : (P.take k ++ S.drop k)[k]? = S[k]? := by
  have hlen : (P.take k).length = k := by simp; omega
  rw [List.getElem?_append_right (by omega), hlen, Nat.sub_self, List.getElem?_drop]
  rfl
theorem row_bytes (s : ByteArray) (cap : Nat) : bytesRow s cap = (bs (s.data.toList ++ List.replicate (cap - s.size) 0)).toArray := by
  apply Array.ext'
  simp [bytesRow, bs]
theorem run_conv (s : ByteArray) (w : World) : ∃ c w', (convert 9 37 (.string s)).run Tryd.prog w = .ok (.slice (some ⟨w.heap.size, 0, none⟩) s.size c) w' ∧ Mrk w' w.heap.size s.data.toList ∧ Ext w w' ∧ s.size ≤ c := by
  refine ⟨_, _, run_bytes_of_string w 9 37 5 s Tryd.underlying9 Tryd.underlying37 Tryd.underlying5, ?_, (Ext.drew w).trans (Ext.alloc _ _), ?_⟩
  · refine ⟨List.replicate (grownCap w s.size 0 5 - s.size) 0, (bytesRow s (grownCap w s.size 0 5)).size, ?_, ?_⟩
    · rw [← row_bytes]
      exact heap_alloc_new w.drew _
    · rw [row_bytes, List.size_toArray, bs_length]
      exact Nat.le_refl _
  · exact grownCap_ge w s.size 0 5
section
variable {ops : Array Oper} {rest : List Oper} {o : Oper} {a : Act} {Q : Exit → Act → World → Prop} {w : World}
/-- '[]byte(s)'. -/
theorem wpList_conv (hgd : Region.wanted o (yielded ops a.tmps) = true) (x : Operand) (ho : o.op = .convert 9 37 x) (s : ByteArray) (hx : a.eval x = .string s)
    (h : ∀ c w', Mrk w' w.heap.size s.data.toList → Ext w w' → s.size ≤ c → wpList Tryd.prog ops Q rest (a.put o.dst (.slice (some ⟨w.heap.size, 0, none⟩) s.size c)) w') : wpList Tryd.prog ops Q (o :: rest) a w := by
  obtain ⟨c, w', hrun, h1, h2, h3⟩ := run_conv s w
  refine wpList_wanted hgd fun K hK => ?_
  unfold Oper.wp
  have he : (execOp a.eval o).run Tryd.prog w = .ok (.value (.slice (some ⟨w.heap.size, 0, none⟩) s.size c)) w' := by simp [execOp, ho, hx, hrun]
  rw [he]
  exact hK _ _ (h c w' h1 h2 h3)
end
end Go.Proofs.YtdllppaichlnaaaDoor
namespace Go.Proofs.YtdllppaichlnaaaDoor

/-- The eight bytes of a number, the highest first. -/
def be64 (u : Int) : List UInt8 :=
  [b8 (u / 72057594037927936 % 256), b8 (u / 281474976710656 % 256), b8 (u / 1099511627776 % 256), b8 (u / 4294967296 % 256),
   b8 (u / 16777216 % 256), b8 (u / 65536 % 256), b8 (u / 256 % 256), b8 (u % 256)]
theorem be64_length (u : Int) : (be64 u).length = 8 := rfl
theorem be64_cells (u : Int) (h0 : 0 ≤ u) (h1 : u < 18446744073709551616) : bs (be64 u) =
    [.int .u8 (u / 72057594037927936), .int .u8 (u / 281474976710656 % 256), .int .u8 (u / 1099511627776 % 256), .int .u8 (u / 4294967296 % 256),
     .int .u8 (u / 16777216 % 256), .int .u8 (u / 65536 % 256), .int .u8 (u / 256 % 256), .int .u8 (u % 256)] := by
  have e : u / 72057594037927936 % 256 = u / 72057594037927936 := by omega
  unfold be64 bs
  simp only [List.map_cons, List.map_nil]
  rw [b8_toNat (by omega) (by omega), b8_toNat (by omega) (by omega), b8_toNat (by omega) (by omega), b8_toNat (by omega) (by omega), b8_toNat (by omega) (by omega),
    b8_toNat (by omega) (by omega), b8_toNat (by omega) (by omega), b8_toNat (by omega) (by omega), e]

/-- The number that bytes are, the highest first. -/
def onum (l : List UInt8) : Int := l.foldl (fun a b => a * 256 + (b.toNat : Int)) 0
theorem num_snoc (l : List UInt8) (b : UInt8) : onum (l ++ [b]) = onum l * 256 + (b.toNat : Int) := by simp [onum]
theorem num_from (l : List UInt8) : ∀ a : Int, 0 ≤ a → 0 ≤ l.foldl (fun a b => a * 256 + (b.toNat : Int)) a ∧ l.foldl (fun a b => a * 256 + (b.toNat : Int)) a < (a + 1) * 256 ^ l.length := by
  induction l with
  | nil => intro a h; simp; omega
  | cons b l ih =>
    intro a h
    have hb := b.toNat_lt
    have := ih (a * 256 + (b.toNat : Int)) (by omega)
    refine ⟨this.1, Int.lt_of_lt_of_le this.2 ?_⟩
    rw [List.length_cons, Int.pow_succ, Int.mul_comm (256 ^ l.length) 256, ← Int.mul_assoc]
    exact Int.mul_le_mul_of_nonneg_right (by omega) (Int.le_of_lt (Int.pow_pos (by omega)))
theorem num_bound (l : List UInt8) : 0 ≤ onum l ∧ onum l < 256 ^ l.length := by
  have := num_from l 0 (by omega)
  unfold onum
  simpa using this
theorem num_be64 (u : Int) (h0 : 0 ≤ u) (h1 : u < 18446744073709551616) : onum (be64 u) = u := by
  unfold onum be64
  simp only [List.foldl_cons, List.foldl_nil]
  rw [b8_toNat (by omega) (by omega), b8_toNat (by omega) (by omega), b8_toNat (by omega) (by omega), b8_toNat (by omega) (by omega), b8_toNat (by omega) (by omega),
    b8_toNat (by omega) (by omega), b8_toNat (by omega) (by omega), b8_toNat (by omega) (by omega)]
  omega

theorem num_step (l : List UInt8) (k j : Nat) (x : UInt8) (h : l[k + j]? = some x) : onum ((l.drop k).take (j + 1)) = onum ((l.drop k).take j) * 256 + (x.toNat : Int) := by
  have h' : (l.drop k)[j]? = some x := by rw [List.getElem?_drop]; exact h
  rw [List.take_add_one, h', Option.toList_some, num_snoc]
theorem num_take_lt (l : List UInt8) (j : Nat) (h : j ≤ 7) : onum (l.take j) < 72057594037927936 := by
  have h1 := (num_bound (l.take j)).2
  have h3 : 256 ^ (l.take j).length ≤ 256 ^ 7 := Nat.pow_le_pow_right (by omega) (Nat.le_trans (List.length_take_le _ _) h)
  have h2 : ((256 ^ (l.take j).length : Nat) : Int) ≤ ((256 ^ 7 : Nat) : Int) := Int.ofNat_le.2 h3
  rw [Int.natCast_pow] at h2
  have h4 : ((256 ^ 7 : Nat) : Int) = 72057594037927936 := by decide
  have h5 : (256 : Int) ^ (l.take j).length ≤ 72057594037927936 := by rw [← h4]; exact h2
  exact Int.lt_of_lt_of_le h1 h5
theorem num_take_lt8 (l : List UInt8) : 0 ≤ onum (l.take 8) ∧ onum (l.take 8) < 18446744073709551616 := by
  have h := num_bound (l.take 8)
  have h3 : 256 ^ (l.take 8).length ≤ 256 ^ 8 := Nat.pow_le_pow_right (by omega) (List.length_take_le _ _)
  have h2 : ((256 ^ (l.take 8).length : Nat) : Int) ≤ ((256 ^ 8 : Nat) : Int) := Int.ofNat_le.2 h3
  rw [Int.natCast_pow] at h2
  have h4 : ((256 ^ 8 : Nat) : Int) = 18446744073709551616 := by decide
  have h5 : (256 : Int) ^ (l.take 8).length ≤ 18446744073709551616 := by rw [← h4]; exact h2
  exact ⟨h.1, Int.lt_of_lt_of_le h.2 h5⟩
theorem or_low (a b : Nat) (hb : b < 256) : a * 256 ||| b = a * 256 + b := by
  have := Nat.shiftLeft_add_eq_or_of_lt (i := 8) (b := b) (by omega) a
  rw [Nat.shiftLeft_eq] at this
  exact this.symm
theorem or_byte (a b : Int) (ha0 : 0 ≤ a) (ha1 : a < 72057594037927936) (hb0 : 0 ≤ b) (hb1 : b < 256) :
    bits .or .u64 (IntKind.u64.wrap (a * 256)) (IntKind.u64.wrap b) = a * 256 + b := by
  have e1 : IntKind.u64.wrap (a * 256) = ((a.toNat * 256 : Nat) : Int) := by rw [IntKind.wrap_u64]; omega
  have e2 : IntKind.u64.wrap b = ((b.toNat : Nat) : Int) := by rw [IntKind.wrap_u64]; omega
  rw [e1, e2]
  show IntKind.u64.wrap ((BitVec.ofInt 64 ((a.toNat * 256 : Nat) : Int) ||| BitVec.ofInt 64 ((b.toNat : Nat) : Int)).toNat : Int) = _
  rw [BitVec.toNat_or, BitVec.ofInt_natCast, BitVec.ofInt_natCast, BitVec.toNat_ofNat, BitVec.toNat_ofNat,
    Nat.mod_eq_of_lt (show a.toNat * 256 < 2 ^ 64 by omega), Nat.mod_eq_of_lt (show b.toNat < 2 ^ 64 by omega), or_low _ _ (by omega), IntKind.wrap_u64]
  omega

/-- A text's bytes with ff behind each 00. -/
def esc : List UInt8 → List UInt8
  | [] => []
  | b :: l => if b = 0 then 0 :: 255 :: esc l else b :: esc l
theorem esc_append (l m : List UInt8) : esc (l ++ m) = esc l ++ esc m := by
  induction l with
  | nil => rfl
  | cons b l ih => simp only [List.cons_append, esc]; split <;> simp [ih]
theorem esc_length (l : List UInt8) : l.length ≤ (esc l).length ∧ (esc l).length ≤ 2 * l.length := by
  induction l with
  | nil => simp [esc]
  | cons b l ih => simp only [esc]; split <;> simp <;> omega
/-- A text as bytes. -/
def text (l : List UInt8) : List UInt8 := esc l ++ [0, 1]
end Go.Proofs.YtdllppaichlnaaaDoor
namespace Go.Proofs.YtdllppaichlnaaaDoor
open Go.Shelf
def Tryd.lays137_ren : Go.Shelf.Ren := ⟨fun | 137 => 36 | 217 => 41 | 266 => 45 | n => n, fun | 9 => 9 | 5 => 5 | 3 => 3 | n => n, fun | n => n⟩
theorem Tryd.lays137 : Go.Proofs.Lays.n137 Tryd.prog Tryd.lays137_ren := {
  mixed := by kernel_rfl
  f137 := Tryd.func36.trans (congrArg some (by kernel_rfl))
  f217 := Tryd.func41.trans (congrArg some (by kernel_rfl))
  f266 := Tryd.func45.trans (congrArg some (by kernel_rfl))
  t3 := Tryd.underlying3
  a3 := Tryd.isAgg3
  z3 := Tryd.sizeOf3
  v3 := Tryd.zeroValue3
  t5 := Tryd.underlying5
  a5 := Tryd.isAgg5
  z5 := Tryd.sizeOf5
  v5 := Tryd.zeroValue5
  t9 := Tryd.underlying9
  a9 := Tryd.isAgg9
  z9 := Tryd.sizeOf9
  v9 := Tryd.zeroValue9 }
open Go.RowKit in
/-- strings.IndexByte: "IndexByte returns the index of the first instance of c in s, or -1 if c is not present in s.": IT RETURNS 'Lib.indexByte s c'; the world is as it was. (LAID: no walk: one application.) -/
theorem Tryd.strings_IndexByte (s : ByteArray) (c : Int) (w : World) :
    Calls Tryd.prog 36 #[.string s, .int .u8 c] w fun e w' => e = .returned (.int .i64 (Lib.indexByte s.data.toList c.toNat.toUInt8)) ∧ w' = w := Any.strings_IndexByte Tryd.lays137 s c w
def Tryd.lays217_ren : Go.Shelf.Ren := ⟨fun | 217 => 41 | 266 => 45 | n => n, fun | 9 => 9 | 5 => 5 | 3 => 3 | n => n, fun | n => n⟩
theorem Tryd.lays217 : Go.Proofs.Lays.n217 Tryd.prog Tryd.lays217_ren := {
  mixed := by kernel_rfl
  f217 := Tryd.func41.trans (congrArg some (by kernel_rfl))
  f266 := Tryd.func45.trans (congrArg some (by kernel_rfl))
  t3 := Tryd.underlying3
  a3 := Tryd.isAgg3
  z3 := Tryd.sizeOf3
  v3 := Tryd.zeroValue3
  t5 := Tryd.underlying5
  a5 := Tryd.isAgg5
  z5 := Tryd.sizeOf5
  v5 := Tryd.zeroValue5
  t9 := Tryd.underlying9
  a9 := Tryd.isAgg9
  z9 := Tryd.sizeOf9
  v9 := Tryd.zeroValue9 }
open Go.RowKit Go.Lib in
/-- internal/stringslite.IndexByte (what strings.IndexByte calls): IT RETURNS 'Lib.indexByte s c'; the world is as it was. (LAID: no walk: one application.) -/
theorem Tryd.stringslite_IndexByte (s : ByteArray) (c : Int) (w : World) :
    Calls Tryd.prog 41 #[.string s, .int .u8 c] w fun e w' => e = .returned (.int .i64 (Lib.indexByte s.data.toList c.toNat.toUInt8)) ∧ w' = w := Any.stringslite_IndexByte Tryd.lays217 s c w
end Go.Proofs.YtdllppaichlnaaaDoor
namespace Go.Proofs.YtdllppaichlnaaaDoor
open Go.RowKit

/-- No text. -/
def noS : ByteArray := ⟨#[]⟩
def RetV (w : World) (v : Value) (e : Ending) (w' : World) : Prop := e = .returned v ∧ Ext w w'
theorem noS_b {s : ByteArray} (h : ¬ s = noS) : s.toList.isEmpty = false := by
  rw [ByteArray.toList_eq]
  cases hq : s.data.toList.isEmpty with
  | false => rfl
  | true =>
    refine absurd ?_ h
    have e : s.data = #[] := Array.toList_inj.1 (List.isEmpty_iff.1 hq)
    cases s
    exact congrArg ByteArray.mk e
end Go.Proofs.YtdllppaichlnaaaDoor
namespace Go.Proofs.YtdllppaichlnaaaDoor
open Go.RowKit

set_option maxHeartbeats 400000 in
theorem uint_any (u : Int) (w : World) (h0 : 0 ≤ u) (h1 : u < 18446744073709551616) :
    Calls Tryd.prog 19 #[.int .u64 u] w (Ret w (Bytes (be64 u))) := by
  have hmk : ∀ w, (Instr.makeSlice 37 (.int .i64 8) (.int .i64 8)).run Tryd.prog w = .ok (.slice (some ⟨w.heap.size, 0, none⟩) 8 8) (w.alloc (.cells #[.int .u8 0, .int .u8 0, .int .u8 0, .int .u8 0, .int .u8 0, .int .u8 0, .int .u8 0, .int .u8 0] 5)) := fun _ => by kernel_rfl
  go_enter Tryd.func19, Tryd.ntmps19
  go_wp2
  go_rounds 9
  go_ret
  exact Ret.mk (Ext.alloc _ _) (Bytes.new _ _ _ _ (by rw [be64_cells u h0 h1]) rfl (Nat.le_refl _))

set_option maxHeartbeats 400000 in
theorem ruint_any (u : Int) (w : World) (h0 : 0 ≤ u) (h1 : u < 18446744073709551616) :
    Calls Tryd.prog 12 #[.int .u64 u] w (Ret w (Bytes (be64 u))) := by
  go_enter Tryd.func12, Tryd.ntmps12
  go_wp2
  refine wp_loop_rounds 9 ?_
  have hown : Own w w.heap.size (.slice none 0 0) [] := Own.nil _ _
  have hb : Below w.heap.size w w := Below.refl _ _
  iterate 8
    rw [rounds_succ]
    go_wp2_with (at_builtin; refine wpList_push rfl (.tmp 9) (.tmp 15) rfl w.heap.size _ _ rfl rfl (by assumption) (by omega) (by omega) (Below.size hb) (by simp) ?_; intro v1 w1 hown1 hb1; replace hb := Below.trans hb hb1; clear hb1)
  rw [rounds_succ]
  go_wp2
  go_ret
  refine Ret.mk hb ?_
  have e : be64 u = [] ++ [b8 (u / 72057594037927936)] ++ [b8 (u / 281474976710656 % 256)] ++ [b8 (u / 1099511627776 % 256)] ++ [b8 (u / 4294967296 % 256)] ++
      [b8 (u / 16777216 % 256)] ++ [b8 (u / 65536 % 256)] ++ [b8 (u / 256 % 256)] ++ [b8 (u % 256)] := by
    have e : u / 72057594037927936 % 256 = u / 72057594037927936 := by omega
    simp [be64, e]
  rw [e]
  exact Own.bytes (by assumption)

/-- The eight bytes of a signed number. -/
def ord64 (n : Int) : List UInt8 := be64 (n + 9223372036854775808)
theorem wrap_half (n : Int) (h0 : -9223372036854775808 ≤ n) (h1 : n < 9223372036854775808) : IntKind.u64.wrap (IntKind.u64.wrap n + 9223372036854775808) = n + 9223372036854775808 := by
  simp only [IntKind.wrap_u64]; omega

/-- What reading a number gives: the value, the place behind it, the error's number. -/
def rdNum (l : List UInt8) (at_ : Int) : Int × Int × Int :=
  if at_ < 0 ∨ (l.length : Int) < at_ then (0, 0, 1) else if (l.length : Int) < at_ + 8 then (0, 0, 3) else (onum ((l.drop at_.toNat).take 8), at_ + 8, 0)
def Three (k : IntKind) (x : Int × Int × Int) (w : World) (e : Ending) (w' : World) : Prop := e = .returned (.tuple #[.int k x.1, .int .i64 x.2.1, .int .i64 x.2.2]) ∧ w = w'

set_option maxHeartbeats 400000 in
theorem readUint_any (A : Option Addr) (c : Nat) (l : List UInt8) (at_ : Int) (w : World) (hr : Rd w A l) (hl : l.length ≤ 140737488355328) (ha : at_ ≤ 9223372036854775807) :
    Calls Tryd.prog 27 #[.slice A l.length c, .int .i64 at_] w (Three .u64 (rdNum l at_) w) := by
  by_cases h1 : at_ < 0 ∨ (l.length : Int) < at_
  · have e : rdNum l at_ = (0, 0, 1) := by unfold rdNum; rw [if_pos h1]
    rw [e]
    rcases h1 with h1 | h1
    · go_enter Tryd.func27, Tryd.ntmps27
      go_wp2
      go_ret3
      exact ⟨rfl, rfl⟩
    · have h0 : 0 ≤ at_ := by omega
      go_enter Tryd.func27, Tryd.ntmps27
      go_wp2
      go_ret3
      exact ⟨rfl, rfl⟩
  · obtain ⟨k, rfl⟩ := Int.eq_ofNat_of_zero_le (show 0 ≤ at_ by omega)
    have hk : k ≤ l.length := by omega
    by_cases h2 : (l.length : Int) < (k : Int) + 8
    · have e : rdNum l (k : Int) = (0, 0, 3) := by unfold rdNum; rw [if_neg h1, if_pos h2]
      rw [e]
      clear h1
      have h3 : (l.length : Int) - (k : Int) < 8 := by omega
      go_enter Tryd.func27, Tryd.ntmps27
      go_wp2
      go_ret3
      exact ⟨rfl, rfl⟩
    · have e : rdNum l (k : Int) = (onum ((l.drop k).take 8), (k : Int) + 8, 0) := by unfold rdNum; rw [if_neg h1, if_neg h2, Int.toNat_natCast]
      rw [e]
      clear h1
      have h3 : 8 ≤ (l.length : Int) - (k : Int) := by omega
      go_enter Tryd.func27, Tryd.ntmps27
      go_wp2
      go_loop [7, 8, 22] (fun u _ c => ∃ j : Nat, j ≤ 8 ∧ c = .int .i64 j ∧ u = .int .u64 (onum ((l.drop k).take j))) (fun _ _ c => 8 - (intOf c).toNat)
      case atStart => exact ⟨0, Nat.zero_le _, rfl, rfl⟩
      case round =>
        obtain ⟨j, hj, rfl, rfl⟩ := hrel
        by_cases hlt : j < 8
        · obtain ⟨b, off, x, rfl, hx, hc⟩ := hr.at (k := k + j) (by omega)
          have hb := (num_bound ((l.drop k).take j)).1
          go_wp2
          refine ⟨⟨j + 1, by omega, by go_num, ?_⟩, by simp [intOf]; omega⟩
          have hb2 := num_take_lt (l.drop k) j (by omega)
          have hx2 := x.toNat_lt
          rw [or_byte _ _ hb hb2 (by omega) (by omega), num_step l k j x hx]
        · obtain rfl : j = 8 := by omega
          go_wp2
          go_ret3
          exact ⟨rfl, rfl⟩

end Go.Proofs.YtdllppaichlnaaaDoor
namespace Go.Proofs.YtdllppaichlnaaaDoor
open Go.RowKit

/-- What reading a signed number gives. -/
def rdOrd (l : List UInt8) (at_ : Int) : Int × Int × Int :=
  if (rdNum l at_).2.2 = 0 then ((rdNum l at_).1 - 9223372036854775808, (rdNum l at_).2.1, 0) else (0, 0, (rdNum l at_).2.2)
theorem rdNum_range (l : List UInt8) (at_ : Int) : 0 ≤ (rdNum l at_).1 ∧ (rdNum l at_).1 < 18446744073709551616 := by
  have h : 0 ≤ onum ((l.drop at_.toNat).take 8) ∧ onum ((l.drop at_.toNat).take 8) < 18446744073709551616 := num_take_lt8 _
  unfold rdNum
  split
  · exact ⟨by decide, by decide⟩
  · split
    · exact ⟨by decide, by decide⟩
    · exact h
theorem wrap_back (u : Int) (h0 : 0 ≤ u) (h1 : u < 18446744073709551616) : wrap64 (IntKind.u64.wrap (u - 9223372036854775808)) = u - 9223372036854775808 := by
  simp only [IntKind.wrap_u64, wrap64]; omega

end Go.Proofs.YtdllppaichlnaaaDoor
namespace Go.Proofs.YtdllppaichlnaaaDoor
open Go.RowKit

theorem take_next (s : ByteArray) (k : Nat) (h : k < s.size) : s.data.toList.take (k + 1) = s.data.toList.take k ++ [s[k]] := by
  rw [List.take_add_one]
  have : s.data.toList[k]? = some s[k] := by
    rw [Array.getElem?_toList]
    exact Array.getElem?_eq_getElem h
  rw [this]; rfl
theorem size_list (s : ByteArray) : s.data.toList.length = s.size := by rw [Array.length_toList]; rfl
theorem esc_one (b : UInt8) : esc [b] = if b = 0 then [0, 255] else [b] := by simp [esc]
theorem run_make_empty (c : Nat) (hc : c ≤ 281474976710656) (W : World) : (Instr.makeSlice 37 (.int .i64 0) (.int .i64 (c : Int))).run Tryd.prog W =
    .ok (.slice (some ⟨W.heap.size, 0, none⟩) 0 c) (W.alloc (.cells (madeCells #[.int .u8 0] c) 5)) := by
  obtain ⟨i0, hi, hz0, hz1, hz2⟩ := info_parts info_u8
  have h := run_make (P := Tryd.prog) W 37 5 i0 (.int .u8 0) Tryd.underlying37 hi hz0 .i64 .i64 0 (c : Int) (by omega) (by omega) (by rw [hz2]; omega) (by omega)
  simpa [hz1, Value.cells] using h
theorem Own.made (W : World) (base c : Nat) (hb : base ≤ W.heap.size) (hc : c ≤ 281474976710656) : Own (W.alloc (.cells (madeCells #[.int .u8 0] c) 5)) base (.slice (some ⟨W.heap.size, 0, none⟩) 0 c) [] :=
  World.ownsRow_made W _ c hb (by unfold maxLen; omega) (by simp [madeCells])

end Go.Proofs.YtdllppaichlnaaaDoor
namespace Go.Proofs.YtdllppaichlnaaaDoor
open Go.RowKit

theorem bs_str (s : ByteArray) : Lib.strCells s = bs s.data.toList := rfl
section
variable {ops : Array Oper} {rest : List Oper} {o : Oper} {a : Act} {Q : Exit → Act → World → Prop} {w : World}
theorem wpList_catS (hgd : o.guard = none) (sl x : Operand) (ho : o.op = .call { callee := .builtin .append, args := #[sl, x], argTypes := #[37, 9] })
    (base : Nat) (v : Value) (l : List UInt8) (s : ByteArray) (hs : a.eval sl = v) (hx : a.eval x = .string s) (hown : Own w base v l) (hbase : base ≤ w.heap.size) (hlen : l.length + s.size ≤ 140737488355328)
    (h : ∀ v' w', Own w' base v' (l ++ s.data.toList) → Below base w w' → wpList Tryd.prog ops Q rest (a.put o.dst v') w') : wpList Tryd.prog ops Q (o :: rest) a w := by
  obtain ⟨i0, hi, hz0, hz1, hz2⟩ := info_parts info_u8
  refine Lib.wpList_append_own_string w hgd sl x _ _ ho base 5 i0 Tryd.underlying37 Tryd.underlying9 hi hz0 hz1 hz2 v l.length (bs l) hs hown s hx (by unfold maxLen; omega) hlen hbase ?_
  intro v' w' h2 h3 _
  refine h v' w' ?_ ((Below.refl _ _).grown h3 hbase (fun k hk => (hown.lt k hk).1))
  have e : l.length + s.size = (l ++ s.data.toList).length := by rw [List.length_append]; rfl
  rw [e, bs_str, ← bs_append] at h2
  exact h2
end
end Go.Proofs.YtdllppaichlnaaaDoor
namespace Go.Proofs.YtdllppaichlnaaaDoor
open Go.RowKit

theorem own_one (W : World) (B : Nat) (hB : B ≤ W.heap.size) (n : Int) (h0 : 0 ≤ n) (h1 : n < 256) : Own (W.alloc (.cells #[.int .u8 n] 5)) B (.slice (some ⟨W.heap.size, 0, none⟩) 1 1) [b8 n] :=
  ⟨rfl, .inr ⟨W.heap.size, 1, #[.int .u8 n], rfl, hB, heap_alloc_new W _, Nat.le_refl _, by unfold maxLen; decide, rfl, by simp [bs, b8_toNat h0 h1]⟩⟩
theorem own_two (W : World) (B : Nat) (hB : B ≤ W.heap.size) (n m : Int) (h0 : 0 ≤ n) (h1 : n < 256) (h2 : 0 ≤ m) (h3 : m < 256) : Own (W.alloc (.cells #[.int .u8 n, .int .u8 m] 5)) B (.slice (some ⟨W.heap.size, 0, none⟩) 2 2) [b8 n, b8 m] :=
  ⟨rfl, .inr ⟨W.heap.size, 2, #[.int .u8 n, .int .u8 m], rfl, hB, heap_alloc_new W _, Nat.le_refl _, by unfold maxLen; decide, rfl, by simp [bs, b8_toNat h0 h1, b8_toNat h2 h3]⟩⟩
theorem own_three (W : World) (B : Nat) (hB : B ≤ W.heap.size) (n m k : Int) (h0 : 0 ≤ n) (h1 : n < 256) (h2 : 0 ≤ m) (h3 : m < 256) (h4 : 0 ≤ k) (h5 : k < 256) : Own (W.alloc (.cells #[.int .u8 n, .int .u8 m, .int .u8 k] 5)) B (.slice (some ⟨W.heap.size, 0, none⟩) 3 3) [b8 n, b8 m, b8 k] :=
  ⟨rfl, .inr ⟨W.heap.size, 3, #[.int .u8 n, .int .u8 m, .int .u8 k], rfl, hB, heap_alloc_new W _, Nat.le_refl _, by unfold maxLen; decide, rfl, by simp [bs, b8_toNat h0 h1, b8_toNat h2 h3, b8_toNat h4 h5]⟩⟩
theorem ta_int (n : Int) (W : World) : (Instr.typeAssert (.iface 2 (.int .i64 n)) 20 2 true).run Tryd.prog W = .ok (.tuple #[.int .i64 n, .bool true]) W := by kernel_rfl
theorem ta_str (s : ByteArray) (W : World) : (Instr.typeAssert (.iface 9 (.string s)) 20 9 true).run Tryd.prog W = .ok (.tuple #[.string s, .bool true]) W := by kernel_rfl
theorem ta_bool (b : Bool) (W : World) : (Instr.typeAssert (.iface 4 (.bool b)) 20 4 true).run Tryd.prog W = .ok (.tuple #[.bool b, .bool true]) W := by kernel_rfl
theorem ta_str_int (s : ByteArray) (W : World) : (Instr.typeAssert (.iface 9 (.string s)) 20 2 true).run Tryd.prog W = .ok (.tuple #[.int .i64 0, .bool false]) W := by kernel_rfl
theorem ta_str_bool (s : ByteArray) (W : World) : (Instr.typeAssert (.iface 9 (.string s)) 20 4 true).run Tryd.prog W = .ok (.tuple #[.bool false, .bool false]) W := by kernel_rfl
theorem ta_bool_int (b : Bool) (W : World) : (Instr.typeAssert (.iface 4 (.bool b)) 20 2 true).run Tryd.prog W = .ok (.tuple #[.int .i64 0, .bool false]) W := by kernel_rfl
theorem ta_bool_str (b : Bool) (W : World) : (Instr.typeAssert (.iface 4 (.bool b)) 20 9 true).run Tryd.prog W = .ok (.tuple #[.string ⟨#[]⟩, .bool false]) W := by kernel_rfl
theorem ta_int_str (n : Int) (W : World) : (Instr.typeAssert (.iface 2 (.int .i64 n)) 20 9 true).run Tryd.prog W = .ok (.tuple #[.string ⟨#[]⟩, .bool false]) W := by kernel_rfl
theorem ta_int_bool (n : Int) (W : World) : (Instr.typeAssert (.iface 2 (.int .i64 n)) 20 4 true).run Tryd.prog W = .ok (.tuple #[.bool false, .bool false]) W := by kernel_rfl
theorem Ext.below {w0 w w' : World} {B : Nat} (hx : Ext w0 w) (hB : w0.heap.size ≤ B) (hb : Below B w w') : Ext w0 w' := Below.trans hx (hb.mono hB)
end Go.Proofs.YtdllppaichlnaaaDoor
namespace Go.Proofs.YtdllppaichlnaaaDoor
open Go.RowKit

/-- A value: kind, number, text. -/
abbrev Vl := Int × Int × ByteArray
def rowV (x : Vl) : List UInt8 := if x.1 = 1 then 1 :: ord64 x.2.1 else if x.1 = 2 then 2 :: b8 (x.2.2.size : Int) :: x.2.2.data.toList else if x.1 = 3 then [3, if (x.2.1 == 1) = true then 1 else 0] else [0]
structure VlIn (x : Vl) : Prop where
  k : 0 ≤ x.1 ∧ x.1 < 256
  n : -9223372036854775808 ≤ x.2.1 ∧ x.2.1 < 9223372036854775808
  s : x.2.2.size ≤ 9223372036854775807
/-- The slice at A reads as these values. -/
def RdV (w : World) (A : Option Addr) (L : List Vl) : Prop :=
  L ≠ [] → ∃ b off, A = some ⟨b, off, none⟩ ∧ ∀ j x, L[j]? = some x → w.cell? ⟨b, off + j * 3, none⟩ = some (.int .u8 x.1) ∧ w.cell? ⟨b, off + j * 3 + 1, none⟩ = some (.int .i64 x.2.1) ∧ w.cell? ⟨b, off + j * 3 + 2, none⟩ = some (.string x.2.2)
theorem RdV.ext {w w' : World} {A : Option Addr} {L : List Vl} (h : RdV w A L) (hx : Ext w w') : RdV w' A L := fun hn => by
  obtain ⟨b, off, hA, hc⟩ := h hn
  exact ⟨b, off, hA, fun j d hj => ⟨hx.keeps.cell (hc j d hj).1, hx.keeps.cell (hc j d hj).2.1, hx.keeps.cell (hc j d hj).2.2⟩⟩
def rowsV (L : List Vl) : List UInt8 := L.flatMap rowV
theorem worldOf {w W : World} (_ : Hid (Ext w W)) : ∃ wr, wr = W := ⟨W, rfl⟩
def EncP (w : World) (x : Int × Option (List UInt8)) (e : Ending) (w' : World) : Prop := Ext w w' ∧ match x.2 with
  | none => e = .returned (.tuple #[.slice none 0 0, .int .i64 x.1])
  | some l => ∃ v, e = .returned (.tuple #[v, .int .i64 0]) ∧ Own w' w.heap.size v l
end Go.Proofs.YtdllppaichlnaaaDoor
namespace Go.Proofs.YtdllppaichlnaaaDoor
open Go.RowKit

theorem run_make_room (c : Nat) (hc : c ≤ 281474976710656) (W : World) : (Instr.makeSlice 37 (.int .i64 0) (.int .i64 (c : Int))).run Tryd.prog W =
    .ok (.slice (some ⟨W.heap.size, 0, none⟩) 0 c) (W.alloc (.cells (madeCells #[.int .u8 0] c) 5)) := by
  obtain ⟨i0, hi, hz0, hz1, hz2⟩ := info_parts info_u8
  have h := run_make (P := Tryd.prog) W 37 5 i0 (.int .u8 0) Tryd.underlying37 hi hz0 .i64 .i64 0 (c : Int) (by omega) (by omega) (by rw [hz2]; omega) (by omega)
  simpa [hz1, Value.cells] using h
theorem Own.room (W : World) (base c : Nat) (hb : base ≤ W.heap.size) (hc : c ≤ 281474976710656) : Own (W.alloc (.cells (madeCells #[.int .u8 0] c) 5)) base (.slice (some ⟨W.heap.size, 0, none⟩) 0 c) [] :=
  World.ownsRow_made W _ c hb (by unfold maxLen; omega) (by simp [madeCells])
end Go.Proofs.YtdllppaichlnaaaDoor
