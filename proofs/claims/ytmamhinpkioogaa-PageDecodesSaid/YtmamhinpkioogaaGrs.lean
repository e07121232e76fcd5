/-
  A region that draws its order, one of whose operations writes into a block of the call's own, that is none of what the others' facts speak of; it need not be the last.
-/
import Derived.Test.YtmamhinpkioogaaGrowL
namespace Go.Proofs.Ytmamhinpkioogaa
open Go.RowKit

/-- Below B nothing has turned; from there on each block but one is as it was. -/
def Alt (B hb : Nat) (w w' : World) : Prop := Below B w w' ∧ w.heap.size ≤ w'.heap.size ∧ ∀ j, j ≠ hb → j < w.heap.size → w'.heap[j]? = w.heap[j]?
theorem Alt.refl (B hb : Nat) (w : World) : Alt B hb w w := ⟨Below.refl _ _, Nat.le_refl _, fun _ _ _ => rfl⟩
theorem Alt.trans {B hb : Nat} {a b c : World} (h : Alt B hb a b) (k : Alt B hb b c) : Alt B hb a c := ⟨h.1.trans k.1, Nat.le_trans h.2.1 k.2.1, fun j hj hl => by rw [k.2.2 j hj (Nat.lt_of_lt_of_le hl h.2.1), h.2.2 j hj hl]⟩
theorem Alt.of_ext {B hb : Nat} {w w' : World} (h : Ext w w') (hB : B ≤ w.heap.size) : Alt B hb w w' := ⟨Below.mono h hB, h.size, fun j _ hl => Below.block h j hl⟩
theorem Alt.drewn (B hb : Nat) (w : World) (n : Nat) : Alt B hb w { w with drawn := n } := ⟨⟨rfl, rfl, rfl, Nat.le_refl _, fun _ _ => rfl⟩, Nat.le_refl _, fun _ _ _ => rfl⟩
theorem Alt.cell {B hb : Nat} {w w' : World} (h : Alt B hb w w') {p : Addr} {v : Value} (hp : p.block ≠ hb) (hc : w.cell? p = some v) : w'.cell? p = some v := by
  have hlt : p.block < w.heap.size := by
    rcases Nat.lt_or_ge p.block w.heap.size with h1 | h1
    · exact h1
    · unfold World.cell? at hc; rw [Array.getElem?_eq_none h1] at hc; cases hc
  unfold World.cell? at hc ⊢
  rw [h.2.2 p.block hp hlt]
  exact hc

section
variable {P : Program} {ops : Array Oper} {Q : Exit → Act → World → Prop} {S : Nat → World → Value → Prop} {a0 : Act} {w0 : World} {B hb k : Nat} {F : World → Prop}
structure RInvS (B hb k : Nat) (F : World → Prop) (ops : Array Oper) (S : Nat → World → Value → Prop) (a0 : Act) (w0 : World) (listed : Array Bool) (a : Act) (w : World) : Prop where
  size : listed.size = ops.size
  ext : Alt B hb w0 w
  before : listed[k]? = some false → Ext w0 w
  behind : listed[k]? = some true → F w
  defers : a.defers = a0.defers
  tmps : a.tmps.size = a0.tmps.size
  closed : ∀ (i : Nat) (o : Oper), ops[i]? = some o → listed[i]? = some true → ∀ e ∈ o.after, Region.binds .any e = true → listed[e.on]? = some true
  vals : ∀ (i : Nat) (o : Oper) (d : Nat), ops[i]? = some o → listed[i]? = some true → o.dst = some d → ∃ v, a.tmps[d]? = some v ∧ S i w v
  same : ∀ t, (∀ (i : Nat) (o : Oper), ops[i]? = some o → o.dst = some t → listed[i]? = some false) → a.tmps[t]? = a0.tmps[t]?
/-- What one operation owes. -/
def StepOkS (B hb k : Nat) (F : World → Prop) (P : Program) (ops : Array Oper) (S : Nat → World → Value → Prop) (a0 : Act) (w0 : World) (i : Nat) (o : Oper) : Prop :=
  ∀ (a : Act) (w : World), Alt B hb w0 w → (i = k → Ext w0 w) → a.defers = a0.defers → (∀ t, keepsB ops i t = true → a.tmps[t]? = a0.tmps[t]?) →
    (∀ e ∈ o.after, Region.binds .any e = true → ∀ (o' : Oper), ops[e.on]? = some o' → ∀ (d : Nat), o'.dst = some d → ∃ v, a.tmps[d]? = some v ∧ S e.on w v) →
    (Region.wanted o (yielded ops a.tmps) = true ∧ gives P o a w fun v w' => (i ≠ k → Ext w w' ∧ S i w' v) ∧ (i = k → Alt B hb w w' ∧ F w')) ∨ (i ≠ k ∧ Region.wanted o (yielded ops a.tmps) = false ∧ S i w undef)
theorem wpAny_growS (hB : B ≤ w0.heap.size) (hkd : ∀ o, ops[k]? = some o → o.dst = none) (hF : ∀ w w', F w → Ext w w' → F w') (hok : regOk ops a0.tmps.size = true) (hup : ∀ i w w' v, S i w v → Alt B hb w w' → S i w' v)
    (hstep : ∀ (i : Nat) (o : Oper), ops[i]? = some o → StepOkS B hb k F P ops S a0 w0 i o)
    (hkl : k < ops.size) (hend : ∀ (a : Act) (w : World), Alt B hb w0 w → F w → a.defers = a0.defers → a.tmps.size = a0.tmps.size → (∀ (i : Nat) (o : Oper) (d : Nat), ops[i]? = some o → o.dst = some d → ∃ v, a.tmps[d]? = some v ∧ S i w v) →
      (∀ t, (∀ (i : Nat) (o : Oper), ops[i]? = some o → o.dst ≠ some t) → a.tmps[t]? = a0.tmps[t]?) → Q .normal a w) :
    ∀ (fuel : Nat) (listed : Array Bool) (a : Act) (w : World), RInvS B hb k F ops S a0 w0 listed a w → listed.toList.count true + fuel = ops.size → wpAny P .any ops Q fuel listed a w := by
  have getb : ∀ (l : Array Bool) (i : Nat) (b : Bool), l.getD i b = (l[i]?).getD b := fun l i b => by simp
  have allTrue : ∀ (l : Array Bool), l.toList.count true = l.size → ∀ i, i < l.size → l[i]? = some true := fun l h i hi => by
    have : ∀ x ∈ l.toList, true = x := by
      rw [← List.count_eq_length]; simpa using h
    rw [Array.getElem?_eq_getElem hi]
    congr 1
    exact (this _ (by simp)).symm
  have fin : ∀ (listed : Array Bool) (a : Act) (w : World), RInvS B hb k F ops S a0 w0 listed a w → (∀ i, i < ops.size → listed[i]? = some true) → Q .normal a w := by
    intro listed a w I h
    have hlt : ∀ {i : Nat} {o : Oper}, ops[i]? = some o → i < ops.size := fun {i o} ho => by
      rcases Nat.lt_or_ge i ops.size with hlt | hge
      · exact hlt
      · rw [Array.getElem?_eq_none hge] at ho; cases ho
    exact hend a w I.ext (I.behind (h k hkl)) I.defers I.tmps (fun i o d ho hd => I.vals i o d ho (h i (hlt ho)) hd) (fun t ht => I.same t fun i o ho hd => absurd hd (ht i o ho))
  have step : ∀ (listed : Array Bool) (a : Act) (w : World) (i : Nat) (K : Act → World → Prop), RInvS B hb k F ops S a0 w0 listed a w → i ∈ Region.ready .any ops listed →
      (∀ a' w', RInvS B hb k F ops S a0 w0 (listed.setIfInBounds i true) a' w' → K a' w') → wpOp P ops Q i K a w := by
    intro listed a w i K I hr hK
    obtain ⟨hun, o, ho, hall⟩ := mem_ready.1 hr
    have hi : i < listed.size := by
      rw [I.size]
      rcases Nat.lt_or_ge i ops.size with hlt | hge
      · exact hlt
      · rw [Array.getElem?_eq_none hge] at ho; cases ho
    have hfalse : listed[i]? = some false := by
      rw [getb, Array.getElem?_eq_getElem hi] at hun
      rw [Array.getElem?_eq_getElem hi]; simpa using hun
    have hpre : ∀ e ∈ o.after, Region.binds .any e = true → listed[e.on]? = some true := fun e he hb => by
      have h1 := hall e he hb
      rw [getb] at h1
      cases h2 : listed[e.on]? with
      | none => rw [h2] at h1; simp at h1
      | some b => rw [h2] at h1; simp at h1; rw [h1]
    have hset : ∀ (k : Nat), (listed.setIfInBounds i true)[k]? = if i = k then some true else listed[k]? := fun k => by
      rw [Array.getElem?_setIfInBounds]
      by_cases h : i = k
      · subst h; simp [hi]
      · simp [h]
    have next : ∀ v w', (i ≠ k → Ext w w') → (i = k → F w') → Alt B hb w w' → (i ≠ k → S i w' v) → RInvS B hb k F ops S a0 w0 (listed.setIfInBounds i true) (a.put o.dst v) w' := by
      intro v w' hx1 hx2 hx hS
      refine ⟨by simpa using I.size, I.ext.trans hx, ?_, ?_, ?_, ?_, ?_, ?_, ?_⟩
      · intro hl
        rw [hset] at hl
        split at hl
        · cases hl
        · rename_i hik
          exact (I.before hl).trans (hx1 hik)
      · intro hl
        rw [hset] at hl
        split at hl
        · rename_i hik
          exact hx2 hik
        · rename_i hik
          exact hF _ _ (I.behind hl) (hx1 hik)
      · cases hd : o.dst <;> simpa [Act.put] using I.defers
      · cases hd : o.dst <;> simpa [Act.put] using I.tmps
      · intro k' ok hk hl e he hb'
        rw [hset] at hl ⊢
        by_cases hki : i = k'
        · subst hki
          rw [ho] at hk; cases hk
          split
          · rfl
          · exact hpre e he hb'
        · rw [if_neg hki] at hl
          split
          · rfl
          · exact I.closed k' ok hk hl e he hb'
      · intro k' ok d hk hl hd
        rw [hset] at hl
        by_cases hki : i = k'
        · subst hki
          rw [ho] at hk; cases hk
          refine ⟨v, ?_, hS (fun e => by subst e; rw [hkd o ho] at hd; cases hd)⟩
          rw [hd]
          have := regOk_lt hok ho hd
          simp only [Act.put, Array.getElem?_setIfInBounds]
          simp [I.tmps, this]
        · rw [if_neg hki] at hl
          obtain ⟨u, hu, hSu⟩ := I.vals k' ok d hk hl hd
          refine ⟨u, ?_, hup _ _ _ _ hSu hx⟩
          cases hod : o.dst with
          | none => simpa [Act.put] using hu
          | some d' =>
            have hne : d' ≠ d := fun e => hki (regOk_one hok ho hk (by rw [hod, e]) hd)
            simp only [Act.put, Array.getElem?_setIfInBounds_ne hne]
            exact hu
      · intro t ht
        have hit : o.dst ≠ some t := fun hd => by
          have := ht i o ho hd
          rw [hset, if_pos rfl] at this; cases this
        have := I.same t fun k ok hk hd => by
          have h2 := ht k ok hk hd
          rw [hset] at h2
          split at h2
          · cases h2
          · exact h2
        rw [← this]
        cases hod : o.dst with
        | none => rfl
        | some d' =>
          have hne : d' ≠ t := fun e => hit (by rw [hod, e])
          simp only [Act.put, Array.getElem?_setIfInBounds_ne hne]
    have hs := hstep i o ho a w I.ext (fun e => by subst e; exact I.before hfalse) I.defers ?_ ?_
    · unfold wpOp
      simp only [ho]
      rcases hs with ⟨hw, hg⟩ | ⟨hik, hw, hS⟩
      · rw [if_pos hw]
        exact .inl (wp_of_gives hg fun v w' h => hK _ _ (next v w' (fun e => (h.1 e).1) (fun e => (h.2 e).2) (by
          by_cases e : i = k
          · exact (h.2 e).1
          · exact Alt.of_ext (h.1 e).1 (Nat.le_trans hB I.ext.2.1)) (fun e => (h.1 e).2)))
      · rw [if_neg (by rw [hw]; exact Bool.false_ne_true)]
        exact hK _ _ (next _ _ (fun _ => Ext.refl _) (fun e => absurd e hik) (Alt.refl _ _ _) (fun _ => hS))
    · intro t ht
      refine I.same t fun k ok hk hd => ?_
      simp only [keepsB, List.all_eq_true] at ht
      have hm : ok ∈ ops.toList := by simpa using Array.mem_of_getElem? hk
      have := ht ok hm
      simp only [hd, bne_self_eq_false, Bool.false_or, List.any_eq_true, Array.mem_toList_iff] at this
      obtain ⟨e, he, hb⟩ := this
      simp only [Bool.and_eq_true, beq_iff_eq] at hb
      have hkl : k < listed.size := by
        rw [I.size]
        rcases Nat.lt_or_ge k ops.size with hlt | hge
        · exact hlt
        · rw [Array.getElem?_eq_none hge] at hk; cases hk
      cases hv : listed[k]? with
      | none => rw [Array.getElem?_eq_getElem hkl] at hv; cases hv
      | some b =>
        cases b with
        | false => rfl
        | true =>
          have := I.closed k ok hk hv e he hb.2
          rw [hb.1, hfalse] at this; cases this
    · intro e he hb o' ho' d hd
      exact I.vals e.on o' d ho' (hpre e he hb) hd
  have full : ∀ (listed : Array Bool) (a : Act) (w : World), RInvS B hb k F ops S a0 w0 listed a w → Region.ready .any ops listed = [] → ∀ i, i < ops.size → listed[i]? = some true := by
    intro listed a w I hr i
    induction i using Nat.strongRecOn with
    | ind i ih =>
      intro hi
      cases hv : listed[i]? with
      | none => rw [Array.getElem?_eq_none_iff, I.size] at hv; omega
      | some b =>
        cases b with
        | true => rfl
        | false =>
          exfalso
          have hmem : i ∈ Region.ready .any ops listed := by
            refine mem_ready.2 ⟨by rw [getb, hv]; rfl, ops[i], Array.getElem?_eq_getElem hi, fun e he hb => ?_⟩
            have hlt := regOk_back hok (Array.getElem?_eq_getElem hi) he hb
            rw [getb, ih e.on hlt (by omega)]; rfl
          rw [hr] at hmem; cases hmem
  intro fuel
  induction fuel with
  | zero =>
    intro listed a w I hc
    have hall := allTrue listed (by rw [I.size]; omega)
    rw [I.size] at hall
    refine ⟨?_, fin listed a w I hall⟩
    cases hr : Region.ready .any ops listed with
    | nil => rfl
    | cons i rest =>
      exfalso
      have hm : i ∈ Region.ready .any ops listed := by rw [hr]; simp
      obtain ⟨hun, o, ho, _⟩ := mem_ready.1 hm
      have hlt : i < ops.size := by
        rcases Nat.lt_or_ge i ops.size with hlt | hge
        · exact hlt
        · rw [Array.getElem?_eq_none hge] at ho; cases ho
      rw [getb, hall i hlt] at hun; cases hun
  | succ fuel ih =>
    intro listed a w I hc
    refine ⟨fun hr => fin listed a w I (full listed a w I hr), fun i hi => step listed a w i _ I hi fun a' w' I' => ih _ a' w' I' ?_⟩
    obtain ⟨hun, o, ho, _⟩ := mem_ready.1 hi
    have hlt : i < listed.size := by
      rw [I.size]
      rcases Nat.lt_or_ge i ops.size with hlt | hge
      · exact hlt
      · rw [Array.getElem?_eq_none hge] at ho; cases ho
    rw [count_set (by rw [getb, Array.getElem?_eq_getElem hlt] at hun; rw [Array.getElem?_eq_getElem hlt]; simpa using hun)]
    omega

end

/-- A fact of a world and a value that lasts while no block but hb is written. -/
structure SpS (B hb : Nat) where
  p : World → Value → Prop
  up : ∀ w w' v, p w v → Alt B hb w w' → p w' v
def SpS.any {B hb : Nat} : SpS B hb := ⟨fun _ _ => True, fun _ _ _ _ _ => trivial⟩
def SpS.is {B hb : Nat} (x : Value) : SpS B hb := ⟨fun _ v => v = x, fun _ _ _ h _ => h⟩
/-- What one operation owes, in the form in which it is paid. -/
def PaysS (B hb : Nat) (P : Program) (ops : Array Oper) (L : List (SpS B hb)) (a0 : Act) (w0 : World) (i : Nat) (o : Oper) : Prop :=
  ∀ (a : Act) (w : World), Alt B hb w0 w → (∀ t, keepsB ops i t = true → a.tmps[t]? = a0.tmps[t]?) →
    (∀ j, (o.after.toList.any fun e => e.on == j && Region.binds .any e) = true → ∀ (o' : Oper), ops[j]? = some o' → ∀ (d : Nat), o'.dst = some d → ∃ v, a.tmps[d]? = some v ∧ (L.getD j SpS.any).p w v) →
    (Region.wanted o (yielded ops a.tmps) = true ∧ gives P o a w fun v w' => Ext w w' ∧ (L.getD i SpS.any).p w' v) ∨ (Region.wanted o (yielded ops a.tmps) = false ∧ (L.getD i SpS.any).p w undef)
/-- THE REGION; the operation at place k writes. -/
theorem wp_region_spS {B : Nat} {P : Program} {ops : List Oper} {Q : Exit → Act → World → Prop} {a0 : Act} {w0 : World} {id : Nat} (hb k : Nat) (F : World → Prop) (L : List (SpS B hb)) (ok : Oper) (hko : ops.toArray[k]? = some ok) (hkd : ok.dst = none) (hB : B ≤ w0.heap.size) (hF : ∀ w w', F w → Ext w w' → F w') (hm : P.follows .mixedOrders = true) (hok : regOk ops.toArray a0.tmps.size = true)
    (hstep : PaysFrom (fun i o => i = k ∨ PaysS B hb P ops.toArray L a0 w0 i o) 0 ops)
    (hlast : ∀ (a : Act) (w : World), Ext w0 w → (∀ t, keepsB ops.toArray k t = true → a.tmps[t]? = a0.tmps[t]?) →
      (∀ j, (ok.after.toList.any fun e => e.on == j && Region.binds .any e) = true → ∀ (o' : Oper), ops.toArray[j]? = some o' → ∀ (d : Nat), o'.dst = some d → ∃ v, a.tmps[d]? = some v ∧ (L.getD j SpS.any).p w v) →
      Region.wanted ok (yielded ops.toArray a.tmps) = true ∧ gives P ok a w fun _ w' => Alt B hb w w' ∧ F w')
    (hend : ∀ (a : Act) (w : World), Alt B hb w0 w → F w → a.defers = a0.defers → a.tmps.size = a0.tmps.size → (∀ (i : Nat) (o : Oper) (d : Nat), ops.toArray[i]? = some o → o.dst = some d → ∃ v, a.tmps[d]? = some v ∧ (L.getD i SpS.any).p w v) →
      (∀ t, (∀ (i : Nat) (o : Oper), ops.toArray[i]? = some o → o.dst ≠ some t) → a.tmps[t]? = a0.tmps[t]?) → Q .normal a w) :
    (Code.region id ops.toArray true).wp P Q a0 w0 := by
  have conv : ∀ {o : Oper} {a : Act} {w : World}, (∀ e ∈ o.after, Region.binds .any e = true → ∀ (o' : Oper), ops.toArray[e.on]? = some o' → ∀ (d : Nat), o'.dst = some d → ∃ v, a.tmps[d]? = some v ∧ (L.getD e.on SpS.any).p w v) →
      (∀ j, (o.after.toList.any fun e => e.on == j && Region.binds .any e) = true → ∀ (o' : Oper), ops.toArray[j]? = some o' → ∀ (d : Nat), o'.dst = some d → ∃ v, a.tmps[d]? = some v ∧ (L.getD j SpS.any).p w v) := fun {o a w} H j hj o' ho' d hd' => by
    simp only [List.any_eq_true, Array.mem_toList_iff] at hj
    obtain ⟨e, he, hb⟩ := hj
    simp only [Bool.and_eq_true, beq_iff_eq] at hb
    obtain ⟨rfl, hb⟩ := hb
    exact H e he hb o' ho' d hd'
  have hkl : k < ops.toArray.size := by
    rcases Nat.lt_or_ge k ops.toArray.size with h1 | h1
    · exact h1
    · rw [Array.getElem?_eq_none h1] at hko; cases hko
  refine wp_region_any hm (wpAny_growS (S := fun i => (L.getD i SpS.any).p) (k := k) (hb := hb) (B := B) (F := F) hB (fun o ho => by rw [hko] at ho; cases ho; exact hkd) hF hok (fun i w w' v h hx => (L.getD i SpS.any).up w w' v h hx) ?_ hkl hend ops.toArray.size _ a0 _ ?_ ?_)
  · intro i o ho a w hx hx2 hd hkp H
    by_cases e : i = k
    · subst e
      rw [hko] at ho
      cases ho
      obtain ⟨h1, h2⟩ := hlast a w (hx2 rfl) hkp (conv H)
      exact .inl ⟨h1, gives_mono h2 fun v w' h => ⟨fun n => absurd rfl n, fun _ => h⟩⟩
    · have h := paysFrom_all ops 0 hstep i o (by simpa using ho)
      rw [Nat.zero_add] at h
      rcases h with h | h
      · exact absurd h e
      · rcases h a w hx hkp (conv H) with ⟨h1, h2⟩ | ⟨h1, h2⟩
        · exact .inl ⟨h1, gives_mono h2 fun v w' h => ⟨fun _ => h, fun n => absurd n e⟩⟩
        · exact .inr ⟨e, h1, h2⟩
  · refine ⟨by simp, Alt.drewn _ _ _ _, fun _ => Ext.drewn _ _, ?_, rfl, rfl, ?_, ?_, fun _ _ => rfl⟩
    · intro hl
      rw [Array.getElem?_replicate] at hl
      split at hl <;> simp at hl
    · intro i o ho hl
      rw [Array.getElem?_replicate] at hl
      split at hl <;> simp at hl
    · intro i o d ho hl
      rw [Array.getElem?_replicate] at hl
      split at hl <;> simp at hl
  · have : (Array.replicate ops.toArray.size false).toList.count true = 0 := by simp [List.count_replicate]
    omega
end Go.Proofs.Ytmamhinpkioogaa
