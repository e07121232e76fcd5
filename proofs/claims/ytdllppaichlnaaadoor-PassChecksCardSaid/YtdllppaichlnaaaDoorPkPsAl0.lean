/-
  A region that draws its order, each of whose operations, in every world that extends the one it began in, yields a value
  of which a world-growing fact holds: whatever the order, the facts of all hold at the end. General: it speaks of no program text.
  Slices of bytes that read as a list; what single operations give in a region that draws its order.
  A slice of bytes that the call itself makes: append in all its forms as one law.
  From a walk of a law to its row and its card: what is the same for all laws of this seat.
  SHA-256 as plain functions over lists of numbers below 2^32. No program is spoken of.
  Turning words, choice, majority: contracts.
  A block of bytes that the call itself made and writes into in place.
  More of what single operations give in a region that draws its order.
  A block of cells that the call itself made: read and written whole and cell by cell; words in such a block.
  The words that each round takes: schedule's contract.
-/
import Derived.Test.YtdllppaichlnaaaDoorProg
import Derived.WalkKit
import Derived.WalkSpells
import Derived.Handy
import Derived.Laws.IdiomStrings
import Derived.ProofKit
import Derived.OpenShut
import Derived.Test.YtdllppaichlnaaaDoorCards
import Derived.Test.YtdllppaichlnaaaDoorTie
import Derived.Deep.DeepHandedRow
import Derived.Lib.LaidTab
import Derived.SizedLaws
import Derived.Laws.BitsAllLaws
import Derived.Laws.CopyOwn
import Derived.WalkLawsBesides
import Derived.Deep.WholeRow
import Derived.Deep.QuietTactic
import Derived.BigQuiet
import Derived.BigRegion
set_option linter.unusedVariables false
set_option linter.unusedSimpArgs false

namespace Go.Proofs.YtdllppaichlnaaaDoor
open Go.RowKit

/-- The second world is the first with more: the blocks that were there are as they were. -/
def Ext (w w' : World) : Prop := Below w.heap.size w w'
theorem Ext.refl (w : World) : Ext w w := Below.refl _ _
theorem Ext.trans {a b c : World} (h : Ext a b) (k : Ext b c) : Ext a c := Below.trans h (Below.mono k h.size)
theorem Ext.drewn (w : World) (n : Nat) : Ext w { w with drawn := n } := ⟨rfl, rfl, rfl, Nat.le_refl _, fun _ _ => rfl⟩
theorem Ext.of_eq {w w' : World} (h : w' = w) : Ext w w' := by subst h; exact Ext.refl _
theorem Ext.size {w w' : World} (h : Ext w w') : w.heap.size ≤ w'.heap.size := Below.size h
theorem Ext.alloc (w : World) (o : Obj) : Ext w (w.alloc o) := (Below.refl _ _).alloc (Nat.le_refl _) _
theorem Ext.drew (w : World) : Ext w w.drew := (Below.refl _ _).drew

/-- Blocks stay as they are, but that a block of cells may be marked. -/
def Keeps (w w' : World) : Prop := ∀ (k : Nat) (o : Obj), w.heap[k]? = some o → w'.heap[k]? = some o ∨ ∃ c e fr fr', o = Obj.cells c e fr ∧ w'.heap[k]? = some (Obj.cells c e fr')
theorem Keeps.refl (w : World) : Keeps w w := fun _ _ h => .inl h
theorem Keeps.trans {a b c : World} (h : Keeps a b) (k : Keeps b c) : Keeps a c := fun i o ho => by
  rcases h i o ho with h1 | ⟨cs, e, fr, fr', rfl, h1⟩
  · exact k i o h1
  · rcases k i _ h1 with h2 | ⟨cs', e', f1, f2, h3, h2⟩
    · exact .inr ⟨cs, e, fr, fr', rfl, h2⟩
    · injection h3 with h4 h5 h6
      subst h4 h5
      exact .inr ⟨cs, e, fr, f2, rfl, h2⟩
theorem Keeps.cells {w w' : World} (h : Keeps w w') {k : Nat} {c : Array Value} {e : TypeId} {fr : Nat × Nat} (hk : w.heap[k]? = some (.cells c e fr)) : ∃ fr', w'.heap[k]? = some (.cells c e fr') := by
  rcases h k _ hk with h1 | ⟨cs, e', f1, f2, h3, h2⟩
  · exact ⟨fr, h1⟩
  · injection h3 with h4 h5 h6
    subst h4 h5
    exact ⟨f2, h2⟩
theorem Keeps.cell {w w' : World} (h : Keeps w w') {p : Addr} {v : Value} (hc : w.cell? p = some v) : w'.cell? p = some v := by
  unfold World.cell? at hc ⊢
  cases hb : w.heap[p.block]? with
  | none => rw [hb] at hc; cases hc
  | some o =>
    rw [hb] at hc
    cases o <;> simp only [] at hc
    case cells c e fr =>
      obtain ⟨fr', h'⟩ := h.cells hb
      rw [h']
      exact hc
    all_goals cases hc
theorem Ext.keeps {w w' : World} (h : Ext w w') : Keeps w w' := fun k o ho => .inl (by
  have hlt : k < w.heap.size := by
    rcases Nat.lt_or_ge k w.heap.size with h1 | h1
    · exact h1
    · rw [Array.getElem?_eq_none h1] at ho; cases ho
  rw [Below.block h k hlt]; exact ho)
/-- Below B nothing has turned; from there on blocks stay, but for marks. -/
structure Grw (B : Nat) (w w' : World) : Prop where
  below : Below B w w'
  keeps : Keeps w w'
theorem Grw.refl (B : Nat) (w : World) : Grw B w w := ⟨Below.refl _ _, Keeps.refl _⟩
theorem Grw.trans {B : Nat} {a b c : World} (h : Grw B a b) (k : Grw B b c) : Grw B a c := ⟨h.below.trans k.below, h.keeps.trans k.keeps⟩
theorem Grw.size {B : Nat} {w w' : World} (h : Grw B w w') : w.heap.size ≤ w'.heap.size := h.below.size
theorem Grw.of_ext {B : Nat} {w w' : World} (h : Ext w w') (hB : B ≤ w.heap.size) : Grw B w w' := ⟨Below.mono h hB, h.keeps⟩
theorem Grw.drewn (B : Nat) (w : World) (n : Nat) : Grw B w { w with drawn := n } := ⟨⟨rfl, rfl, rfl, Nat.le_refl _, fun _ _ => rfl⟩, fun _ _ h => .inl h⟩
theorem Grw.alloc {B : Nat} {w : World} (hB : B ≤ w.heap.size) (o : Obj) : Grw B w (w.alloc o) := Grw.of_ext (Ext.alloc w o) hB
theorem Ext.grw {w w0 w' : World} (h : Ext w w0) (g : Grw w.heap.size w0 w') : Ext w w' := Below.trans h g.below

/-- Operation o, run in frame a and world w, yields a value and a world of which R holds. -/
def gives (P : Program) (o : Oper) (a : Act) (w : World) (R : Value → World → Prop) : Prop :=
  match (execOp a.eval o).run P w with
  | .ok (.value v) w' => R v w'
  | .ok .skip w' => R undef w'
  | .ok (.enter f args) w' => Calls P f args w' fun e w'' => ∃ v, e = .returned v ∧ R v w''
  | _ => False

theorem gives_mono {P : Program} {o : Oper} {a : Act} {w : World} {R R' : Value → World → Prop} (h : gives P o a w R) (hr : ∀ v w', R v w' → R' v w') : gives P o a w R' := by
  unfold gives at *
  generalize (execOp a.eval o).run P w = r at *
  cases r with
  | ok n w' =>
    cases n <;> simp only [] at h ⊢
    case value v => exact hr _ _ h
    case skip => exact hr _ _ h
    case enter f args => exact h.mono fun e w'' ⟨v, he, hv⟩ => ⟨v, he, hr _ _ hv⟩
  | halt x w' => exact h

theorem wp_of_gives {P : Program} {o : Oper} {a : Act} {w : World} {R : Value → World → Prop} {K : Act → World → Prop} {Q : Exit → Act → World → Prop}
    (h : gives P o a w R) (hK : ∀ v w', R v w' → K (a.put o.dst v) w') : o.wp P a w K Q := by
  unfold gives at h
  unfold Oper.wp
  generalize (execOp a.eval o).run P w = r at *
  cases r with
  | ok n w' =>
    cases n <;> simp only [] at h <;> simp only [Oper.upon]
    case value v => exact hK _ _ h
    case skip => exact hK _ _ h
    case enter f args => exact h.mono fun e w'' ⟨v, he, hv⟩ => by subst he; exact hK _ _ hv
  | halt x w' => exact h.elim

/-- Each writer of slot t waits, directly, for operation i (or there is none). -/
def keepsB (ops : Array Oper) (i t : Nat) : Bool :=
  ops.toList.all fun o => o.dst != some t || o.after.toList.any fun e => e.on == i && Region.binds .any e
/-- Edges lead back; destinations are within the frame, no two are one. -/
def regOk (ops : Array Oper) (n : Nat) : Bool :=
  (ops.toList.zipIdx.all fun (o, i) => o.after.all fun e => !Region.binds .any e || decide (e.on < i)) &&
  (ops.toList.all fun o => match o.dst with | some d => decide (d < n) | none => true) &&
  ((ops.toList.filterMap (·.dst)).Nodup : Bool)

theorem regOk_back {ops : Array Oper} {n : Nat} (h : regOk ops n = true) {i : Nat} {o : Oper} (ho : ops[i]? = some o) {e : Edge} (he : e ∈ o.after) (hb : Region.binds .any e = true) : e.on < i := by
  simp only [regOk, Bool.and_eq_true, List.all_eq_true] at h
  have hm : (o, i) ∈ ops.toList.zipIdx := by
    rw [List.mem_zipIdx_iff_getElem?]
    simpa using ho
  have := h.1.1 (o, i) hm
  simp only [Array.all_eq_true'] at this
  have h2 := this e he
  simpa [hb] using h2
theorem regOk_lt {ops : Array Oper} {n : Nat} (h : regOk ops n = true) {i : Nat} {o : Oper} (ho : ops[i]? = some o) {d : Nat} (hd : o.dst = some d) : d < n := by
  simp only [regOk, Bool.and_eq_true, List.all_eq_true] at h
  have hm : o ∈ ops.toList := by
    have := Array.mem_of_getElem? ho
    simpa using this
  have := h.1.2 o hm
  simpa [hd] using this
theorem nodup_filterMap {ops : List Oper} (h : (ops.filterMap (·.dst)).Nodup) : ∀ {i j : Nat} {oi oj : Oper} {d : Nat}, ops[i]? = some oi → ops[j]? = some oj → oi.dst = some d → oj.dst = some d → i = j := by
  induction ops with
  | nil => intro i j oi oj d hi; simp at hi
  | cons o ops ih =>
    intro i j oi oj d hi hj hdi hdj
    have hmem : ∀ {k : Nat} {x : Oper}, ops[k]? = some x → x.dst = some d → d ∈ ops.filterMap (·.dst) := fun {k x} hk hx =>
      List.mem_filterMap.2 ⟨x, List.mem_of_getElem? hk, hx⟩
    have ht : (ops.filterMap (·.dst)).Nodup := by
      cases hod : o.dst with
      | none => simpa [List.filterMap_cons, hod] using h
      | some x => rw [List.filterMap_cons, hod] at h; exact (List.nodup_cons.1 h).2
    have hh : o.dst = some d → d ∉ ops.filterMap (·.dst) := fun hod => by
      rw [List.filterMap_cons, hod] at h; exact (List.nodup_cons.1 h).1
    cases i with
    | zero =>
      cases j with
      | zero => rfl
      | succ j =>
        simp at hi hj; subst hi
        exact absurd (hmem hj hdj) (hh hdi)
    | succ i =>
      cases j with
      | zero =>
        simp at hi hj; subst hj
        exact absurd (hmem hi hdi) (hh hdj)
      | succ j =>
        simp at hi hj
        rw [ih ht hi hj hdi hdj]
theorem regOk_one {ops : Array Oper} {n : Nat} (h : regOk ops n = true) {i j : Nat} {oi oj : Oper} {d : Nat} (hi : ops[i]? = some oi) (hj : ops[j]? = some oj) (hdi : oi.dst = some d) (hdj : oj.dst = some d) : i = j := by
  simp only [regOk, Bool.and_eq_true, decide_eq_true_eq] at h
  exact nodup_filterMap h.2 (by simpa using hi) (by simpa using hj) hdi hdj

section
variable {P : Program} {ops : Array Oper} {Q : Exit → Act → World → Prop} {S : Nat → World → Value → Prop} {a0 : Act} {w0 : World} {B : Nat}

/-- The facts of the operations that have come up. -/
structure RInv (B : Nat) (ops : Array Oper) (S : Nat → World → Value → Prop) (a0 : Act) (w0 : World) (listed : Array Bool) (a : Act) (w : World) : Prop where
  size : listed.size = ops.size
  ext : Grw B w0 w
  defers : a.defers = a0.defers
  tmps : a.tmps.size = a0.tmps.size
  closed : ∀ (i : Nat) (o : Oper), ops[i]? = some o → listed[i]? = some true → ∀ e ∈ o.after, Region.binds .any e = true → listed[e.on]? = some true
  vals : ∀ (i : Nat) (o : Oper) (d : Nat), ops[i]? = some o → listed[i]? = some true → o.dst = some d → ∃ v, a.tmps[d]? = some v ∧ S i w v
  same : ∀ t, (∀ (i : Nat) (o : Oper), ops[i]? = some o → o.dst = some t → listed[i]? = some false) → a.tmps[t]? = a0.tmps[t]?

/-- What one operation owes. -/
def StepOk (B : Nat) (P : Program) (ops : Array Oper) (S : Nat → World → Value → Prop) (a0 : Act) (w0 : World) (i : Nat) (o : Oper) : Prop :=
  ∀ (a : Act) (w : World), Grw B w0 w → a.defers = a0.defers → (∀ t, keepsB ops i t = true → a.tmps[t]? = a0.tmps[t]?) →
    (∀ e ∈ o.after, Region.binds .any e = true → ∀ (o' : Oper), ops[e.on]? = some o' → ∀ (d : Nat), o'.dst = some d → ∃ v, a.tmps[d]? = some v ∧ S e.on w v) →
    (Region.wanted o (yielded ops a.tmps) = true ∧ gives P o a w fun v w' => Grw B w w' ∧ S i w' v) ∨ (Region.wanted o (yielded ops a.tmps) = false ∧ S i w undef)

theorem count_set {l : Array Bool} {i : Nat} (h : l[i]? = some false) : (l.setIfInBounds i true).toList.count true = l.toList.count true + 1 := by
  have hi : i < l.size := by
    rcases Nat.lt_or_ge i l.size with hlt | hge
    · exact hlt
    · rw [Array.getElem?_eq_none hge] at h; cases h
  have hv : l[i] = false := by simpa [Array.getElem?_eq_getElem hi] using h
  rw [Array.toList_setIfInBounds, List.count_set (by simpa using hi)]
  simp [hv]

theorem wpAny_grow (hok : regOk ops a0.tmps.size = true) (hup : ∀ i w w' v, S i w v → Grw B w w' → S i w' v)
    (hstep : ∀ (i : Nat) (o : Oper), ops[i]? = some o → StepOk B P ops S a0 w0 i o)
    (hend : ∀ (a : Act) (w : World), Grw B w0 w → a.defers = a0.defers → a.tmps.size = a0.tmps.size → (∀ (i : Nat) (o : Oper) (d : Nat), ops[i]? = some o → o.dst = some d → ∃ v, a.tmps[d]? = some v ∧ S i w v) →
      (∀ t, (∀ (i : Nat) (o : Oper), ops[i]? = some o → o.dst ≠ some t) → a.tmps[t]? = a0.tmps[t]?) → Q .normal a w) :
    ∀ (fuel : Nat) (listed : Array Bool) (a : Act) (w : World), RInv B ops S a0 w0 listed a w → listed.toList.count true + fuel = ops.size → wpAny P .any ops Q fuel listed a w := by
  have getb : ∀ (l : Array Bool) (i : Nat) (b : Bool), l.getD i b = (l[i]?).getD b := fun l i b => by simp
  have allTrue : ∀ (l : Array Bool), l.toList.count true = l.size → ∀ i, i < l.size → l[i]? = some true := fun l h i hi => by
    have : ∀ x ∈ l.toList, true = x := by
      rw [← List.count_eq_length]; simpa using h
    rw [Array.getElem?_eq_getElem hi]
    congr 1
    exact (this _ (by simp)).symm
  have fin : ∀ (listed : Array Bool) (a : Act) (w : World), RInv B ops S a0 w0 listed a w → (∀ i, i < ops.size → listed[i]? = some true) → Q .normal a w := by
    intro listed a w I h
    have hlt : ∀ {i : Nat} {o : Oper}, ops[i]? = some o → i < ops.size := fun {i o} ho => by
      rcases Nat.lt_or_ge i ops.size with hlt | hge
      · exact hlt
      · rw [Array.getElem?_eq_none hge] at ho; cases ho
    exact hend a w I.ext I.defers I.tmps (fun i o d ho hd => I.vals i o d ho (h i (hlt ho)) hd) (fun t ht => I.same t fun i o ho hd => absurd hd (ht i o ho))
  have step : ∀ (listed : Array Bool) (a : Act) (w : World) (i : Nat) (K : Act → World → Prop), RInv B ops S a0 w0 listed a w → i ∈ Region.ready .any ops listed →
      (∀ a' w', RInv B ops S a0 w0 (listed.setIfInBounds i true) a' w' → K a' w') → wpOp P ops Q i K a w := by
    intro listed a w i K I hr hK
    obtain ⟨hun, o, ho, hall⟩ := mem_ready.1 hr
    have hi : i < listed.size := by
      rw [I.size]
      rcases Nat.lt_or_ge i ops.size with hlt | hge
      · exact hlt
      · rw [Array.getElem?_eq_none hge] at ho; cases ho
    have hfalse : listed[i]? = some false := by
      rw [getb, Array.getElem?_eq_getElem hi] at hun
      rw [Array.getElem?_eq_getElem hi]; simpa using hun
    have hpre : ∀ e ∈ o.after, Region.binds .any e = true → listed[e.on]? = some true := fun e he hb => by
      have h1 := hall e he hb
      rw [getb] at h1
      cases h2 : listed[e.on]? with
      | none => rw [h2] at h1; simp at h1
      | some b => rw [h2] at h1; simp at h1; rw [h1]
    have hset : ∀ (k : Nat), (listed.setIfInBounds i true)[k]? = if i = k then some true else listed[k]? := fun k => by
      rw [Array.getElem?_setIfInBounds]
      by_cases h : i = k
      · subst h; simp [hi]
      · simp [h]
    have next : ∀ v w', Grw B w w' → S i w' v → RInv B ops S a0 w0 (listed.setIfInBounds i true) (a.put o.dst v) w' := by
      intro v w' hx hS
      refine ⟨by simpa using I.size, I.ext.trans hx, ?_, ?_, ?_, ?_, ?_⟩
      · cases hd : o.dst <;> simpa [Act.put] using I.defers
      · cases hd : o.dst <;> simpa [Act.put] using I.tmps
      · intro k ok hk hl e he hb
        rw [hset] at hl ⊢
        by_cases hki : i = k
        · subst hki
          rw [ho] at hk; cases hk
          split
          · rfl
          · exact hpre e he hb
        · rw [if_neg hki] at hl
          split
          · rfl
          · exact I.closed k ok hk hl e he hb
      · intro k ok d hk hl hd
        rw [hset] at hl
        by_cases hki : i = k
        · subst hki
          rw [ho] at hk; cases hk
          refine ⟨v, ?_, hS⟩
          rw [hd]
          have := regOk_lt hok ho hd
          simp only [Act.put, Array.getElem?_setIfInBounds]
          simp [I.tmps, this]
        · rw [if_neg hki] at hl
          obtain ⟨u, hu, hSu⟩ := I.vals k ok d hk hl hd
          refine ⟨u, ?_, hup _ _ _ _ hSu hx⟩
          cases hod : o.dst with
          | none => simpa [Act.put] using hu
          | some d' =>
            have hne : d' ≠ d := fun e => hki (regOk_one hok ho hk (by rw [hod, e]) hd)
            simp only [Act.put, Array.getElem?_setIfInBounds_ne hne]
            exact hu
      · intro t ht
        have hit : o.dst ≠ some t := fun hd => by
          have := ht i o ho hd
          rw [hset, if_pos rfl] at this; cases this
        have := I.same t fun k ok hk hd => by
          have h2 := ht k ok hk hd
          rw [hset] at h2
          split at h2
          · cases h2
          · exact h2
        rw [← this]
        cases hod : o.dst with
        | none => rfl
        | some d' =>
          have hne : d' ≠ t := fun e => hit (by rw [hod, e])
          simp only [Act.put, Array.getElem?_setIfInBounds_ne hne]
    have hs := hstep i o ho a w I.ext I.defers ?_ ?_
    · unfold wpOp
      simp only [ho]
      rcases hs with ⟨hw, hg⟩ | ⟨hw, hS⟩
      · rw [if_pos hw]
        exact .inl (wp_of_gives hg fun v w' ⟨hx, hS⟩ => hK _ _ (next v w' hx hS))
      · rw [if_neg (by rw [hw]; exact Bool.false_ne_true)]
        exact hK _ _ (next _ _ (Grw.refl _ _) hS)
    · intro t ht
      refine I.same t fun k ok hk hd => ?_
      simp only [keepsB, List.all_eq_true] at ht
      have hm : ok ∈ ops.toList := by simpa using Array.mem_of_getElem? hk
      have := ht ok hm
      simp only [hd, bne_self_eq_false, Bool.false_or, List.any_eq_true, Array.mem_toList_iff] at this
      obtain ⟨e, he, hb⟩ := this
      simp only [Bool.and_eq_true, beq_iff_eq] at hb
      have hkl : k < listed.size := by
        rw [I.size]
        rcases Nat.lt_or_ge k ops.size with hlt | hge
        · exact hlt
        · rw [Array.getElem?_eq_none hge] at hk; cases hk
      cases hv : listed[k]? with
      | none => rw [Array.getElem?_eq_getElem hkl] at hv; cases hv
      | some b =>
        cases b with
        | false => rfl
        | true =>
          have := I.closed k ok hk hv e he hb.2
          rw [hb.1, hfalse] at this; cases this
    · intro e he hb o' ho' d hd
      exact I.vals e.on o' d ho' (hpre e he hb) hd
  have full : ∀ (listed : Array Bool) (a : Act) (w : World), RInv B ops S a0 w0 listed a w → Region.ready .any ops listed = [] → ∀ i, i < ops.size → listed[i]? = some true := by
    intro listed a w I hr i
    induction i using Nat.strongRecOn with
    | ind i ih =>
      intro hi
      cases hv : listed[i]? with
      | none => rw [Array.getElem?_eq_none_iff, I.size] at hv; omega
      | some b =>
        cases b with
        | true => rfl
        | false =>
          exfalso
          have hmem : i ∈ Region.ready .any ops listed := by
            refine mem_ready.2 ⟨by rw [getb, hv]; rfl, ops[i], Array.getElem?_eq_getElem hi, fun e he hb => ?_⟩
            have hlt := regOk_back hok (Array.getElem?_eq_getElem hi) he hb
            rw [getb, ih e.on hlt (by omega)]; rfl
          rw [hr] at hmem; cases hmem
  intro fuel
  induction fuel with
  | zero =>
    intro listed a w I hc
    have hall := allTrue listed (by rw [I.size]; omega)
    rw [I.size] at hall
    refine ⟨?_, fin listed a w I hall⟩
    cases hr : Region.ready .any ops listed with
    | nil => rfl
    | cons i rest =>
      exfalso
      have hm : i ∈ Region.ready .any ops listed := by rw [hr]; simp
      obtain ⟨hun, o, ho, _⟩ := mem_ready.1 hm
      have hlt : i < ops.size := by
        rcases Nat.lt_or_ge i ops.size with hlt | hge
        · exact hlt
        · rw [Array.getElem?_eq_none hge] at ho; cases ho
      rw [getb, hall i hlt] at hun; cases hun
  | succ fuel ih =>
    intro listed a w I hc
    refine ⟨fun hr => fin listed a w I (full listed a w I hr), fun i hi => step listed a w i _ I hi fun a' w' I' => ih _ a' w' I' ?_⟩
    obtain ⟨hun, o, ho, _⟩ := mem_ready.1 hi
    have hlt : i < listed.size := by
      rw [I.size]
      rcases Nat.lt_or_ge i ops.size with hlt | hge
      · exact hlt
      · rw [Array.getElem?_eq_none hge] at ho; cases ho
    rw [count_set (by rw [getb, Array.getElem?_eq_getElem hlt] at hun; rw [Array.getElem?_eq_getElem hlt]; simpa using hun)]
    omega

/-- THE REGION. -/
theorem wp_region_grow {id : Nat} (S : Nat → World → Value → Prop) (hm : P.follows .mixedOrders = true) (hok : regOk ops a0.tmps.size = true)
    (hup : ∀ i w w' v, S i w v → Grw B w w' → S i w' v) (hstep : ∀ (i : Nat) (o : Oper), ops[i]? = some o → StepOk B P ops S a0 w0 i o)
    (hend : ∀ (a : Act) (w : World), Grw B w0 w → a.defers = a0.defers → a.tmps.size = a0.tmps.size → (∀ (i : Nat) (o : Oper) (d : Nat), ops[i]? = some o → o.dst = some d → ∃ v, a.tmps[d]? = some v ∧ S i w v) →
      (∀ t, (∀ (i : Nat) (o : Oper), ops[i]? = some o → o.dst ≠ some t) → a.tmps[t]? = a0.tmps[t]?) → Q .normal a w) :
    (Code.region id ops true).wp P Q a0 w0 := by
  refine wp_region_any hm (wpAny_grow hok hup hstep hend ops.size _ a0 _ ?_ ?_)
  · refine ⟨by simp, Grw.drewn _ _ _, rfl, rfl, ?_, ?_, fun _ _ => rfl⟩
    · intro i o ho hl
      rw [Array.getElem?_replicate] at hl
      split at hl <;> simp at hl
    · intro i o d ho hl
      rw [Array.getElem?_replicate] at hl
      split at hl <;> simp at hl
  · have : (Array.replicate ops.size false).toList.count true = 0 := by simp [List.count_replicate]
    omega
end

/-- A fact of a world and a value that lasts while the world grows. -/
structure Sp where
  p : World → Value → Prop
  up : ∀ w w' v, p w v → Keeps w w' → p w' v
def Sp.any : Sp := ⟨fun _ _ => True, fun _ _ _ _ _ => trivial⟩
def Sp.is (x : Value) : Sp := ⟨fun _ v => v = x, fun _ _ _ h _ => h⟩

/-- What one operation owes, in the form in which it is paid. -/
def Pays (B : Nat) (P : Program) (ops : Array Oper) (L : List Sp) (a0 : Act) (w0 : World) (i : Nat) (o : Oper) : Prop :=
  ∀ (a : Act) (w : World), Grw B w0 w → B ≤ w.heap.size → (∀ t, keepsB ops i t = true → a.tmps[t]? = a0.tmps[t]?) →
    (∀ j, (o.after.toList.any fun e => e.on == j && Region.binds .any e) = true → ∀ (o' : Oper), ops[j]? = some o' → ∀ (d : Nat), o'.dst = some d → ∃ v, a.tmps[d]? = some v ∧ (L.getD j Sp.any).p w v) →
    (Region.wanted o (yielded ops a.tmps) = true ∧ gives P o a w fun v w' => Grw B w w' ∧ (L.getD i Sp.any).p w' v) ∨ (Region.wanted o (yielded ops a.tmps) = false ∧ (L.getD i Sp.any).p w undef)
def PaysFrom (T : Nat → Oper → Prop) : Nat → List Oper → Prop
  | _, [] => True
  | k, o :: r => T k o ∧ PaysFrom T (k + 1) r
theorem paysFrom_all {T : Nat → Oper → Prop} : ∀ (l : List Oper) (k : Nat), PaysFrom T k l → ∀ (i : Nat) (o : Oper), l[i]? = some o → T (k + i) o
  | [], _, _, i, o, h => by simp at h
  | x :: r, k, ⟨h0, hr⟩, i, o, h => by
    cases i with
    | zero => simp at h; subst h; exact h0
    | succ i =>
      have := paysFrom_all r (k + 1) hr i o (by simpa using h)
      rwa [Nat.add_assoc, Nat.add_comm 1] at this

theorem wp_region_sp {B : Nat} {P : Program} {ops : List Oper} {Q : Exit → Act → World → Prop} {a0 : Act} {w0 : World} {id : Nat} (hB : B ≤ w0.heap.size) (L : List Sp) (hm : P.follows .mixedOrders = true) (hok : regOk ops.toArray a0.tmps.size = true)
    (hstep : PaysFrom (Pays B P ops.toArray L a0 w0) 0 ops)
    (hend : ∀ (a : Act) (w : World), Grw B w0 w → a.defers = a0.defers → a.tmps.size = a0.tmps.size → (∀ (i : Nat) (o : Oper) (d : Nat), ops.toArray[i]? = some o → o.dst = some d → ∃ v, a.tmps[d]? = some v ∧ (L.getD i Sp.any).p w v) →
      (∀ t, (∀ (i : Nat) (o : Oper), ops.toArray[i]? = some o → o.dst ≠ some t) → a.tmps[t]? = a0.tmps[t]?) → Q .normal a w) :
    (Code.region id ops.toArray true).wp P Q a0 w0 := by
  refine wp_region_grow (fun i => (L.getD i Sp.any).p) hm hok (fun i w w' v h hx => (L.getD i Sp.any).up w w' v h hx.keeps) ?_ hend
  intro i o ho a w hx hd hk H
  have h := paysFrom_all ops 0 hstep i o (by simpa using ho)
  rw [Nat.zero_add] at h
  refine h a w hx (Nat.le_trans hB hx.size) hk fun j hj o' ho' d hd' => ?_
  simp only [List.any_eq_true, Array.mem_toList_iff] at hj
  obtain ⟨e, he, hb⟩ := hj
  simp only [Bool.and_eq_true, beq_iff_eq] at hb
  obtain ⟨rfl, hb⟩ := hb
  exact H e he hb o' ho' d hd'
end Go.Proofs.YtdllppaichlnaaaDoor
namespace Go.Proofs.YtdllppaichlnaaaDoor
open Go.RowKit

/-- A number as a byte. -/
def b8 (n : Int) : UInt8 := UInt8.ofNat n.toNat
theorem b8_toNat {n : Int} (h0 : 0 ≤ n) (h1 : n < 256) : ((b8 n).toNat : Int) = n := by
  unfold b8
  rw [UInt8.toNat_ofNat']
  have : n.toNat % 2 ^ 8 = n.toNat := Nat.mod_eq_of_lt (by omega)
  rw [this]; omega
theorem b8_byte (b : UInt8) : b8 (b.toNat : Int) = b := by
  unfold b8
  rw [Int.toNat_natCast]
  exact UInt8.ofNat_toNat

/-- A list of bytes as cells. -/
def bs (l : List UInt8) : List Value := l.map fun b => .int .u8 (b.toNat : Int)
theorem bs_length (l : List UInt8) : (bs l).length = l.length := by simp [bs]
theorem bs_append (l m : List UInt8) : bs (l ++ m) = bs l ++ bs m := by simp [bs]
theorem bs_get (l : List UInt8) (j : Nat) : (bs l)[j]? = (l[j]?).map fun b => Value.int .u8 (b.toNat : Int) := by simp [bs]
theorem bs_one (l : List UInt8) : ∀ u ∈ bs l, u.oneCell' = true := by
  intro u hu
  obtain ⟨b, _, rfl⟩ := List.mem_map.1 hu
  rfl

/-- The slice at A reads, from its beginning on, as l. -/
def Rd (w : World) (A : Option Addr) (l : List UInt8) : Prop :=
  l ≠ [] → ∃ b off, A = some ⟨b, off, none⟩ ∧ ∀ j u, l[j]? = some u → w.cell? ⟨b, off + j, none⟩ = some (.int .u8 (u.toNat : Int))

theorem add_flat (b off j : Nat) : (⟨b, off, none⟩ : Addr).add j = ⟨b, off + j, none⟩ := by unfold Addr.add; split <;> simp_all

section
variable {w w' : World} {A : Option Addr} {l : List UInt8}
theorem Rd.nil (w : World) (A : Option Addr) : Rd w A [] := fun h => absurd rfl h
theorem Rd.ext (h : Rd w A l) (hx : Ext w w') : Rd w' A l := fun hn => by
  obtain ⟨b, off, hA, hc⟩ := h hn
  refine ⟨b, off, hA, fun j u hu => ?_⟩
  have := hc j u hu
  rw [Below.cell hx (World.block_lt_of_cell? w _ this)]
  exact this
theorem Rd.keep (h : Rd w A l) (hx : Keeps w w') : Rd w' A l := fun hn => by
  obtain ⟨b, off, hA, hc⟩ := h hn
  exact ⟨b, off, hA, fun j u hu => hx.cell (hc j u hu)⟩
theorem Rd.at (h : Rd w A l) {k : Nat} (hk : k < l.length) : ∃ b off u, A = some ⟨b, off, none⟩ ∧ l[k]? = some u ∧ w.cell? ⟨b, off + k, none⟩ = some (.int .u8 (u.toNat : Int)) := by
  obtain ⟨b, off, hA, hc⟩ := h (by intro e; subst e; simp at hk)
  exact ⟨b, off, l[k], hA, List.getElem?_eq_getElem hk, hc k _ (List.getElem?_eq_getElem hk)⟩
theorem Rd.of_own {base e : Nat} {c : Nat} (h : w.ownsRow base e 1 (.slice A l.length c) l.length (bs l)) : Rd w A l := fun hn => by
  have hp : 0 < l.length := List.length_pos_iff.2 hn
  rcases h.2 with ⟨_, h0⟩ | ⟨g, cap, cur, hv, _⟩
  · omega
  · injection hv with hA
    subst hA
    refine ⟨g, 0, rfl, fun j u hu => ?_⟩
    have := h.cells (g := g) rfl j (.int .u8 (u.toNat : Int)) (by rw [bs_get, hu]; rfl)
    rw [add_flat] at this
    exact this
theorem Rd.drop {a : Addr} (h : Rd w (some a) l) (k : Nat) : Rd w (some (a.add k)) (l.drop k) := fun hn => by
  obtain ⟨b, off, hA, hc⟩ := h (by intro e; subst e; simp at hn)
  injection hA with hA
  subst hA
  refine ⟨b, off + k, by rw [add_flat], fun j u hu => ?_⟩
  rw [Nat.add_assoc]
  exact hc _ u (by rw [← hu, List.getElem?_drop])
theorem Rd.take (h : Rd w A l) (k : Nat) : Rd w A (l.take k) := fun hn => by
  obtain ⟨b, off, hA, hc⟩ := h (by intro e; subst e; simp at hn)
  refine ⟨b, off, hA, fun j u hu => hc j u ?_⟩
  rw [List.getElem?_take] at hu
  split at hu
  · exact hu
  · cases hu
theorem Rd.cells (h : Rd w A l) {a : Addr} (hA : A = some a) (hn : l ≠ []) : ∀ j u, (bs l)[j]? = some u → w.cell? (a.add j) = some u := by
  intro j u hu
  obtain ⟨b, off, hA', hc⟩ := h hn
  rw [hA] at hA'
  injection hA' with hA'
  subst hA'
  rw [bs_get] at hu
  cases hl : l[j]? with
  | none => rw [hl] at hu; cases hu
  | some x =>
    rw [hl] at hu
    injection hu with hu
    subst hu
    rw [add_flat]
    exact hc j x hl

/-- 'string(p)'. -/
theorem Rd.str {P : Program} (h : Rd w A l) (src dst e c : Nat) (hs : P.underlying src = some (.slice e)) (he : P.underlying e = some (.int .u8)) (hd : P.underlying dst = some .string) :
    (convert src dst (.slice A l.length c)).run P w = .ok (.string ⟨l.toArray⟩) w := by
  rcases A with _ | a
  · have hl : l = [] := by
      cases l with
      | nil => rfl
      | cons x xs => obtain ⟨_, _, hA, _⟩ := h (by simp); cases hA
    subst hl
    rw [run_convert_bytes_string w src dst e none _ c hs he hd]
    simp [Conv.bytesToString]
    rfl
  · refine run_convert_bytes_back w src dst e a c l hs he hd fun j hj => ?_
    exact h.cells rfl (by intro e; subst e; simp at hj) j _ (by rw [bs_get, List.getElem?_eq_getElem hj]; rfl)
end

/-- What a call hands back: a slice that reads as l. -/
def Bytes (l : List UInt8) (w : World) (v : Value) : Prop := ∃ A c, v = .slice A l.length c ∧ l.length ≤ c ∧ Rd w A l
theorem Bytes.ext {l : List UInt8} {w w' : World} {v : Value} (h : Bytes l w v) (hx : Ext w w') : Bytes l w' v := by
  obtain ⟨A, c, hv, hc, hr⟩ := h
  exact ⟨A, c, hv, hc, hr.ext hx⟩
theorem Rd.newf (w : World) (t : TypeId) (l : List UInt8) (rest : List Value) (fr : Nat × Nat) : Rd (w.alloc (.cells (bs l ++ rest).toArray t fr)) (some ⟨w.heap.size, 0, none⟩) l := fun _ => by
  refine ⟨w.heap.size, 0, rfl, fun j u hu => ?_⟩
  rw [cell_of_row _ w.heap.size (0 + j) _ t fr (heap_alloc_new w _)]
  have hj : j < (bs l).length := by
    rw [bs_length]
    rcases Nat.lt_or_ge j l.length with h | h
    · exact h
    · rw [List.getElem?_eq_none h] at hu; cases hu
  rw [Nat.zero_add, List.getElem?_toArray, List.getElem?_append_left hj, bs_get, hu]
  rfl
theorem Rd.new (w : World) (t : TypeId) (l : List UInt8) (rest : List Value) : Rd (w.alloc (.cells (bs l ++ rest).toArray t)) (some ⟨w.heap.size, 0, none⟩) l := Rd.newf w t l rest (0, 0)
/-- A block whose cells are the bytes of l. -/
theorem Bytes.new (w : World) (t : TypeId) (l : List UInt8) (cs : Array Value) (h : cs = (bs l).toArray) {n c : Nat} (hn : n = l.length) (hc : n ≤ c) : Bytes l (w.alloc (.cells cs t)) (.slice (some ⟨w.heap.size, 0, none⟩) n c) := by
  subst h hn
  have := Rd.new w t l []
  rw [List.append_nil] at this
  exact ⟨_, _, rfl, hc, this⟩
theorem Bytes.own {w : World} {base e : Nat} {v : Value} {l : List UInt8} (h : w.ownsRow base e 1 v l.length (bs l)) : Bytes l w v := by
  rcases h.2 with ⟨rfl, h0⟩ | ⟨g, cap, cur, rfl, _, _, hnc, _⟩
  · have hl : l = [] := List.length_eq_zero_iff.1 h0
    subst hl
    exact ⟨none, 0, rfl, Nat.le_refl _, Rd.nil _ _⟩
  · exact ⟨_, cap, rfl, hnc, Rd.of_own (base := base) (e := e) (c := cap) h⟩
theorem hide {p : Prop} (h : p) : Hid p := h
/-- What a call leaves: a value of which S holds, and a world that extends the one it began in. -/
def Ret (w : World) (S : World → Value → Prop) (e : Ending) (w' : World) : Prop := ∃ v, e = .returned v ∧ Ext w w' ∧ S w' v
theorem Ret.mk {w w' : World} {S : World → Value → Prop} {v : Value} (hx : Ext w w') (hS : S w' v) : Ret w S (.returned v) w' := ⟨v, rfl, hx, hS⟩
theorem Bytes.keep {l : List UInt8} {w w' : World} {v : Value} (h : Bytes l w v) (hx : Keeps w w') : Bytes l w' v := by
  obtain ⟨A, c, hv, hc, hr⟩ := h
  exact ⟨A, c, hv, hc, hr.keep hx⟩
/-- Just this value. -/
def Is (x : Value) (_ : World) (v : Value) : Prop := v = x

def Sp.bytes (l : List UInt8) : Sp := ⟨Bytes l, fun _ _ _ h hx => h.keep hx⟩

section
variable {P : Program} {ops : Array Oper} {o : Oper} {a : Act} {w : World} {R : Value → World → Prop}

theorem ev {d : Nat} {v : Value} (h : a.tmps[d]? = some v) : a.eval (.tmp d) = v := by simp [Act.eval, h]

theorem wanted_none (hg : o.guard = none) : Region.wanted o (yielded ops a.tmps) = true := by simp [Region.wanted, hg]
theorem wanted_yes {k d : Nat} {b : Bool} (o' : Oper) (hg : o.guard = some (k, b)) (hk : ops[k]? = some o') (hd : o'.dst = some d) (hv : a.tmps[d]? = some (.bool b)) : Region.wanted o (yielded ops a.tmps) = true := by
  simp [Region.wanted, hg, yielded, hk, hd, hv]
theorem wanted_no {k d : Nat} {b : Bool} (o' : Oper) (hg : o.guard = some (k, b)) (hk : ops[k]? = some o') (hd : o'.dst = some d) (hv : a.tmps[d]? = some (.bool !b)) : Region.wanted o (yielded ops a.tmps) = false := by
  simp [Region.wanted, hg, yielded, hk, hd, hv]

theorem gives_of_run {v : Value} {w' : World} (h : (execOp a.eval o).run P w = .ok (.value v) w') (hR : R v w') : gives P o a w R := by unfold gives; rw [h]; exact hR
theorem gives_move {x : Operand} (h : o.op = .move x) (hR : R (a.eval x) w) : gives P o a w R := gives_of_run (w' := w) (v := a.eval x) (by simp [execOp, h]) hR
theorem gives_assign {x : Operand} (h : o.op = .assign x) (hR : R (a.eval x) w) : gives P o a w R := gives_of_run (w' := w) (v := a.eval x) (by simp [execOp, h]) hR
/-- A slice of bytes of the call's own whose row is known, so that it may be marked. -/
def Row (e : Nat) (B : Nat) (l : List UInt8) (w : World) (v : Value) : Prop := ∃ g fr, v = .slice (some ⟨g, 0, none⟩) l.length l.length ∧ B ≤ g ∧ w.heap[g]? = some (.cells (bs l).toArray e fr)
theorem Row.keep {e B : Nat} {l : List UInt8} {w w' : World} {v : Value} (h : Row e B l w v) (hx : Keeps w w') : Row e B l w' v := by
  obtain ⟨g, fr, hv, hB, hg⟩ := h
  obtain ⟨fr', hg'⟩ := hx.cells hg
  exact ⟨g, fr', hv, hB, hg'⟩
def Sp.row (e B : Nat) (l : List UInt8) : Sp := ⟨Row e B l, fun _ _ _ h hx => h.keep hx⟩
theorem Row.bytes {e B : Nat} {l : List UInt8} {w : World} {v : Value} (h : Row e B l w v) : Bytes l w v := by
  obtain ⟨g, fr, rfl, hB, hg⟩ := h
  refine ⟨_, _, rfl, Nat.le_refl _, fun _ => ⟨g, 0, rfl, fun j u hu => ?_⟩⟩
  rw [cell_of_row w g (0 + j) _ e fr hg, Nat.zero_add, List.getElem?_toArray, bs_get, hu]
  rfl
/-- '[]byte("..")': a literal's row, marked. -/
theorem gives_marked {t e B : Nat} {x : Operand} {l : List UInt8} (h : o.op = .convert t t x) (ht : P.underlying t = some (.slice e)) (he : P.underlying e = some (.int .u8)) (hx : Row e B l w (a.eval x))
    (hR : ∀ v w', Grw B w w' → Row e B l w' v → R v w') : gives P o a w R := by
  obtain ⟨g, fr, hv, hB, hg⟩ := hx
  have hsh : w.shape? g = some (e, (bs l).toArray.size) := by unfold World.shape?; rw [hg]
  refine gives_of_run (v := .slice (some ⟨g, 0, none⟩) l.length l.length) (w' := w.freeze ⟨g, (bs l).toArray.size, none⟩ 1) ?_ ?_
  · simp [execOp, h, hv, convert, run_underlying ht, run_underlying he, markStringish, hsh]
  · have hfg : ∀ k, k ≠ g → (w.freeze ⟨g, (bs l).toArray.size, none⟩ 1).heap[k]? = w.heap[k]? := fun k hk => by
      simp only [World.freeze, if_neg (show ¬ (1 : Nat) = 0 by decide), Array.getElem?_modify]
      rw [if_neg (fun e => hk e.symm)]
    have hgg : ∃ fr', (w.freeze ⟨g, (bs l).toArray.size, none⟩ 1).heap[g]? = some (.cells (bs l).toArray e fr') := by
      obtain ⟨lo, hi⟩ := fr
      simp only [World.freeze, if_neg (show ¬ (1 : Nat) = 0 by decide), Array.getElem?_modify, if_true, hg, Option.map_some]
      exact ⟨_, rfl⟩
    have hsz : (w.freeze ⟨g, (bs l).toArray.size, none⟩ 1).heap.size = w.heap.size := by simp [World.freeze]
    refine hR _ _ ⟨⟨rfl, rfl, rfl, by rw [hsz]; exact Nat.le_refl _, fun k hk => hfg k (by omega)⟩, fun k ob hob => ?_⟩ ?_
    · by_cases hk : k = g
      · subst hk
        obtain ⟨fr', h'⟩ := hgg
        rw [hg] at hob
        injection hob with hob
        exact .inr ⟨_, _, fr, fr', hob.symm, h'⟩
      · exact .inl (by rw [hfg k hk]; exact hob)
    · obtain ⟨fr', h'⟩ := hgg
      exact ⟨g, fr', rfl, hB, h'⟩
theorem Ret.grw {w w' : World} {S : World → Value → Prop} {e : Ending} {B : Nat} (h : Ret w S e w') (hB : B ≤ w.heap.size) : ∃ v, e = .returned v ∧ Grw B w w' ∧ S w' v := by
  obtain ⟨v, he, hx, hS⟩ := h
  exact ⟨v, he, Grw.of_ext hx hB, hS⟩
theorem gives_pick {c x y : Operand} (b : Bool) (h : o.op = .pick c x y) (hc : a.eval c = .bool b) (hR : R (a.eval (if b then x else y)) w) : gives P o a w R := by
  refine gives_of_run (w' := w) (v := a.eval (if b then x else y)) ?_ hR
  cases b <;> simp [execOp, h, hc, asBool]
theorem gives_extract {x : Operand} {i : Nat} (vs : Array Value) (h : o.op = .extract x i) (hx : a.eval x = .tuple vs) {v : Value} (hv : vs[i]? = some v) (hR : R v w) : gives P o a w R := by
  refine gives_of_run (w' := w) (v := v) ?_ hR
  simp [execOp, h, hx, Instr.extract, hv]
theorem gives_str {src dst e : Nat} {x : Operand} (l : List UInt8) (h : o.op = .convert src dst x) (hs : P.underlying src = some (.slice e)) (he : P.underlying e = some (.int .u8)) (hd : P.underlying dst = some .string)
    (hx : Bytes l w (a.eval x)) (hR : R (.string ⟨l.toArray⟩) w) : gives P o a w R := by
  obtain ⟨A, c, hv, _, hr⟩ := hx
  refine gives_of_run (w' := w) (v := .string ⟨l.toArray⟩) ?_ hR
  simp [execOp, h, hv, hr.str src dst e c hs he hd]
theorem gives_bin {op : BinOp} {xt yt : Nat} {x y : Operand} {u v z : Value} (h : o.op = .binOp op xt x y yt) (hx : a.eval x = u) (hy : a.eval y = v)
    (hg : (eqGuard op xt x y u v).run P w = .ok () w) (hz : (binOp op xt u v).run P w = .ok z w) (hR : R z w) : gives P o a w R := by
  refine gives_of_run (w' := w) (v := z) ?_ hR
  simp [execOp, h, hx, hy, hg, hz]
theorem gives_eql_str {xt yt : Nat} {x y : Operand} (l m : List UInt8) (h : o.op = .binOp .eql xt x y yt) (hx : a.eval x = .string ⟨l.toArray⟩) (hy : a.eval y = .string ⟨m.toArray⟩) (hR : R (.bool (l == m)) w) : gives P o a w R :=
  gives_bin h hx hy (by simp [go_sem]) (by simp [go_sem]) hR
theorem gives_eql_int {xt yt : Nat} {x y : Operand} {k : IntKind} (m n : Int) (h : o.op = .binOp .eql xt x y yt) (hx : a.eval x = .int k m) (hy : a.eval y = .int k n) (hR : R (.bool (m == n)) w) : gives P o a w R :=
  gives_bin h hx hy (by simp [go_sem]) (by simp [go_sem]) hR
theorem gives_call {f : Nat} {xs : Array Operand} {ats : Array TypeId} {args : Array Value} (h : o.op = .call { callee := .value (.func f), args := xs, argTypes := ats })
    (hcf : ∀ args w, (callFunc f args).run P w = .ok (.enter f args) w) (ha : xs.map a.eval = args)
    (hC : Calls P f args w fun e w' => ∃ v, e = .returned v ∧ R v w') : gives P o a w R := by
  have hr : (execOp a.eval o).run P w = .ok (.enter f args) w := by
    obtain ⟨dst, op, type, pos, after, guard⟩ := o
    subst h
    rw [execOp_call_go, ha]
    simp [hcf]
  unfold gives
  rw [hr]
  exact hC
end
end Go.Proofs.YtdllppaichlnaaaDoor
namespace Go.Proofs.YtdllppaichlnaaaDoor
open Go.RowKit

theorem info_u8 : (Tryd.prog.info? 5).map (fun i => (i.zero, i.size, i.bytes)) = some (some (.int .u8 0), 1, 1) := by kernel_rfl

/-- The value v is a slice of the call's own (in a block from base on, or nil) that holds just l. -/
def Own (w : World) (base : Nat) (v : Value) (l : List UInt8) : Prop := w.ownsRow base 5 1 v l.length (bs l)
theorem Own.nil (w : World) (base : Nat) : Own w base (.slice none 0 0) [] := World.ownsRow_nil _ _ _ _
theorem Own.alloc {w : World} {base : Nat} {v : Value} {l : List UInt8} (h : Own w base v l) (o : Obj) : Own (w.alloc o) base v l := World.ownsRow.alloc h o
theorem Own.drew {w : World} {base : Nat} {v : Value} {l : List UInt8} (h : Own w base v l) : Own w.drew base v l := h
theorem Own.bytes {w : World} {base : Nat} {v : Value} {l : List UInt8} (h : Own w base v l) : Bytes l w v := Bytes.own h
/-- It stays while nothing but new blocks come. -/
theorem Own.ext {w w' : World} {base : Nat} {v : Value} {l : List UInt8} (h : Own w base v l) (hx : Ext w w') : Own w' base v l := by
  refine ⟨h.1, ?_⟩
  rcases h.2 with hn | ⟨g, cap, cur, rfl, hb, hg, rest⟩
  · exact .inl hn
  · refine .inr ⟨g, cap, cur, rfl, hb, ?_, rest⟩
    have hlt : g < w.heap.size := by
      rcases Nat.lt_or_ge g w.heap.size with h' | h'
      · exact h'
      · rw [Array.getElem?_eq_none h'] at hg; cases hg
    rw [Below.block hx g hlt]
    exact hg

/-- Its place i: what it holds, that it may be written, what the slice holds behind a store there. -/
theorem Own.at {w : World} {base : Nat} {v : Value} {l : List UInt8} (h : Own w base v l) {i : Nat} {x : UInt8} (hx : l[i]? = some x) :
    ∃ g cap, v = .slice (some ⟨g, 0, none⟩) l.length cap ∧ base ≤ g ∧ w.cell? ⟨g, i, none⟩ = some (.int .u8 (x.toNat : Int)) ∧ w.frozen? ⟨g, i, none⟩ = false ∧
      Hid (∀ n, 0 ≤ n → n < 256 → Own (w.setCell ⟨g, i, none⟩ (.int .u8 n)) base v (l.set i (b8 n))) := by
  obtain ⟨hi, hix⟩ := List.getElem?_eq_some_iff.1 hx
  rcases h.2 with ⟨rfl, h0⟩ | ⟨g, cap, cur, rfl, hb, hg, hnc, hcm, hcs, ht⟩
  · omega
  · have hc : w.cell? ⟨g, i, none⟩ = some (.int .u8 (x.toNat : Int)) := by
      have := h.cells (g := g) rfl i (.int .u8 (x.toNat : Int)) (by rw [bs_get, hx]; rfl)
      rw [add_flat, Nat.zero_add] at this
      exact this
    refine ⟨g, cap, rfl, hb, hc, by simp [World.frozen?, hg], fun n h0 h1 => ?_⟩
    refine ⟨by rw [bs_length]; simp, .inr ⟨g, cap, cur.setIfInBounds i (.int .u8 n), by rw [List.length_set], hb, ?_, by rw [List.length_set]; exact hnc, hcm, by simpa using hcs, ?_⟩⟩
    · simp [World.setCell, Array.getElem?_modify, hg]
    · have e : bs (l.set i (b8 n)) = (bs l).set i (.int .u8 n) := by unfold bs; rw [List.map_set, b8_toNat h0 h1]
      rw [e, ← ht, List.length_set, Array.toList_setIfInBounds, List.take_set]
theorem Rd.byte (w : World) (t : TypeId) (b : UInt8) : Rd (w.alloc (.cells #[.int .u8 (b.toNat : Int)] t)) (some ⟨w.heap.size, 0, none⟩) [b] := Rd.new w t [b] []
theorem Rd.one (w : World) (t : TypeId) (n : Int) (h0 : 0 ≤ n) (h1 : n < 256) : Rd (w.alloc (.cells #[.int .u8 n] t)) (some ⟨w.heap.size, 0, none⟩) [b8 n] := by
  have := Rd.byte w t (b8 n)
  rwa [b8_toNat h0 h1] at this
theorem run_append_from_nil {P : Program} (w : World) (base t ty e : Nat) (i : TypeInfo) (size : Nat) (ht : P.underlying t = some (.slice e)) (hi : P.info? e = some i)
    (v : Value) (n : Nat) (xs : List Value) (hown : w.ownsRow base e size v n xs) (c : Nat) : (Builtin.append_ #[t, t] ty #[v, .slice none 0 c]).run P w = .ok v w := by
  rcases hown.2 with ⟨rfl, rfl⟩ | ⟨g, cap, cur, rfl, _, _, hnc, _⟩
  · simp [Builtin.append_, run_underlying ht, sizeOf, typeInfo, hi, Builtin.lenOf, Builtin.firstCells]
  · simp [Builtin.append_, run_underlying ht, sizeOf, typeInfo, hi, Builtin.lenOf, Builtin.firstCells, hnc, storeCells]

theorem run_cat (w : World) (base ty : Nat) (v : Value) (l m : List UInt8) (A : Option Addr) (c : Nat) (hown : Own w base v l) (hr : Rd w A m) (hbase : base ≤ w.heap.size) (hlen : l.length + m.length ≤ 140737488355328) :
    ∃ v' w', (Builtin.append_ #[37, 37] ty #[v, .slice A m.length c]).run Tryd.prog w = .ok v' w' ∧ Own w' base v' (l ++ m) ∧ Below base w w' ∧ w.grownBy w' v.ownBlock := by
  obtain ⟨i0, hi, hz0, hz1, hz2⟩ := info_parts info_u8
  rcases A with _ | a
  · have hm : m = [] := by
      cases m with
      | nil => rfl
      | cons x xs => obtain ⟨_, _, hA, _⟩ := hr (by simp); cases hA
    subst hm
    refine ⟨v, w, run_append_from_nil w base _ ty _ i0 1 Tryd.underlying37 hi v _ _ hown c, by rw [List.append_nil]; exact hown, Below.refl _ _, ⟨rfl, rfl, rfl, Nat.le_refl _, fun _ _ _ => rfl⟩⟩
  · have hc : ∀ j u, (bs m)[j]? = some u → w.cell? (a.add j) = some u := by
      intro j u hu
      by_cases hn : m = []
      · subst hn; simp [bs] at hu
      · exact hr.cells rfl hn j u hu
    obtain ⟨v', w', hrun, h2, h3, _⟩ := run_append_own (P := Tryd.prog) w base 37 ty 5 i0 _ 1 1 Tryd.underlying37 hi hz0 hz1 hz2 rfl (by decide) v _ _ hown a m.length c (bs m) (by rw [bs_length]; simp) hc (bs_one m)
      (by unfold maxLen; omega) (by omega) hbase
    refine ⟨v', w', hrun, ?_, (Below.refl _ _).grown h3 hbase (fun k hk => (hown.lt k hk).1), h3⟩
    unfold Own
    rw [bs_append, List.length_append]
    exact h2

section
variable {ops : Array Oper} {rest : List Oper} {o : Oper} {a : Act} {Q : Exit → Act → World → Prop} {w : World}
theorem wp_cat {K : Act → World → Prop} (s x : Operand) (ho : o.op = .call { callee := .builtin .append, args := #[s, x], argTypes := #[37, 37] })
    (base : Nat) (v : Value) (l m : List UInt8) (A : Option Addr) (n c : Nat) (hs : a.eval s = v) (hx : a.eval x = .slice A n c) (hn : n = m.length) (hown : Own w base v l) (hr : Rd w A m) (hbase : base ≤ w.heap.size) (hlen : l.length + m.length ≤ 140737488355328)
    (h : ∀ v' w', Own w' base v' (l ++ m) → Below base w w' → K (a.put o.dst v') w') : o.wp Tryd.prog a w K Q := by
  subst hn
  obtain ⟨v', w', hrun, h2, h3, _⟩ := run_cat w base o.type v l m A c hown hr hbase hlen
  unfold Oper.wp execOp
  simp only [ho, resolve, invoke, builtin, Sem.run_bind, Sem.run_pure, Result.andThen_ok, List.map_toArray, List.map_cons, List.map_nil, hs, hx, hrun]
  exact h v' w' h2 h3
theorem wpList_wanted {P : Program} {ops : Array Oper} {rest : List Oper} {o : Oper} {a : Act} {Q : Exit → Act → World → Prop} {w : World} (hgd : Region.wanted o (yielded ops a.tmps) = true)
    (h : ∀ K : Act → World → Prop, (∀ a w, wpList P ops Q rest a w → K a w) → o.wp P a w K Q) : wpList P ops Q (o :: rest) a w :=
  wpList_step fun K hK => by rw [if_pos hgd]; exact h K hK
/-- 'v = append(v, x...)', v of the call's own, x whatever reads as m. -/
theorem wpList_cat (hgd : Region.wanted o (yielded ops a.tmps) = true) (s x : Operand) (ho : o.op = .call { callee := .builtin .append, args := #[s, x], argTypes := #[37, 37] })
    (base : Nat) (v : Value) (l m : List UInt8) (A : Option Addr) (n c : Nat) (hs : a.eval s = v) (hx : a.eval x = .slice A n c) (hn : n = m.length) (hown : Own w base v l) (hr : Rd w A m) (hbase : base ≤ w.heap.size) (hlen : l.length + m.length ≤ 140737488355328)
    (h : ∀ v' w', Own w' base v' (l ++ m) → Below base w w' → wpList Tryd.prog ops Q rest (a.put o.dst v') w') : wpList Tryd.prog ops Q (o :: rest) a w :=
  wpList_wanted hgd fun _ hK => wp_cat s x ho base v l m A n c hs hx hn hown hr hbase hlen fun v' w' h2 h3 => hK _ _ (h v' w' h2 h3)
/-- 'v = append(v, n)', one byte. -/
theorem wpList_push {w0 : World} {n : Int} (hgd : Region.wanted o (yielded ops a.tmps) = true) (s x : Operand) (ho : o.op = .call { callee := .builtin .append, args := #[s, x], argTypes := #[37, 37] })
    (base : Nat) (v : Value) (l : List UInt8) (hs : a.eval s = v) (hx : a.eval x = .slice (some ⟨w0.heap.size, 0, none⟩) 1 1) (hown : Own w0 base v l) (h0 : 0 ≤ n) (h1 : n < 256) (hbase : base ≤ w0.heap.size) (hlen : l.length < 140737488355328)
    (h : ∀ v' w', Own w' base v' (l ++ [b8 n]) → Below base w0 w' → wpList Tryd.prog ops Q rest (a.put o.dst v') w') : wpList Tryd.prog ops Q (o :: rest) a (w0.alloc (.cells #[.int .u8 n] 5)) :=
  wpList_cat hgd s x ho base v l [b8 n] _ 1 1 hs hx rfl (hown.alloc _) (Rd.one w0 _ n h0 h1) (by simp; omega) (by simp; omega) fun v' w' h2 h3 =>
    h v' w' h2 (((Below.refl base w0).alloc hbase _).trans h3)
/-- 'string(x)'. -/
theorem wpList_str (hgd : Region.wanted o (yielded ops a.tmps) = true) (x : Operand) (ho : o.op = .convert 37 9 x) (l : List UInt8) (hx : Bytes l w (a.eval x))
    (h : wpList Tryd.prog ops Q rest (a.put o.dst (.string ⟨l.toArray⟩)) w) : wpList Tryd.prog ops Q (o :: rest) a w := by
  obtain ⟨A, c, hv, _, hr⟩ := hx
  refine wpList_wanted hgd fun K hK => ?_
  have hrun := hr.str (P := Tryd.prog) 37 9 5 c Tryd.underlying37 Tryd.underlying5 Tryd.underlying9
  unfold Oper.wp
  have he : (execOp a.eval o).run Tryd.prog w = .ok (.value (.string ⟨l.toArray⟩)) w := by simp [execOp, ho, hv, hrun]
  rw [he]
  exact hK _ _ h
end
end Go.Proofs.YtdllppaichlnaaaDoor
namespace Go.Proofs.YtdllppaichlnaaaDoor
open Go.ChangeShapes Go.WideShapes Go.ChangeAt Go.RowKit

theorem own : ownKnob Tryd.prog.godebug = none := by kernel_rfl
theorem laidOut : laidOutB Tryd.prog = true := by kernel_rfl

section
variable {H : Type} {enc : TypeId × Value → H} {P : Program} {W W' : World}
/-- What was read reads so again while nothing of it has turned. -/
theorem trodAll_stays (hl : laidOutB P = true) {sp : Nat → Bool} : ∀ (ts : List TypeId) (vs : List Value) (ds : List (DataW H)) (ps : List MemPlace), (∀ t ∈ ts, P.readableRec t = true ∧ t < P.types.size) →
    DataW.TrodAll enc P W 0 (fun _ => true) true ts vs ds ps → (∀ p ∈ ps, W.sameAt W' p) → (∀ p ∈ ps, sp p.block = true) → DataW.TrodAll enc P W' 0 sp true ts vs ds ps
  | [], vs, ds, ps, _, h, _, _ => by
    cases vs <;> cases ds <;> simp [DataW.TrodAll] at h
    subst h
    exact trodAll_mk0
  | t :: ts, vs, ds, ps, hr, h, hs, hp => by
    obtain ⟨v, vs', d, ds', p, q, rfl, rfl, rfl, h1, h2⟩ := trodAll_cons h
    have h3 := WideElems.Trod_stays hl (hr t (by simp)).1 (hr t (by simp)).2 (sp' := sp) h1 (fun x hx => hs x (List.mem_append_left _ hx)) (fun x hx => hp x (List.mem_append_left _ hx))
    have h4 := trodAll_stays hl ts vs' ds' q (fun x hx => hr x (List.mem_cons_of_mem _ hx)) h2 (fun x hx => hs x (List.mem_append_right _ hx)) (fun x hx => hp x (List.mem_append_right _ hx))
    exact trodAll_cons_mk h3 h4

/-- A law's post: true, and the arguments as they were. -/
theorem law_post {f : Func} {s : ChangeSpec} {args : Array Value} {ds gs : List (DataW H)} {before : List MemPlace} {tb : TypeId} (hl : laidOutB P = true)
    (hW : DataW.Whole enc P f.params.toList s.vars false W args.toList ds gs before) (hv : s.vars = []) (hparams : ∀ t ∈ f.params.toList, P.readableRec t = true ∧ t < P.types.size)
    (hres : f.resultTypes = #[tb]) (hub : P.underlying tb = some .bool) (hfn : s.fn H (ds ++ gs) = { results := [.lit (.bool true)], args := ds }) (hb : Below W.heap.size W W') :
    s.post enc P f false true false false W args (.bool true) W' := by
  have hW' := hW
  obtain ⟨p, q, hA, hV, rfl, hz, hn⟩ := hW
  rw [hv] at hV
  obtain ⟨rfl, rfl⟩ := trodVars_none hV
  have hlt := hW'.lt
  have hsame : ∀ x ∈ p, W.sameAt W' x := fun x hx => hb.same (hlt x (by simpa using hx))
  have hargs : ∀ sp : Nat → Bool, (∀ x ∈ p, sp x.block = true) → DataW.TrodAll enc P W' 0 sp true f.params.toList args.toList (s.fn H (ds ++ [])).args p := fun sp hs => by
    rw [hfn]
    exact trodAll_stays hl _ _ _ _ hparams hA hsame hs
  have hvars : ∀ sp : Nat → Bool, DataW.TrodVars enc P W' sp s.vars (s.fn H (ds ++ [])).vars [] := fun sp => by rw [hfn, hv]; rfl
  have hresults : ∀ (b : Nat) (sp : Nat → Bool) (hd : Bool), DataW.TrodAll enc P W' b sp hd f.resultTypes.toList ((Value.bool true).resultList f.resultTypes.size) (s.fn H (ds ++ [])).results [] := fun b sp hd => by
    rw [hfn, hres]
    exact trodAll_cons_mk (shut_bool hub true) trodAll_mk0
  refine ⟨ds, [], p ++ [], [], p, [], hW', hresults _ _ _, hargs _ (fun x hx => by simpa using hlt x (by simpa using hx)), hvars _, World.keptBut_mono (fun x hx => ⟨hx, ?_⟩) (hb.frame (· ∈ p ++ [])), fun h => by cases h⟩
  exact Or.inr (by simpa using hx)
end

set_option maxRecDepth 100000 in
/-- An argument that is a slice of bytes. -/
theorem open_bytes {H : Type} {enc : TypeId × Value → H} {W : World} {base : Nat} {v : Value} {d : DataW H} {ps : List MemPlace} (hval : Value.okWide Tryd.prog W .any base 37 v)
    (h : DataW.Trod enc Tryd.prog W 0 (fun _ => true) true 37 v d ps) :
    ∃ A c l, v = .slice A l.length c ∧ l.length ≤ c ∧ Rd W A l ∧ ((d = .nil ∧ l = []) ∨ ∃ elems spare, d = .slice elems spare ∧ elems.length = l.length ∧ elems.length + spare.length = c) := by
  obtain ⟨a0, len, cap, rfl⟩ := okWide_slice Tryd.underlying37 hval
  obtain ⟨n, hn⟩ := h
  rcases open_ints Tryd.underlying37 Tryd.underlying5 (by kernel_rfl) hn with ⟨hc, hx⟩ | ⟨a, len', cap', zs, hc, _, hlc, _, hz, hx, hcell, hwf⟩
  · simp [Value.cells] at hc
    obtain ⟨rfl, rfl, rfl⟩ := hc
    simp only [Prod.mk.injEq] at hx
    exact ⟨none, 0, [], rfl, Nat.le_refl _, Rd.nil _ _, .inl ⟨hx.1, rfl⟩⟩
  · simp [Value.cells] at hc
    obtain ⟨rfl, rfl, rfl⟩ := hc
    simp only [Prod.mk.injEq] at hx
    simp only [if_true] at hz
    have hlen : ((zs.take len).map b8).length = len := by simp; omega
    refine ⟨some a, cap, (zs.take len).map b8, by rw [hlen], by rw [hlen]; exact hlc, fun hn0 => ?_, .inr ⟨_, _, hx.1, ?_, ?_⟩⟩
    · have hp : 0 < zs.length := by
        have : len ≠ 0 := by intro e; apply hn0; apply List.length_eq_zero_iff.1; rw [hlen, e]
        omega
      obtain ⟨b, off, rfl, hcl⟩ := ints_at hcell hp
      refine ⟨b, off, rfl, fun j u hu => ?_⟩
      have hj : j < len := by
        rcases Nat.lt_or_ge j len with h' | h'
        · exact h'
        · rw [List.getElem?_eq_none (by rw [hlen]; exact h')] at hu; cases hu
      rw [hcl j (by omega)]
      rw [List.getElem?_map, List.getElem?_take_of_lt hj, List.getElem?_eq_getElem (by omega)] at hu
      have hu' : b8 zs[j] = u := by simpa using hu
      have hw := bounds_u8 (hwf zs[j] (List.getElem_mem _))
      rw [← hu', b8_toNat hw.1 (by omega), List.getD_eq_getElem?_getD, List.getElem?_eq_getElem (by omega)]
      rfl
    · rw [hlen]; simp [lits]; omega
    · simp [lits]; omega

/-- How long it may be, by the form's own reach. -/
theorem reach_bytes {H : Type} {P : Program} {ts : List TypeId} {ds : List (DataW H)} {t e : TypeId} {j : Nat} {l : List UInt8} {c : Nat} {d : DataW H} (hz : (DataW.weightsEach P ts ds).all (· ≤ reachBytes) = true) (ht : ts[j]? = some t) (hd : ds[j]? = some d)
    (hu : P.underlying t = some (.slice e)) (he : P.bytesOf e = 1) (h : (d = .nil ∧ l = []) ∨ ∃ elems spare, d = .slice elems spare ∧ elems.length = l.length ∧ elems.length + spare.length = c) : l.length ≤ 140737488351232 := by
  rcases h with ⟨_, rfl⟩ | ⟨elems, spare, rfl, hl, hc⟩
  · simp
  · have := sized_slice hz ht hd hu
    rw [he] at this
    unfold reachBytes at this
    omega
theorem readable_all {P : Program} (ts : List TypeId) (h : (ts.all fun t => P.readableRec t && decide (t < P.types.size)) = true) : ∀ t ∈ ts, P.readableRec t = true ∧ t < P.types.size := by
  intro t ht
  have := List.all_eq_true.1 h t ht
  simpa using this
theorem bulk_one {H : Type} (d : DataW H) : 1 ≤ Rows.uptoBulk d := by
  cases d with
  | lit l => cases l <;> simp [Rows.uptoBulk]
  | _ => simp [Rows.uptoBulk]
theorem bulk_length {H : Type} (l : List (DataW H)) : l.length ≤ Rows.uptoBulkAll l := by
  induction l with
  | nil => simp [Rows.uptoBulkAll]
  | cons x r ih =>
    have := bulk_one x
    simp only [Rows.uptoBulkAll, List.length_cons]
    omega
theorem bulk_bytes {H : Type} {d : DataW H} {l : List UInt8} {c : Nat} (h : (d = .nil ∧ l = []) ∨ ∃ elems spare, d = .slice elems spare ∧ elems.length = l.length ∧ elems.length + spare.length = c) : l.length + 1 ≤ Rows.uptoBulk d := by
  rcases h with ⟨rfl, rfl⟩ | ⟨elems, spare, rfl, hl, _⟩
  · simp [Rows.uptoBulk]
  · have h1 := bulk_length elems
    simp only [Rows.uptoBulk]
    omega
theorem bulk_string {H : Type} (s : ByteArray) : s.size + 1 ≤ Rows.uptoBulk (.lit (.string s.data.toList) : DataW H) := by
  simp only [Rows.uptoBulk]
  have : s.data.toList.length = s.size := by rw [Array.length_toList]; rfl
  omega
end Go.Proofs.YtdllppaichlnaaaDoor
namespace Go.Proofs.YtdllppaichlnaaaDoor

def M32 : Nat := 4294967296
/-- x turned to the right by n. -/
def rotr (n x : Nat) : Nat := x * 2 ^ (32 - n) % 4294967296 ||| x / 2 ^ n
def tri (a b c x : Nat) : Nat := rotr a x ^^^ rotr b x ^^^ rotr c x
def chf (x y z : Nat) : Nat := (x &&& y) ^^^ ((4294967295 - x) &&& z)
def maj (x y z : Nat) : Nat := (x &&& y) ^^^ (x &&& z) ^^^ (y &&& z)
def sig0 (x : Nat) : Nat := rotr 7 x ^^^ rotr 18 x ^^^ x / 8
def sig1 (x : Nat) : Nat := rotr 17 x ^^^ rotr 19 x ^^^ x / 1024
def startW : List Nat := [1779033703, 3144134277, 1013904242, 2773480762, 1359893119, 2600822924, 528734635, 1541459225]
def roundW : List Nat := [
  0x428a2f98, 0x71374491, 0xb5c0fbcf, 0xe9b5dba5, 0x3956c25b, 0x59f111f1, 0x923f82a4, 0xab1c5ed5,
  0xd807aa98, 0x12835b01, 0x243185be, 0x550c7dc3, 0x72be5d74, 0x80deb1fe, 0x9bdc06a7, 0xc19bf174,
  0xe49b69c1, 0xefbe4786, 0x0fc19dc6, 0x240ca1cc, 0x2de92c6f, 0x4a7484aa, 0x5cb0a9dc, 0x76f988da,
  0x983e5152, 0xa831c66d, 0xb00327c8, 0xbf597fc7, 0xc6e00bf3, 0xd5a79147, 0x06ca6351, 0x14292967,
  0x27b70a85, 0x2e1b2138, 0x4d2c6dfc, 0x53380d13, 0x650a7354, 0x766a0abb, 0x81c2c92e, 0x92722c85,
  0xa2bfe8a1, 0xa81a664b, 0xc24b8b70, 0xc76c51a3, 0xd192e819, 0xd6990624, 0xf40e3585, 0x106aa070,
  0x19a4c116, 0x1e376c08, 0x2748774c, 0x34b0bcb5, 0x391c0cb3, 0x4ed8aa4a, 0x5b9cca4f, 0x682e6ff3,
  0x748f82ee, 0x78a5636f, 0x84c87814, 0x8cc70208, 0x90befffa, 0xa4506ceb, 0xbef9a3f7, 0xc67178f2]
/-- Four bytes as a word. -/
def word4 (a b c d : Nat) : Nat := ((a * 16777216 ||| b * 65536) ||| c * 256) ||| d
def byteAt (l : List UInt8) (i : Nat) : Nat := (l.getD i 0).toNat
/-- The block's first words, so many. -/
def firstW (l : List UInt8) : Nat → List Nat
  | 0 => []
  | n + 1 => firstW l n ++ [word4 (byteAt l (4 * n)) (byteAt l (4 * n + 1)) (byteAt l (4 * n + 2)) (byteAt l (4 * n + 3))]
def nextW (w : List Nat) (i : Nat) : Nat := (sig1 (w.getD (i - 2) 0) + w.getD (i - 7) 0 + sig0 (w.getD (i - 15) 0) + w.getD (i - 16) 0) % 4294967296
def moreW (w : List Nat) : Nat → List Nat
  | 0 => w
  | n + 1 => moreW w n ++ [nextW (moreW w n) (16 + n)]
def sched (l : List UInt8) : List Nat := moreW (firstW l 16) 48
/-- The state within a block. -/
structure Sta where
  a : Nat
  b : Nat
  c : Nat
  d : Nat
  e : Nat
  f : Nat
  g : Nat
  h : Nat
def Sta.list (s : Sta) : List Nat := [s.a, s.b, s.c, s.d, s.e, s.f, s.g, s.h]
def Sta.t1 (s : Sta) (k w : Nat) : Nat := (s.h + tri 6 11 25 s.e + chf s.e s.f s.g + k + w) % 4294967296
def Sta.t2 (s : Sta) : Nat := (tri 2 13 22 s.a + maj s.a s.b s.c) % 4294967296
def Sta.next (s : Sta) (k w : Nat) : Sta := ⟨(s.t1 k w + s.t2) % 4294967296, s.a, s.b, s.c, (s.d + s.t1 k w) % 4294967296, s.e, s.f, s.g⟩
def Sta.rounds (s : Sta) (w : List Nat) : Nat → Sta
  | 0 => s
  | n + 1 => (s.rounds w n).next (roundW.getD n 0) (w.getD n 0)
def Sta.plus (s t : Sta) : Sta := ⟨(s.a + t.a) % 4294967296, (s.b + t.b) % 4294967296, (s.c + t.c) % 4294967296, (s.d + t.d) % 4294967296, (s.e + t.e) % 4294967296, (s.f + t.f) % 4294967296, (s.g + t.g) % 4294967296, (s.h + t.h) % 4294967296⟩
def mixedS (s : Sta) (l : List UInt8) : Sta := s.plus (s.rounds (sched l) 64)
/-- The state behind so many whole blocks. -/
def absS (s : Sta) (l : List UInt8) : Nat → Sta
  | 0 => s
  | n + 1 => mixedS (absS s l n) ((l.drop (64 * n)).take 64)
def absorb (s : Sta) (l : List UInt8) : Sta := absS s l (l.length / 64)
def b8n (n : Nat) : UInt8 := UInt8.ofNat n
def be8 (n : Nat) : List UInt8 := [b8n (n / 2 ^ 56), b8n (n / 2 ^ 48), b8n (n / 2 ^ 40), b8n (n / 2 ^ 32), b8n (n / 2 ^ 24), b8n (n / 2 ^ 16), b8n (n / 2 ^ 8), b8n n]
def be4 (n : Nat) : List UInt8 := [b8n (n / 2 ^ 24), b8n (n / 2 ^ 16), b8n (n / 2 ^ 8), b8n n]
/-- What stands behind the bytes of a list of that length: a bit, noughts. -/
def padLen (n : Nat) : Nat := (119 - n % 64) % 64
def endingS (r : List UInt8) (total : Nat) : List UInt8 := r ++ [128] ++ List.replicate (padLen r.length) 0 ++ be8 (8 * total % 18446744073709551616)
def Sta.out (s : Sta) : List UInt8 := be4 s.a ++ be4 s.b ++ be4 s.c ++ be4 s.d ++ be4 s.e ++ be4 s.f ++ be4 s.g ++ be4 s.h
def start0 : Sta := ⟨1779033703, 3144134277, 1013904242, 2773480762, 1359893119, 2600822924, 528734635, 1541459225⟩
def sumS (s : Sta) (ahead : Nat) (l : List UInt8) : List UInt8 :=
  (absorb (absorb s (l.take (l.length - l.length % 64))) (endingS (l.drop (l.length - l.length % 64)) (ahead + l.length))).out
def sha (l : List UInt8) : List UInt8 := sumS start0 0 l

/-- Every number is below 2^32. -/
structure Sta.ok (s : Sta) : Prop where
  a : s.a < 4294967296
  b : s.b < 4294967296
  c : s.c < 4294967296
  d : s.d < 4294967296
  e : s.e < 4294967296
  f : s.f < 4294967296
  g : s.g < 4294967296
  h : s.h < 4294967296
theorem rotr_lt (n x : Nat) (h : x < 4294967296) : rotr n x < 4294967296 :=
  Nat.or_lt_two_pow (n := 32) (Nat.mod_lt _ (by decide)) (Nat.lt_of_le_of_lt (Nat.div_le_self _ _) h)
theorem xor_lt32 {a b : Nat} (ha : a < 4294967296) (hb : b < 4294967296) : a ^^^ b < 4294967296 := Nat.xor_lt_two_pow (n := 32) ha hb
theorem and_lt32 {a b : Nat} (ha : a < 4294967296) : a &&& b < 4294967296 := Nat.lt_of_le_of_lt Nat.and_le_left ha
theorem or_lt32 {a b : Nat} (ha : a < 4294967296) (hb : b < 4294967296) : a ||| b < 4294967296 := Nat.or_lt_two_pow (n := 32) ha hb
theorem tri_lt (a b c x : Nat) (h : x < 4294967296) : tri a b c x < 4294967296 := xor_lt32 (xor_lt32 (rotr_lt _ _ h) (rotr_lt _ _ h)) (rotr_lt _ _ h)
theorem sig0_lt (x : Nat) (h : x < 4294967296) : sig0 x < 4294967296 := xor_lt32 (xor_lt32 (rotr_lt _ _ h) (rotr_lt _ _ h)) (by omega)
theorem sig1_lt (x : Nat) (h : x < 4294967296) : sig1 x < 4294967296 := xor_lt32 (xor_lt32 (rotr_lt _ _ h) (rotr_lt _ _ h)) (by omega)
theorem chf_lt (x y z : Nat) (hx : x < 4294967296) : chf x y z < 4294967296 := xor_lt32 (and_lt32 hx) (and_lt32 (by omega))
theorem maj_lt (x y z : Nat) (hx : x < 4294967296) (hy : y < 4294967296) : maj x y z < 4294967296 := xor_lt32 (xor_lt32 (and_lt32 hx) (and_lt32 hx)) (and_lt32 hy)
theorem Sta.next_ok {s : Sta} (h : s.ok) (k w : Nat) : (s.next k w).ok := ⟨Nat.mod_lt _ (by decide), h.a, h.b, h.c, Nat.mod_lt _ (by decide), h.e, h.f, h.g⟩
theorem Sta.rounds_ok {s : Sta} (h : s.ok) (w : List Nat) (n : Nat) : (s.rounds w n).ok := by
  induction n with
  | zero => exact h
  | succ n ih => exact Sta.next_ok ih _ _
theorem Sta.plus_ok (s t : Sta) : (s.plus t).ok := ⟨Nat.mod_lt _ (by decide), Nat.mod_lt _ (by decide), Nat.mod_lt _ (by decide), Nat.mod_lt _ (by decide), Nat.mod_lt _ (by decide), Nat.mod_lt _ (by decide), Nat.mod_lt _ (by decide), Nat.mod_lt _ (by decide)⟩
theorem absS_ok {s : Sta} (h : s.ok) (l : List UInt8) (n : Nat) : (absS s l n).ok := by
  cases n with
  | zero => exact h
  | succ n => exact Sta.plus_ok _ _
theorem absorb_ok {s : Sta} (h : s.ok) (l : List UInt8) : (absorb s l).ok := absS_ok h _ _
theorem start0_ok : start0.ok := ⟨by decide, by decide, by decide, by decide, by decide, by decide, by decide, by decide⟩
theorem firstW_length (l : List UInt8) (n : Nat) : (firstW l n).length = n := by
  induction n with
  | zero => rfl
  | succ n ih => simp [firstW, ih]
theorem moreW_length (w : List Nat) (n : Nat) : (moreW w n).length = w.length + n := by
  induction n with
  | zero => rfl
  | succ n ih => simp [moreW, ih]; omega
theorem sched_length (l : List UInt8) : (sched l).length = 64 := by simp [sched, moreW_length, firstW_length]
theorem be4_length (n : Nat) : (be4 n).length = 4 := rfl
theorem out_length (s : Sta) : s.out.length = 32 := rfl
theorem ending_length (r : List UInt8) (h : r.length < 64) (t : Nat) : (endingS r t).length = if r.length + 9 > 64 then 128 else 64 := by
  simp only [endingS, be8, padLen, List.length_append, List.length_replicate, List.length_cons, List.length_nil]
  split <;> omega
theorem word4_lt {a b c d : Nat} (ha : a < 256) (hb : b < 256) (hc : c < 256) (hd : d < 256) : word4 a b c d < 4294967296 :=
  or_lt32 (or_lt32 (or_lt32 (by omega) (by omega)) (by omega)) (by omega)
theorem byteAt_lt (l : List UInt8) (i : Nat) : byteAt l i < 256 := UInt8.toNat_lt _
theorem firstW_lt (l : List UInt8) (n : Nat) : ∀ x ∈ firstW l n, x < 4294967296 := by
  induction n with
  | zero => intro x h; cases h
  | succ n ih =>
    intro x h
    rcases List.mem_append.1 h with h | h
    · exact ih x h
    · rw [List.mem_singleton.1 h]
      exact word4_lt (byteAt_lt _ _) (byteAt_lt _ _) (byteAt_lt _ _) (byteAt_lt _ _)
theorem moreW_lt (w : List Nat) (hw : ∀ x ∈ w, x < 4294967296) (n : Nat) : ∀ x ∈ moreW w n, x < 4294967296 := by
  induction n with
  | zero => exact hw
  | succ n ih =>
    intro x h
    rcases List.mem_append.1 h with h | h
    · exact ih x h
    · rw [List.mem_singleton.1 h]
      exact Nat.mod_lt _ (by decide)
theorem sched_lt (l : List UInt8) : ∀ x ∈ sched l, x < 4294967296 := moreW_lt _ (firstW_lt l 16) 48
theorem sha_abc : sha [97, 98, 99] = [0xba, 0x78, 0x16, 0xbf, 0x8f, 0x01, 0xcf, 0xea, 0x41, 0x41, 0x40, 0xde, 0x5d, 0xae, 0x22, 0x23, 0xb0, 0x03, 0x61, 0xa3, 0x96, 0x17, 0x7a, 0x9c, 0xb4, 0x10, 0xff, 0x61, 0xf2, 0x00, 0x15, 0xad] := by decide +kernel
end Go.Proofs.YtdllppaichlnaaaDoor
namespace Go.Proofs.YtdllppaichlnaaaDoor
open Go.RowKit

/-- A call that hands back this value and leaves the world as it was. -/
def Val (x : Value) (w : World) (e : Ending) (w' : World) : Prop := e = .returned x ∧ w' = w

theorem rot_mask (n m : Nat) (h : n + m = 32) (hn : 0 < n) (hm : 0 < m) : bits .and .u64 (IntKind.u64.wrap (-(n : Int))) 31 = (m : Int) := by
  have e : IntKind.u64.wrap (-(n : Int)) = ((18446744073709551616 - n : Nat) : Int) := by rw [IntKind.wrap_u64]; omega
  rw [e]
  have h1 := u64_and_nat (18446744073709551616 - n) 31 (by omega) (by omega)
  have h2 : (18446744073709551616 - n) &&& 31 = (18446744073709551616 - n) % 2 ^ 5 := Nat.and_two_pow_sub_one_eq_mod _ 5
  rw [h2] at h1
  refine h1.trans ?_
  congr 1
  omega
theorem rot_or (n m x : Nat) (h : n + m = 32) (hx : x < 4294967296) : bits .or .u32 ((x : Int) * 2 ^ m % 4294967296) ((x : Int) / 2 ^ n) = (rotr n x : Int) := by
  have e1 : (x : Int) * 2 ^ m % 4294967296 = ((x * 2 ^ m % 4294967296 : Nat) : Int) := by
    rw [show (x : Int) * 2 ^ m = ((x * 2 ^ m : Nat) : Int) by simp]
    omega
  have e2 : (x : Int) / 2 ^ n = ((x / 2 ^ n : Nat) : Int) := by simp
  rw [e1, e2, u32_or_nat _ _ (Nat.mod_lt _ (by decide)) (Nat.lt_of_le_of_lt (Nat.div_le_self _ _) hx)]
  unfold rotr
  rw [show 32 - n = m by omega]

set_option maxHeartbeats 400000 in
theorem rot_any (n : Nat) (hn : 0 < n ∧ n < 32) (x : Nat) (hx : x < 4294967296) (w : World) :
    Calls Tryd.prog 50 #[.int .u32 (x : Int), .int .i64 (-(n : Int))] w (Val (.int .u32 (rotr n x : Int)) w) := by
  obtain ⟨m, hm, h0, h1⟩ : ∃ m, n + m = 32 ∧ 0 < m ∧ m < 32 := ⟨32 - n, by omega, by omega, by omega⟩
  have e0 := rot_mask n m hm hn.1 h0
  have e1 := rot_or n m x hm hx
  have e2 : IntKind.u64.wrap (32 - (m : Int)) = (n : Int) := by rw [IntKind.wrap_u64]; omega
  have e3 : (32 - (m : Int)) = (n : Int) := by omega
  go_enter Tryd.func50, Tryd.ntmps50
  go_wp2
  go_ret
  exact ⟨rfl, rfl⟩

set_option maxHeartbeats 400000 in
theorem turned_any (a b c : Nat) (ha : 0 < a ∧ a < 32) (hb : 0 < b ∧ b < 32) (hc : 0 < c ∧ c < 32) (x : Nat) (hx : x < 4294967296) (w : World) :
    Calls Tryd.prog 47 #[.int .u32 (x : Int), .int .i64 (a : Int), .int .i64 (b : Int), .int .i64 (c : Int)] w (Val (.int .u32 (tri a b c x : Int)) w) := by
  have e1 := u32_xor_nat (rotr a x) (rotr b x) (rotr_lt _ _ hx) (rotr_lt _ _ hx)
  have e2 := u32_xor_nat (rotr a x ^^^ rotr b x) (rotr c x) (xor_lt32 (rotr_lt _ _ hx) (rotr_lt _ _ hx)) (rotr_lt _ _ hx)
  have K1 := hide (rot_any a ha x hx)
  have K2 := hide (rot_any b hb x hx)
  have K3 := hide (rot_any c hc x hx)
  go_enter Tryd.func47, Tryd.ntmps47
  go_wp2_with (first
    | (go_at_call 50; ((with_reducible refine (K1.out _).mono ?_); rintro e w1 ⟨rfl, rfl⟩))
    | (go_at_call 50; ((with_reducible refine (K2.out _).mono ?_); rintro e w2 ⟨rfl, rfl⟩))
    | (go_at_call 50; ((with_reducible refine (K3.out _).mono ?_); rintro e w3 ⟨rfl, rfl⟩)))
  go_ret
  exact ⟨rfl, rfl⟩

theorem nat_not_word (s : Nat) (h : s < 4294967296) : 4294967295 ^^^ s = 4294967295 - s := by
  have h1 := BitVec.toNat_not (x := BitVec.ofNat 32 s)
  rw [← BitVec.allOnes_xor, BitVec.toNat_xor, BitVec.toNat_allOnes, BitVec.toNat_ofNat, Nat.mod_eq_of_lt (show s < 2 ^ 32 by omega)] at h1
  exact h1
theorem not_word (s : Nat) (h : s < 4294967296) : bits .xor .u32 IntKind.u32.max (s : Int) = ((4294967295 - s : Nat) : Int) := by
  have e : IntKind.u32.max = ((4294967295 : Nat) : Int) := by decide
  have := u32_xor_nat 4294967295 s (by decide) h
  rw [nat_not_word s h] at this
  rw [e]
  exact this

set_option maxHeartbeats 400000 in
theorem choice_any (x y z : Nat) (hx : x < 4294967296) (hy : y < 4294967296) (hz : z < 4294967296) (w : World) :
    Calls Tryd.prog 48 #[.int .u32 (x : Int), .int .u32 (y : Int), .int .u32 (z : Int)] w (Val (.int .u32 (chf x y z : Int)) w) := by
  have e1 := u32_and_nat x y hx hy
  have e2 := u32_and_nat (4294967295 - x) z (by omega) hz
  have e3 := u32_xor_nat (x &&& y) ((4294967295 - x) &&& z) (and_lt32 hx) (and_lt32 (by omega))
  have e4 := not_word x hx
  have es : ¬ IntKind.u32.signed = true := by decide
  go_enter Tryd.func48, Tryd.ntmps48
  go_wp2
  go_ret
  exact ⟨rfl, rfl⟩

set_option maxHeartbeats 400000 in
theorem maj_any (x y z : Nat) (hx : x < 4294967296) (hy : y < 4294967296) (hz : z < 4294967296) (w : World) :
    Calls Tryd.prog 49 #[.int .u32 (x : Int), .int .u32 (y : Int), .int .u32 (z : Int)] w (Val (.int .u32 (maj x y z : Int)) w) := by
  have e1 := u32_and_nat x y hx hy
  have e2 := u32_and_nat x z hx hz
  have e3 := u32_and_nat y z hy hz
  have e4 := u32_xor_nat (x &&& y) (x &&& z) (and_lt32 hx) (and_lt32 hx)
  have e5 := u32_xor_nat ((x &&& y) ^^^ (x &&& z)) (y &&& z) (xor_lt32 (and_lt32 hx) (and_lt32 hx)) (and_lt32 hy)
  go_enter Tryd.func49, Tryd.ntmps49
  go_wp2
  go_ret
  exact ⟨rfl, rfl⟩
end Go.Proofs.YtdllppaichlnaaaDoor
namespace Go.Proofs.YtdllppaichlnaaaDoor
open Go.RowKit

/-- Block g is just the bytes l. -/
def Blk (w : World) (g : Nat) (l : List UInt8) : Prop := w.heap[g]? = some (.cells (bs l).toArray 5 (0, 0))

theorem madeCells_zero (n : Nat) : madeCells #[.int .u8 0] n = (bs (List.replicate n 0)).toArray := by
  apply Array.ext'
  apply List.ext_getElem?
  intro i
  simp [madeCells, bs]
  by_cases h : i < n
  · simp [h, Nat.mod_one]
  · simp [h]
theorem info_size : (Tryd.prog.info? 5).map (·.size) = some 1 := by kernel_rfl

section
variable {w w' : World} {g : Nat} {l : List UInt8}
theorem Blk.made (w : World) (n : Nat) : Blk (w.alloc (.cells (madeCells #[.int .u8 0] n) 5)) w.heap.size (List.replicate n 0) := by
  unfold Blk
  rw [madeCells_zero]
  exact heap_alloc_new w _
theorem Blk.lt (h : Blk w g l) : g < w.heap.size := by
  rcases Nat.lt_or_ge g w.heap.size with h' | h'
  · exact h'
  · unfold Blk at h; rw [Array.getElem?_eq_none h'] at h; cases h
theorem Blk.cell (h : Blk w g l) {i : Nat} {x : UInt8} (hx : l[i]? = some x) : w.cell? ⟨g, i, none⟩ = some (.int .u8 (x.toNat : Int)) := by
  rw [cell_of_row w g i _ _ (0, 0) h, List.getElem?_toArray, bs_get, hx]
  rfl
theorem Blk.frozen (h : Blk w g l) (i : Nat) : w.frozen? ⟨g, i, none⟩ = false := by
  unfold Blk at h
  simp [World.frozen?, h]
theorem Blk.set (h : Blk w g l) (i : Nat) (n : Int) (h0 : 0 ≤ n) (h1 : n < 256) : Blk (w.setCell ⟨g, i, none⟩ (.int .u8 n)) g (l.set i (b8 n)) := by
  unfold Blk at h ⊢
  have e : (bs (l.set i (b8 n))).toArray = (bs l).toArray.setIfInBounds i (.int .u8 n) := by
    rw [List.setIfInBounds_toArray]
    congr 1
    unfold bs
    rw [List.map_set, b8_toNat h0 h1]
  rw [e]
  simp [World.setCell, Array.getElem?_modify, h]
theorem Blk.alloc (h : Blk w g l) (o : Obj) : Blk (w.alloc o) g l := (Below.heap_alloc w o g h.lt).trans h
theorem Blk.ext (h : Blk w g l) (hx : Ext w w') : Blk w' g l := (Below.block hx g h.lt).trans h
theorem Blk.below {B : Nat} (h : Blk w g l) (hb : Below B w w') (hg : g < B) : Blk w' g l := (hb.block g hg).trans h
theorem Blk.far (h : Blk w g l) {p : Addr} (hp : g ≠ p.block) (u : Value) : Blk (w.setCell p u) g l := (Below.heap_setCell w p u g hp).trans h
theorem Blk.rd (h : Blk w g l) : Rd w (some ⟨g, 0, none⟩) l := fun _ => ⟨g, 0, rfl, fun j u hu => by rw [Nat.zero_add]; exact h.cell hu⟩
theorem Blk.bytes (h : Blk w g l) {n c : Nat} (hn : n = l.length) (hc : n ≤ c) : Bytes l w (.slice (some ⟨g, 0, none⟩) n c) := by
  subst hn
  exact ⟨_, _, rfl, hc, h.rd⟩
/-- What stands at the block's cells, from a place on. -/
theorem Blk.rdAt (h : Blk w g l) (k : Nat) : Rd w (some ⟨g, k, none⟩) (l.drop k) := fun _ => ⟨g, k, rfl, fun j u hu => by rw [List.getElem?_drop] at hu; exact h.cell hu⟩
end

theorem run_make_bytes (n : Nat) (hn : n ≤ 281474976710656) (W : World) : (Instr.makeSlice 37 (.int .i64 (n : Int)) (.int .i64 (n : Int))).run Tryd.prog W =
    .ok (.slice (some ⟨W.heap.size, 0, none⟩) n n) (W.alloc (.cells (madeCells #[.int .u8 0] n) 5)) := by
  obtain ⟨i0, hi, hz0, hz1, hz2⟩ := info_parts info_u8
  have h := run_make (P := Tryd.prog) W 37 5 i0 (.int .u8 0) Tryd.underlying37 hi hz0 .i64 .i64 (n : Int) (n : Int) (by omega) (by omega) (by rw [hz2]; omega) (by omega)
  simpa [hz1, Value.cells] using h

/-- m laid over l from a place on. -/
def over (l : List UInt8) (off : Nat) (m : List UInt8) : List UInt8 := l.take off ++ (m ++ l.drop (off + m.length))
theorem over_length (l : List UInt8) (off : Nat) (m : List UInt8) (h : off + m.length ≤ l.length) : (over l off m).length = l.length := by simp [over]; omega

/-- 'copy(d, s)', d within a block of the call's own. -/
theorem wpList_copy {w : World} {ops : Array Oper} {rest : List Oper} {o : Oper} {a : Act} {Q : Exit → Act → World → Prop} (hgd : o.guard = none) (d s : Operand)
    (ho : o.op = .call { callee := .builtin .copy, args := #[d, s], argTypes := #[37, 37] })
    (g off dLen dCap : Nat) (A : Option Addr) (n c : Nat) (hd : a.eval d = .slice (some ⟨g, off, none⟩) dLen dCap) (hs : a.eval s = .slice A n c) (l m : List UInt8) (hn : n = m.length)
    (hg : Blk w g l) (hr : Rd w A m) (hfit : off + min m.length dLen ≤ l.length) (B : Nat) (hBg : B ≤ g)
    (h : ∀ w', Blk w' g (over l off (m.take dLen)) → Below B w w' → wpList Tryd.prog ops Q rest (a.put o.dst (goInt ((min m.length dLen : Nat) : Int))) w') : wpList Tryd.prog ops Q (o :: rest) a w := by
  subst hn
  have hlen : (bs (m.take dLen)).length = Nat.min m.length dLen := by rw [bs_length, List.length_take, Nat.min_comm]
  have e : goInt (bs (m.take dLen)).length = goInt ((min m.length dLen : Nat) : Int) := by rw [hlen]
  refine wpList_copy_splice hgd d s 37 37 ho 5 Tryd.underlying37 info_size (some ⟨g, off, none⟩) A dLen dCap m.length c hd hs g off (bs l) 5 hg (bs (m.take dLen)) hlen ?_ ?_ (bs_one _) B w (Below.refl _ _) hBg ?_
  · intro hp
    refine ⟨rfl, ?_⟩
    have hne : m.take dLen ≠ [] := by intro e; rw [e] at hp; simp [bs] at hp
    obtain ⟨b, o2, hA, hc⟩ := (hr.take dLen) hne
    exact ⟨_, hA, (hr.take dLen).cells hA hne⟩
  · rw [hlen, bs_length]; exact hfit
  · intro w' hw' hb'
    rw [e]
    refine h w' ?_ hb'
    have hw := hw'.out
    have e2 : splice (bs l) off (bs (m.take dLen)) = bs (over l off (m.take dLen)) := by
      unfold splice over bs
      simp only [List.map_append, List.map_take, List.map_drop, List.length_map, List.length_take]
    rw [e2] at hw
    exact hw
end Go.Proofs.YtdllppaichlnaaaDoor
namespace Go.Proofs.YtdllppaichlnaaaDoor
open Go.RowKit

theorem Ext.drewN {w W : World} (h : Ext w W) (n : Nat) : Ext w (W.drewN n) := ⟨h.os, h.tape, h.output, h.size, h.block⟩

theorem Rd.drewN {w : World} {A : Option Addr} {l : List UInt8} (h : Rd w A l) (n : Nat) : Rd (w.drewN n) A l := h.ext ((Ext.refl w).drewN n)

section
variable {P : Program} {ops : Array Oper} {o : Oper} {a : Act} {w : World} {R : Value → World → Prop}
theorem gives_lss_int {xt yt : Nat} {x y : Operand} {k : IntKind} (m n : Int) (h : o.op = .binOp .lss xt x y yt) (hx : a.eval x = .int k m) (hy : a.eval y = .int k n) (hR : R (.bool (decide (m < n))) w) : gives P o a w R :=
  gives_bin h hx hy (by simp [go_sem]) (by simp [go_sem]) hR
theorem gives_lss_str {xt yt : Nat} {x y : Operand} (l m : List UInt8) (h : o.op = .binOp .lss xt x y yt) (hx : a.eval x = .string ⟨l.toArray⟩) (hy : a.eval y = .string ⟨m.toArray⟩) (hR : R (.bool (Op.bytesLess l m)) w) : gives P o a w R :=
  gives_bin h hx hy (by simp [go_sem]) (by simp [go_sem]) hR
theorem gives_geq_int {xt yt : Nat} {x y : Operand} {k : IntKind} (m n : Int) (h : o.op = .binOp .geq xt x y yt) (hx : a.eval x = .int k m) (hy : a.eval y = .int k n) (hR : R (.bool (decide (n ≤ m))) w) : gives P o a w R :=
  gives_bin h hx hy (by simp [go_sem]) (by simp [go_sem]) hR
theorem gives_gtr_int {xt yt : Nat} {x y : Operand} {k : IntKind} (m n : Int) (h : o.op = .binOp .gtr xt x y yt) (hx : a.eval x = .int k m) (hy : a.eval y = .int k n) (hR : R (.bool (decide (n < m))) w) : gives P o a w R :=
  gives_bin h hx hy (by simp [go_sem]) (by simp [go_sem]) hR
theorem gives_eql_bool {xt yt : Nat} {x y : Operand} (p q : Bool) (hu : P.underlying xt = some .bool) (h : o.op = .binOp .eql xt x y yt) (hx : a.eval x = .bool p) (hy : a.eval y = .bool q) (hR : R (.bool (p == q)) w) : gives P o a w R :=
  gives_bin h hx hy (by simp [go_sem]) (by simp [go_sem, hu]) hR
theorem gives_not {xt : Nat} {x : Operand} (p : Bool) (h : o.op = .unOp .not xt x) (hx : a.eval x = .bool p) (hR : R (.bool !p) w) : gives P o a w R := by
  refine gives_of_run (w' := w) (v := .bool !p) ?_ hR
  have e : (execOp a.eval o).run P w = ((Op.unary .not (a.eval x)).run P w).andThen fun v w' => .ok (.value v) w' := by simp [execOp, h]
  rw [e, hx]
  simp [go_sem]
theorem gives_len {x : Operand} {t : Nat} {A : Option Addr} {n c : Nat} (h : o.op = .call { callee := .builtin .len, args := #[x], argTypes := #[t] }) (ht : ∃ e, P.underlying t = some (.slice e)) (hx : a.eval x = .slice A n c) (hR : R (.int .i64 (n : Int)) w) : gives P o a w R := by
  obtain ⟨e, ht⟩ := ht
  have hlen : (Builtin.len_ #[t] o.type #[.slice A n c]).run P w = .ok (.int .i64 (n : Int)) w := by simp [go_sem, ht]
  refine gives_of_run (w' := w) (v := .int .i64 (n : Int)) ?_ hR
  unfold execOp
  simp only [h, resolve, invoke, builtin, Sem.run_bind, Sem.run_pure, Result.andThen_ok, List.map_toArray, List.map_cons, List.map_nil, hx, hlen]
theorem gives_cut {x y : Operand} {t e : Nat} {A : Option Addr} {n m c : Nat} (h : o.op = .slice t x none (some y) none) (ht : P.underlying t = some (.slice e)) (he : (P.info? e).isSome = true) (hx : a.eval x = .slice A n c) (hy : a.eval y = .int .i64 (m : Int)) (hm : m ≤ c)
    (hR : R (.slice A m c) w) : gives P o a w R := by
  obtain ⟨i, hi⟩ := Option.isSome_iff_exists.1 he
  have hcut : (Instr.slice t (.slice A n c) none (some (.int .i64 (m : Int))) none).run P w = .ok (.slice A m c) w := by
    simp [Instr.slice, run_underlying ht, Instr.sliceBounds, Instr.sliceBound, asIntOf, hm, sizeOf, typeInfo, hi]
    cases A with
    | none => simp
    | some ad => simp [Addr.add]
  have hcut2 : (Instr.sliceAt t (.slice A n c) none (some (.int .i64 (m : Int))) none).run P w = .ok (.slice A m c) w := by simp [Instr.sliceAt, run_underlying ht, hcut]
  refine gives_of_run (w' := w) (v := .slice A m c) ?_ hR
  unfold execOp
  simp only [h, Option.map_some, Option.map_none, hx, hy, Sem.run_bind, hcut2, Result.andThen_ok, Sem.run_pure]
end
end Go.Proofs.YtdllppaichlnaaaDoor
namespace Go.Proofs.YtdllppaichlnaaaDoor
open Go.RowKit

/-- Block g, laid for the type t, is just these cells. -/
def Rw (w : World) (g : Nat) (t : TypeId) (vs : List Value) : Prop := w.heap[g]? = some (.cells vs.toArray t (0, 0))
section
variable {w w' : World} {g : Nat} {t : TypeId} {vs : List Value}
theorem Rw.new (w : World) (t : TypeId) (vs : List Value) : Rw (w.alloc (.cells vs.toArray t)) w.heap.size t vs := heap_alloc_new w _
theorem Rw.lt (h : Rw w g t vs) : g < w.heap.size := by
  rcases Nat.lt_or_ge g w.heap.size with h' | h'
  · exact h'
  · unfold Rw at h; rw [Array.getElem?_eq_none h'] at h; cases h
theorem Rw.cell (h : Rw w g t vs) {i : Nat} {v : Value} (hx : vs[i]? = some v) : w.cell? ⟨g, i, none⟩ = some v := by
  rw [cell_of_row w g i _ _ (0, 0) h, List.getElem?_toArray, hx]
theorem Rw.frozen (h : Rw w g t vs) (i : Nat) : w.frozen? ⟨g, i, none⟩ = false := by
  unfold Rw at h
  simp [World.frozen?, h]
theorem Rw.set (h : Rw w g t vs) (i : Nat) (v : Value) : Rw (w.setCell ⟨g, i, none⟩ v) g t (vs.set i v) := by
  unfold Rw at h ⊢
  have e : (vs.set i v).toArray = vs.toArray.setIfInBounds i v := by rw [List.setIfInBounds_toArray]
  rw [e]
  simp [World.setCell, Array.getElem?_modify, h]
theorem Rw.ext (h : Rw w g t vs) (hx : Ext w w') : Rw w' g t vs := (Below.block hx g h.lt).trans h
theorem Rw.below {B : Nat} (h : Rw w g t vs) (hb : Below B w w') (hg : g < B) : Rw w' g t vs := (hb.block g hg).trans h
theorem Rw.alloc (h : Rw w g t vs) (o : Obj) : Rw (w.alloc o) g t vs := (Below.heap_alloc w o g h.lt).trans h
theorem Rw.far (h : Rw w g t vs) {p : Addr} (hp : g ≠ p.block) (u : Value) : Rw (w.setCell p u) g t vs := (Below.heap_setCell w p u g hp).trans h
/-- What a whole store leaves: block g turned, all else as it was. -/
structure Laid1 (g : Nat) (w w' : World) : Prop where
  below : Below g w w'
  other : ∀ k, k ≠ g → w'.heap[k]? = w.heap[k]?
theorem Rw.other {k : Nat} (h : Rw w k t vs) (hl : Laid1 g w w') (hk : k ≠ g) : Rw w' k t vs := (hl.other k hk).trans h
theorem Laid1.of_row (w : World) (g : Nat) (cs : Array Value) : Laid1 g w (w.setRow g cs) := ⟨⟨rfl, rfl, rfl, by simp [World.setRow], fun k hk => setRow_other w g k cs (by omega)⟩, fun k hk => setRow_other w g k cs hk⟩
theorem Laid1.of_cell (w : World) (g i : Nat) (u : Value) : Laid1 g w (w.setCell ⟨g, i, none⟩ u) := ⟨Below.setCell (p := ⟨g, i, none⟩) (Below.refl g w) (Nat.le_refl g) u, fun k hk => Below.heap_setCell w _ u k hk⟩
end
/-- Writing above B: nothing below has turned. -/
theorem Below.set {B : Nat} {w w' : World} (h : Below B w w') {p : Addr} (hp : B ≤ p.block) (u : Value) : Below B w (w'.setCell p u) := Below.setCell h hp u
theorem Ext.laid {w w' w'' : World} {g : Nat} (h : Ext w w') (hl : Laid1 g w' w'') (hg : w.heap.size ≤ g) : Ext w w'' := Below.trans h (Below.mono hl.below hg)

section
variable {P : Program} {ops : Array Oper} {rest : List Oper} {o : Oper} {a : Act} {w : World} {Q : Exit → Act → World → Prop} {R : Value → World → Prop}
/-- A whole array read. -/
theorem wpList_load_rw (hgd : o.guard = none) (ty : TypeId) (x : Operand) (ho : o.op = .load ty x) (g : Nat) (hx : a.eval x = .pointer (some ⟨g, 0, none⟩)) (t : TypeId) (vs : List Value) (hr : Rw w g t vs)
    (n : Nat) (e : TypeId) (hu : P.underlying ty = some (.array n e)) (hi : (P.info? ty).map (·.size) = some n) (hn : n = vs.length)
    (h : wpList P ops Q rest (a.put o.dst (.agg vs.toArray)) w) : wpList P ops Q (o :: rest) a w :=
  wpList_load_row hgd ty x ho g hx t vs.toArray (0, 0) _ hr hu rfl (by rw [hi, hn]; simp) h
/-- A whole array laid. -/
theorem wpList_store_rw (hgd : o.guard = none) (ty : TypeId) (x y : Operand) (ho : o.op = .store ty x y) (g : Nat) (hx : a.eval x = .pointer (some ⟨g, 0, none⟩)) (us : List Value) (hy : a.eval y = .agg us.toArray)
    (t : TypeId) (vs : List Value) (hr : Rw w g t vs) (n : Nat) (hi : (P.info? ty).map (·.size) = some n) (hn : n = us.length) (hm : vs.length = us.length) (h1 : us.all (·.oneCell') = true)
    (h : ∀ w', Rw w' g t us → Laid1 g w w' → wpList P ops Q rest (a.put o.dst undef) w') : wpList P ops Q (o :: rest) a w :=
  wpList_store_row hgd ty x y ho g us.toArray hx hy t vs.toArray hr (by rw [hi, hn]; simp) (by simpa using hm) (by simpa using h1) (h _ (setRow_heap w g _ _ t _ hr) (Laid1.of_row w g _))
theorem gives_load_rw (ty : TypeId) (x : Operand) (ho : o.op = .load ty x) (g : Nat) (hx : a.eval x = .pointer (some ⟨g, 0, none⟩)) (t : TypeId) (vs : List Value) (hr : Rw w g t vs)
    (n : Nat) (e : TypeId) (hu : P.underlying ty = some (.array n e)) (hi : (P.info? ty).map (·.size) = some n) (hn : n = vs.length) (hR : R (.agg vs.toArray) w) : gives P o a w R := by
  unfold gives execOp
  simp only [ho, hx, Instr.loadAt, Instr.sureAddr, Sem.run_bind, Sem.run_pure, Result.andThen_ok, run_loadVar_row w g t ty vs.toArray (0, 0) _ hr hu rfl (by rw [hi, hn]; simp)]
  exact hR
theorem gives_store_rw (ty : TypeId) (x y : Operand) (ho : o.op = .store ty x y) (g : Nat) (hx : a.eval x = .pointer (some ⟨g, 0, none⟩)) (us : List Value) (hy : a.eval y = .agg us.toArray)
    (t : TypeId) (vs : List Value) (hr : Rw w g t vs) (n : Nat) (hi : (P.info? ty).map (·.size) = some n) (hn : n = us.length) (hm : vs.length = us.length) (h1 : us.all (·.oneCell') = true)
    (hR : ∀ w', Rw w' g t us → Laid1 g w w' → R undef w') : gives P o a w R := by
  unfold gives execOp
  simp only [ho, hx, hy, Instr.storeAt, Instr.sureAddr, Sem.run_bind, Sem.run_pure, Result.andThen_ok, run_storeVar_row w g t ty vs.toArray us.toArray hr (by rw [hi, hn]; simp) (by simpa using hm) (by simpa using h1)]
  exact hR _ (setRow_heap w g _ _ t _ hr) (Laid1.of_row w g _)
/-- A result out of its cell. -/
theorem ret_rw {fn : Func} {p : Tmp} {ty : TypeId} {S : Ending → World → Prop} (hf : fn.results = #[.cell p ty]) (hd : a.defers = []) (g : Nat) (hp : a.tmps.getD p undef = .pointer (some ⟨g, 0, none⟩)) (t : TypeId) (vs : List Value) (hr : Rw w g t vs)
    (n : Nat) (e : TypeId) (hu : P.underlying ty = some (.array n e)) (hi : (P.info? ty).map (·.size) = some n) (hn : n = vs.length) (h : S (.returned (.agg vs.toArray)) w) : bodyPost P fn S .ret a w :=
  bodyPost_ret (results_cell_row hf a.tmps w g t vs.toArray (0, 0) _ hp hr hu rfl (by rw [hi, hn]; simp)) hd h
end

/-- Words as values. -/
def us (l : List Nat) : List Value := l.map fun (n : Nat) => .int .u32 (n : Int)
theorem us_length (l : List Nat) : (us l).length = l.length := by simp [us]
theorem us_get (l : List Nat) (i : Nat) : (us l)[i]? = l[i]?.map fun (n : Nat) => .int .u32 (n : Int) := by simp [us]
theorem us_one (l : List Nat) : (us l).all (·.oneCell') = true := by simp [us, Value.oneCell']
/-- Block g, laid for the type t, is just these words. -/
def Wds (w : World) (g : Nat) (t : TypeId) (l : List Nat) : Prop := Rw w g t (us l)
section
variable {w w' : World} {g : Nat} {t : TypeId} {l : List Nat}
theorem Wds.new (w : World) (t : TypeId) (l : List Nat) : Wds (w.alloc (.cells (us l).toArray t)) w.heap.size t l := heap_alloc_new w _
theorem Wds.lt (h : Wds w g t l) : g < w.heap.size := Rw.lt h
theorem Wds.cell (h : Wds w g t l) {i n : Nat} (hx : l[i]? = some n) : w.cell? ⟨g, i, none⟩ = some (.int .u32 (n : Int)) := Rw.cell h (by rw [us_get, hx]; rfl)
theorem Wds.frozen (h : Wds w g t l) (i : Nat) : w.frozen? ⟨g, i, none⟩ = false := Rw.frozen h i
theorem Wds.put (h : Wds w g t l) (i : Nat) {v : Int} (n : Nat) (hv : v = (n : Int)) {m : List Nat} (hm : l.set i n = m) : Wds (w.setCell ⟨g, i, none⟩ (.int .u32 v)) g t m := by
  subst hv hm
  have := Rw.set h i (.int .u32 (n : Int))
  unfold Wds us
  rw [List.map_set]
  exact this
theorem Wds.ext (h : Wds w g t l) (hx : Ext w w') : Wds w' g t l := Rw.ext h hx
theorem Wds.below {B : Nat} (h : Wds w g t l) (hb : Below B w w') (hg : g < B) : Wds w' g t l := Rw.below h hb hg
theorem Wds.far (h : Wds w g t l) {p : Addr} (hp : g ≠ p.block) (u : Value) : Wds (w.setCell p u) g t l := Rw.far h hp u
theorem Wds.other {k : Nat} (h : Wds w k t l) (hl : Laid1 g w w') (hk : k ≠ g) : Wds w' k t l := Rw.other h hl hk
end
theorem set_mid (a : List Nat) (n : Nat) (v : Nat) (k : Nat) (hk : k = a.length) (h : 0 < n) : (a ++ List.replicate n 0).set k v = (a ++ [v]) ++ List.replicate (n - 1) 0 := by
  subst hk
  obtain ⟨m, rfl⟩ : ∃ m, n = m + 1 := ⟨n - 1, by omega⟩
  rw [List.set_append_right _ _ (Nat.le_refl _), Nat.sub_self, List.replicate_succ, List.set_cons_zero]
  simp
end Go.Proofs.YtdllppaichlnaaaDoor
namespace Go.Proofs.YtdllppaichlnaaaDoor
open Go.RowKit

set_option maxRecDepth 20000 in
theorem word4_bits (a b c d : Nat) (ha : a < 256) (hb : b < 256) (hc : c < 256) (hd : d < 256) :
    bits .or .u32 (bits .or .u32 (bits .or .u32 ((a : Int) % 4294967296 * 16777216 % 4294967296) ((b : Int) % 4294967296 * 65536 % 4294967296)) ((c : Int) % 4294967296 * 256 % 4294967296)) ((d : Int) % 4294967296) = (word4 a b c d : Int) := by
  have e1 : (a : Int) % 4294967296 * 16777216 % 4294967296 = ((a * 16777216 : Nat) : Int) := by omega
  have e2 : (b : Int) % 4294967296 * 65536 % 4294967296 = ((b * 65536 : Nat) : Int) := by omega
  have e3 : (c : Int) % 4294967296 * 256 % 4294967296 = ((c * 256 : Nat) : Int) := by omega
  have e4 : (d : Int) % 4294967296 = (d : Int) := by omega
  have h1 : a * 16777216 < 4294967296 := Nat.lt_of_lt_of_le (Nat.mul_lt_mul_of_pos_right ha (by decide)) (by decide)
  have h2 : b * 65536 < 4294967296 := Nat.lt_of_lt_of_le (Nat.mul_lt_mul_of_pos_right hb (by decide)) (by decide)
  have h3 : c * 256 < 4294967296 := Nat.lt_of_lt_of_le (Nat.mul_lt_mul_of_pos_right hc (by decide)) (by decide)
  rw [e1, e2, e3, e4, u32_or_nat _ _ h1 h2, u32_or_nat _ _ (or_lt32 h1 h2) h3, u32_or_nat _ _ (or_lt32 (or_lt32 h1 h2) h3) (by omega)]
  rfl
theorem next_bits (x2 x15 x7 x16 : Nat) (h2 : x2 < 4294967296) (h15 : x15 < 4294967296) :
    (bits .xor .u32 ((rotr 17 x2 ^^^ rotr 19 x2 : Nat) : Int) ((x2 : Int) / 1024) + (x7 : Int) + bits .xor .u32 ((rotr 7 x15 ^^^ rotr 18 x15 : Nat) : Int) ((x15 : Int) / 8) + (x16 : Int)) % 4294967296 =
      (((sig1 x2 + x7 + sig0 x15 + x16) % 4294967296 : Nat) : Int) := by
  have e1 : bits .xor .u32 ((rotr 17 x2 ^^^ rotr 19 x2 : Nat) : Int) ((x2 : Int) / 1024) = (sig1 x2 : Int) := by
    have := u32_xor_nat (rotr 17 x2 ^^^ rotr 19 x2) (x2 / 1024) (xor_lt32 (rotr_lt _ _ h2) (rotr_lt _ _ h2)) (by omega)
    rw [Int.natCast_ediv] at this
    exact this
  have e2 : bits .xor .u32 ((rotr 7 x15 ^^^ rotr 18 x15 : Nat) : Int) ((x15 : Int) / 8) = (sig0 x15 : Int) := by
    have := u32_xor_nat (rotr 7 x15 ^^^ rotr 18 x15) (x15 / 8) (xor_lt32 (rotr_lt _ _ h15) (rotr_lt _ _ h15)) (by omega)
    rw [Int.natCast_ediv] at this
    exact this
  rw [e1, e2]
  generalize sig1 x2 = p
  generalize sig0 x15 = q
  omega
theorem byteAt_some {l : List UInt8} {i : Nat} {x : UInt8} (h : l[i]? = some x) : byteAt l i = x.toNat := by unfold byteAt; rw [List.getD_eq_getElem?_getD, h]; rfl

set_option maxRecDepth 20000 in
set_option maxHeartbeats 3200000 in
theorem schedule_any (A : Option Addr) (c : Nat) (l : List UInt8) (hl : l.length = 64) (w : World) (hr : Rd w A l) (hc : 64 ≤ c) :
    Calls Tryd.prog 46 #[.slice A 64 c] w (Ret w (Is (.agg (us (sched l)).toArray))) := by
  obtain ⟨b, off, rfl, hrc⟩ := hr (by intro e; subst e; cases hl)
  go_enter Tryd.func46, Tryd.ntmps46
  go_wp2
  go_loopw [11] (fun i wr => ∃ k : Nat, k ≤ 16 ∧ i = .int .i64 k ∧ Wds wr (w.heap.size + 1) 33 (firstW l k ++ List.replicate (64 - k) 0) ∧ Wds wr w.heap.size 33 (List.replicate 64 0) ∧ Ext w wr) (fun i _ => 16 - (intOf i).toNat)
  case atStart =>
    refine ⟨0, Nat.zero_le _, rfl, ?_, ?_, ?_⟩
    · exact heap_alloc2_new w _ _
    · exact heap_alloc2_old w _ _
    · exact (Ext.alloc w _).trans (Ext.alloc _ _)
  case round =>
    obtain ⟨k, hk, rfl, hw, hz, hx⟩ := hrel
    by_cases hlt : k < 16
    · obtain ⟨x0, e0⟩ : ∃ x, l[4 * k]? = some x := ⟨_, List.getElem?_eq_getElem (by omega)⟩
      obtain ⟨x1, e1⟩ : ∃ x, l[4 * k + 1]? = some x := ⟨_, List.getElem?_eq_getElem (by omega)⟩
      obtain ⟨x2, e2⟩ : ∃ x, l[4 * k + 2]? = some x := ⟨_, List.getElem?_eq_getElem (by omega)⟩
      obtain ⟨x3, e3⟩ : ∃ x, l[4 * k + 3]? = some x := ⟨_, List.getElem?_eq_getElem (by omega)⟩
      have c0 := (Ext.keeps hx).cell (hrc _ _ e0)
      have c1 : wr.cell? ⟨b, off + 4 * k + 1, none⟩ = _ := (Ext.keeps hx).cell (hrc _ _ e1)
      have c2 : wr.cell? ⟨b, off + 4 * k + 2, none⟩ = _ := (Ext.keeps hx).cell (hrc _ _ e2)
      have c3 : wr.cell? ⟨b, off + 4 * k + 3, none⟩ = _ := (Ext.keeps hx).cell (hrc _ _ e3)
      have HW := hide (show firstW l (k + 1) = firstW l k ++ [word4 x0.toNat x1.toNat x2.toNat x3.toNat] by rw [firstW, byteAt_some e0, byteAt_some e1, byteAt_some e2, byteAt_some e3])
      have hf := hw.frozen k
      obtain ⟨y, hy⟩ : ∃ y, (firstW l k ++ List.replicate (64 - k) 0)[k]? = some y := ⟨_, List.getElem?_eq_getElem (by simp [firstW_length]; omega)⟩
      have hcw := hw.cell hy
      clear hy e0 e1 e2 e3
      go_wp2
      go_region
      go_wp2
      refine ⟨⟨k + 1, by omega, by go_num, ?_, ?_, ?_⟩, by simp [intOf]; omega⟩
      · refine Wds.put (show Wds wr.drew _ _ _ from hw) k _ (word4_bits _ _ _ _ x0.toNat_lt x1.toNat_lt x2.toNat_lt x3.toNat_lt) ?_
        rw [HW.out, set_mid _ _ _ _ (firstW_length _ _).symm (by omega)]
        rfl
      · exact Wds.far (show Wds wr.drew _ _ _ from hz) (by simp) _
      · exact Below.set (hx.trans (Ext.drew _)) (by simp) _
    · have HK := hide (show k = 16 by omega)
      have hge : ¬ (k : Int) < 16 := by omega
      have hw : Wds wr (w.heap.size + 1) 33 (firstW l 16 ++ List.replicate 48 0) := by rw [HK.out] at hw; exact hw
      obtain ⟨wa, hwa⟩ : ∃ x, x = wr := ⟨_, rfl⟩
      subst hwa
      clear hk hlt
      go_wp2
      go_loopw [6] (fun i wr => ∃ n : Nat, 16 ≤ n ∧ n ≤ 64 ∧ i = .int .i64 n ∧ Wds wr (w.heap.size + 1) 33 (moreW (firstW l 16) (n - 16) ++ List.replicate (64 - n) 0) ∧ Wds wr w.heap.size 33 (List.replicate 64 0) ∧ Ext w wr) (fun i _ => 64 - (intOf i).toNat)
      case atStart => exact ⟨16, Nat.le_refl _, by omega, rfl, hw, hz, hx⟩
      clear hw hz hx
      case round =>
        obtain ⟨n, hn0, hn, rfl, hw, hz, hx⟩ := hrel
        by_cases hlt : n < 64
        · have hlen : (moreW (firstW l 16) (n - 16)).length = n := by rw [moreW_length, firstW_length]; omega
          have hmlt := moreW_lt _ (firstW_lt l 16) (n - 16)
          obtain ⟨q, HQ⟩ : ∃ q, Hid (moreW (firstW l 16) (n - 16) = q) := ⟨_, rfl⟩
          rw [HQ.out] at hw hlen hmlt
          have gt : ∀ j, 0 < j → j ≤ 16 → ∃ x, q.getD (n - j) 0 = x ∧ x < 4294967296 ∧ wr.cell? ⟨w.heap.size + 1, n - j, none⟩ = some (.int .u32 (x : Int)) := fun j h1 h2 => by
            have hlt : n - j < q.length := by omega
            refine ⟨q[n - j], ?_, hmlt _ (List.getElem_mem _), hw.cell ?_⟩
            · rw [List.getD_eq_getElem?_getD, List.getElem?_eq_getElem hlt]; rfl
            · rw [List.getElem?_append_left hlt, List.getElem?_eq_getElem hlt]
          obtain ⟨x2, g2, l2, c2⟩ := gt 2 (by omega) (by omega)
          obtain ⟨x15, g15, l15, c15⟩ := gt 15 (by omega) (by omega)
          obtain ⟨x7, g7, l7, c7⟩ := gt 7 (by omega) (by omega)
          obtain ⟨x16, g16, l16, c16⟩ := gt 16 (by omega) (by omega)
          have HN := hide (show moreW (firstW l 16) (n + 1 - 16) = q ++ [(sig1 x2 + x7 + sig0 x15 + x16) % 4294967296] by
            rw [show n + 1 - 16 = (n - 16) + 1 by omega, moreW, HQ.out]
            unfold nextW
            rw [show 16 + (n - 16) = n by omega, g2, g7, g15, g16])
          obtain ⟨y, hy⟩ : ∃ y, (q ++ List.replicate (64 - n) 0)[n]? = some y := ⟨_, List.getElem?_eq_getElem (by simp; omega)⟩
          have hcw := hw.cell hy
          have hf := hw.frozen n
          have b2 : (2 : Int) ≤ n := by omega
          have b15 : (15 : Int) ≤ n := by omega
          have b7 : (7 : Int) ≤ n := by omega
          have b16 : (16 : Int) ≤ n := by omega
          clear hy gt g2 g15 g7 g16
          go_wp2
          have x1 := u32_xor_nat (rotr 17 x2) (rotr 19 x2) (rotr_lt _ _ l2) (rotr_lt _ _ l2)
          have y1 := u32_xor_nat (rotr 7 x15) (rotr 18 x15) (rotr_lt _ _ l15) (rotr_lt _ _ l15)
          have K17 := hide fun W => (show Calls Tryd.prog 50 #[.int .u32 (x2 : Int), .int .i64 (-17)] W (Val (.int .u32 (rotr 17 x2 : Int)) W) from rot_any 17 (by decide) x2 l2 W)
          have K19 := hide fun W => (show Calls Tryd.prog 50 #[.int .u32 (x2 : Int), .int .i64 (-19)] W (Val (.int .u32 (rotr 19 x2 : Int)) W) from rot_any 19 (by decide) x2 l2 W)
          have K7 := hide fun W => (show Calls Tryd.prog 50 #[.int .u32 (x15 : Int), .int .i64 (-7)] W (Val (.int .u32 (rotr 7 x15 : Int)) W) from rot_any 7 (by decide) x15 l15 W)
          have K18 := hide fun W => (show Calls Tryd.prog 50 #[.int .u32 (x15 : Int), .int .i64 (-18)] W (Val (.int .u32 (rotr 18 x15 : Int)) W) from rot_any 18 (by decide) x15 l15 W)
          go_quiet (fail)
          go_wp2_with (first
            | (go_at_call 50; ((with_reducible refine (K17.out _).mono ?_); rintro e w1 ⟨rfl, rfl⟩))
            | (go_at_call 50; ((with_reducible refine (K19.out _).mono ?_); rintro e w2 ⟨rfl, rfl⟩))
            | (go_at_call 50; ((with_reducible refine (K7.out _).mono ?_); rintro e w3 ⟨rfl, rfl⟩))
            | (go_at_call 50; ((with_reducible refine (K18.out _).mono ?_); rintro e w4 ⟨rfl, rfl⟩)))
          go_region
          go_wp2
          refine ⟨⟨n + 1, by omega, by omega, by go_num, ?_, ?_, ?_⟩, by simp [intOf]; omega⟩
          · refine Wds.put (w := wr.drewN (nq + 1)) hw n _ (next_bits x2 x15 x7 x16 l2 l15) ?_
            rw [HN.out, set_mid _ _ _ _ hlen.symm (by omega)]
            rfl
          · exact Wds.far (w := wr.drewN (nq + 1)) hz (by simp) _
          · exact Below.set (hx.drewN _) (by simp) _
        · have hge2 : ¬ (n : Int) < 64 := by omega
          have HW : Hid (Wds wr (w.heap.size + 1) 33 (sched l)) := by
            have e : n = 64 := by omega
            rw [e] at hw
            rw [show (64 : Nat) - 64 = 0 from rfl, List.replicate_zero, List.append_nil] at hw
            exact hw
          have HZ := hide hz
          clear hw hz hn hlt
          go_wp2_with (first
            | ((with_reducible show wpList _ _ _ (⟨some 89, _, _, _, _, _⟩ :: _) _ _); refine wpList_load_rw rfl 33 (.tmp 3) rfl _ rfl 33 (us (sched l)) HW.out 64 31 Tryd.underlying33 (by kernel_rfl) (by rw [us_length, sched_length]) ?_)
            | ((with_reducible show wpList _ _ _ (⟨none, _, _, _, _, _⟩ :: _) _ _); refine wpList_store_rw rfl 33 (.tmp 2) (.tmp 89) rfl _ rfl (us (sched l)) rfl 33 _ HZ.out 64 (by kernel_rfl) (by rw [us_length, sched_length]) (by rw [us_length, us_length, sched_length]; rfl) (us_one _) ?_; intro w5 hr5 hl5))
          exact ret_rw rfl rfl _ rfl _ _ hr5 64 31 Tryd.underlying33 (by kernel_rfl) (by rw [us_length, sched_length]) (Ret.mk (hx.laid hl5 (Nat.le_refl _)) rfl)
end Go.Proofs.YtdllppaichlnaaaDoor
