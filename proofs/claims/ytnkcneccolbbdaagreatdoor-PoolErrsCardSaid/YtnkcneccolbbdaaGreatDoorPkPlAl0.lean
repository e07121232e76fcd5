/-
  A region that draws its order, each of whose operations, in every world that extends the one it began in, yields a value
  of which a world-growing fact holds: whatever the order, the facts of all hold at the end. General: it speaks of no program text.
  Slices of bytes that read as a list; what single operations give in a region that draws its order.
  A slice of bytes that the call itself makes: append in all its forms as one law.
  From a walk of a law to its row and its card: what is the same for all laws of this seat.
  Plain functions of layer 2 (octet): what numbers and texts are as bytes. No program is spoken of.
  CRC-32 as plain functions: by a table of four bits, and bit by bit; a turned bit changes it. No program is spoken of.
  CRC-32: the call, four bits at a time by a table, and the document's own, bit by bit.
  The seat's package-level table, as the rows list it.
  The log's sectors, plain: their bytes, and what is read of them.
  The calls of layer 2 on numbers, and the document's own: what they hand back.
  The sum in front of a sector's other bytes.
-/
import Derived.Test.YtnkcneccolbbdaaGreatDoorProg
import Derived.WalkKit
import Derived.WalkSpells
import Derived.Handy
import Derived.Laws.IdiomStrings
import Derived.ProofKit
import Derived.OpenShut
import Derived.Test.YtnkcneccolbbdaaGreatDoorCards
import Derived.Test.YtnkcneccolbbdaaGreatDoorTie
import Derived.Deep.DeepHandedRow
import Derived.Lib.LaidTab
import Derived.SizedLaws
import Derived.Laws.CopyOwn
import Derived.Deep.Cut
import Derived.Deep.CutRange
set_option linter.unusedVariables false
set_option linter.unusedSimpArgs false

namespace Go.Proofs.YtnkcneccolbbdaaGreatDoor
open Go.RowKit

/-- The second world is the first with more: the blocks that were there are as they were. -/
def Ext (w w' : World) : Prop := Below w.heap.size w w'
theorem Ext.refl (w : World) : Ext w w := Below.refl _ _
theorem Ext.trans {a b c : World} (h : Ext a b) (k : Ext b c) : Ext a c := Below.trans h (Below.mono k h.size)
theorem Ext.drewn (w : World) (n : Nat) : Ext w { w with drawn := n } := ⟨rfl, rfl, rfl, Nat.le_refl _, fun _ _ => rfl⟩
theorem Ext.of_eq {w w' : World} (h : w' = w) : Ext w w' := by subst h; exact Ext.refl _
theorem Ext.size {w w' : World} (h : Ext w w') : w.heap.size ≤ w'.heap.size := Below.size h
theorem Ext.alloc (w : World) (o : Obj) : Ext w (w.alloc o) := (Below.refl _ _).alloc (Nat.le_refl _) _
theorem Ext.drew (w : World) : Ext w w.drew := (Below.refl _ _).drew

/-- Blocks stay as they are, but that a block of cells may be marked. -/
def Keeps (w w' : World) : Prop := ∀ (k : Nat) (o : Obj), w.heap[k]? = some o → w'.heap[k]? = some o ∨ ∃ c e fr fr', o = Obj.cells c e fr ∧ w'.heap[k]? = some (Obj.cells c e fr')
theorem Keeps.refl (w : World) : Keeps w w := fun _ _ h => .inl h
theorem Keeps.trans {a b c : World} (h : Keeps a b) (k : Keeps b c) : Keeps a c := fun i o ho => by
  rcases h i o ho with h1 | ⟨cs, e, fr, fr', rfl, h1⟩
  · exact k i o h1
  · rcases k i _ h1 with h2 | ⟨cs', e', f1, f2, h3, h2⟩
    · exact .inr ⟨cs, e, fr, fr', rfl, h2⟩
    · injection h3 with h4 h5 h6
      subst h4 h5
      exact .inr ⟨cs, e, fr, f2, rfl, h2⟩
theorem Keeps.cells {w w' : World} (h : Keeps w w') {k : Nat} {c : Array Value} {e : TypeId} {fr : Nat × Nat} (hk : w.heap[k]? = some (.cells c e fr)) : ∃ fr', w'.heap[k]? = some (.cells c e fr') := by
  rcases h k _ hk with h1 | ⟨cs, e', f1, f2, h3, h2⟩
  · exact ⟨fr, h1⟩
  · injection h3 with h4 h5 h6
    subst h4 h5
    exact ⟨f2, h2⟩
theorem Keeps.cell {w w' : World} (h : Keeps w w') {p : Addr} {v : Value} (hc : w.cell? p = some v) : w'.cell? p = some v := by
  unfold World.cell? at hc ⊢
  cases hb : w.heap[p.block]? with
  | none => rw [hb] at hc; cases hc
  | some o =>
    rw [hb] at hc
    cases o <;> simp only [] at hc
    case cells c e fr =>
      obtain ⟨fr', h'⟩ := h.cells hb
      rw [h']
      exact hc
    all_goals cases hc
theorem Ext.keeps {w w' : World} (h : Ext w w') : Keeps w w' := fun k o ho => .inl (by
  have hlt : k < w.heap.size := by
    rcases Nat.lt_or_ge k w.heap.size with h1 | h1
    · exact h1
    · rw [Array.getElem?_eq_none h1] at ho; cases ho
  rw [Below.block h k hlt]; exact ho)
/-- Below B nothing has turned; from there on blocks stay, but for marks. -/
structure Grw (B : Nat) (w w' : World) : Prop where
  below : Below B w w'
  keeps : Keeps w w'
theorem Grw.refl (B : Nat) (w : World) : Grw B w w := ⟨Below.refl _ _, Keeps.refl _⟩
theorem Grw.trans {B : Nat} {a b c : World} (h : Grw B a b) (k : Grw B b c) : Grw B a c := ⟨h.below.trans k.below, h.keeps.trans k.keeps⟩
theorem Grw.size {B : Nat} {w w' : World} (h : Grw B w w') : w.heap.size ≤ w'.heap.size := h.below.size
theorem Grw.of_ext {B : Nat} {w w' : World} (h : Ext w w') (hB : B ≤ w.heap.size) : Grw B w w' := ⟨Below.mono h hB, h.keeps⟩
theorem Grw.drewn (B : Nat) (w : World) (n : Nat) : Grw B w { w with drawn := n } := ⟨⟨rfl, rfl, rfl, Nat.le_refl _, fun _ _ => rfl⟩, fun _ _ h => .inl h⟩
theorem Grw.alloc {B : Nat} {w : World} (hB : B ≤ w.heap.size) (o : Obj) : Grw B w (w.alloc o) := Grw.of_ext (Ext.alloc w o) hB
theorem Ext.grw {w w0 w' : World} (h : Ext w w0) (g : Grw w.heap.size w0 w') : Ext w w' := Below.trans h g.below

/-- Operation o, run in frame a and world w, yields a value and a world of which R holds. -/
def gives (P : Program) (o : Oper) (a : Act) (w : World) (R : Value → World → Prop) : Prop :=
  match (execOp a.eval o).run P w with
  | .ok (.value v) w' => R v w'
  | .ok .skip w' => R undef w'
  | .ok (.enter f args) w' => Calls P f args w' fun e w'' => ∃ v, e = .returned v ∧ R v w''
  | _ => False

theorem gives_mono {P : Program} {o : Oper} {a : Act} {w : World} {R R' : Value → World → Prop} (h : gives P o a w R) (hr : ∀ v w', R v w' → R' v w') : gives P o a w R' := by
  unfold gives at *
  generalize (execOp a.eval o).run P w = r at *
  cases r with
  | ok n w' =>
    cases n <;> simp only [] at h ⊢
    case value v => exact hr _ _ h
    case skip => exact hr _ _ h
    case enter f args => exact h.mono fun e w'' ⟨v, he, hv⟩ => ⟨v, he, hr _ _ hv⟩
  | halt x w' => exact h

theorem wp_of_gives {P : Program} {o : Oper} {a : Act} {w : World} {R : Value → World → Prop} {K : Act → World → Prop} {Q : Exit → Act → World → Prop}
    (h : gives P o a w R) (hK : ∀ v w', R v w' → K (a.put o.dst v) w') : o.wp P a w K Q := by
  unfold gives at h
  unfold Oper.wp
  generalize (execOp a.eval o).run P w = r at *
  cases r with
  | ok n w' =>
    cases n <;> simp only [] at h <;> simp only [Oper.upon]
    case value v => exact hK _ _ h
    case skip => exact hK _ _ h
    case enter f args => exact h.mono fun e w'' ⟨v, he, hv⟩ => by subst he; exact hK _ _ hv
  | halt x w' => exact h.elim

/-- Each writer of slot t waits, directly, for operation i (or there is none). -/
def keepsB (ops : Array Oper) (i t : Nat) : Bool :=
  ops.toList.all fun o => o.dst != some t || o.after.toList.any fun e => e.on == i && Region.binds .any e
/-- Edges lead back; destinations are within the frame, no two are one. -/
def regOk (ops : Array Oper) (n : Nat) : Bool :=
  (ops.toList.zipIdx.all fun (o, i) => o.after.all fun e => !Region.binds .any e || decide (e.on < i)) &&
  (ops.toList.all fun o => match o.dst with | some d => decide (d < n) | none => true) &&
  ((ops.toList.filterMap (·.dst)).Nodup : Bool)

theorem regOk_back {ops : Array Oper} {n : Nat} (h : regOk ops n = true) {i : Nat} {o : Oper} (ho : ops[i]? = some o) {e : Edge} (he : e ∈ o.after) (hb : Region.binds .any e = true) : e.on < i := by
  simp only [regOk, Bool.and_eq_true, List.all_eq_true] at h
  have hm : (o, i) ∈ ops.toList.zipIdx := by
    rw [List.mem_zipIdx_iff_getElem?]
    simpa using ho
  have := h.1.1 (o, i) hm
  simp only [Array.all_eq_true'] at this
  have h2 := this e he
  simpa [hb] using h2
theorem regOk_lt {ops : Array Oper} {n : Nat} (h : regOk ops n = true) {i : Nat} {o : Oper} (ho : ops[i]? = some o) {d : Nat} (hd : o.dst = some d) : d < n := by
  simp only [regOk, Bool.and_eq_true, List.all_eq_true] at h
  have hm : o ∈ ops.toList := by
    have := Array.mem_of_getElem? ho
    simpa using this
  have := h.1.2 o hm
  simpa [hd] using this
theorem nodup_filterMap {ops : List Oper} (h : (ops.filterMap (·.dst)).Nodup) : ∀ {i j : Nat} {oi oj : Oper} {d : Nat}, ops[i]? = some oi → ops[j]? = some oj → oi.dst = some d → oj.dst = some d → i = j := by
  induction ops with
  | nil => intro i j oi oj d hi; simp at hi
  | cons o ops ih =>
    intro i j oi oj d hi hj hdi hdj
    have hmem : ∀ {k : Nat} {x : Oper}, ops[k]? = some x → x.dst = some d → d ∈ ops.filterMap (·.dst) := fun {k x} hk hx =>
      List.mem_filterMap.2 ⟨x, List.mem_of_getElem? hk, hx⟩
    have ht : (ops.filterMap (·.dst)).Nodup := by
      cases hod : o.dst with
      | none => simpa [List.filterMap_cons, hod] using h
      | some x => rw [List.filterMap_cons, hod] at h; exact (List.nodup_cons.1 h).2
    have hh : o.dst = some d → d ∉ ops.filterMap (·.dst) := fun hod => by
      rw [List.filterMap_cons, hod] at h; exact (List.nodup_cons.1 h).1
    cases i with
    | zero =>
      cases j with
      | zero => rfl
      | succ j =>
        simp at hi hj; subst hi
        exact absurd (hmem hj hdj) (hh hdi)
    | succ i =>
      cases j with
      | zero =>
        simp at hi hj; subst hj
        exact absurd (hmem hi hdi) (hh hdj)
      | succ j =>
        simp at hi hj
        rw [ih ht hi hj hdi hdj]
theorem regOk_one {ops : Array Oper} {n : Nat} (h : regOk ops n = true) {i j : Nat} {oi oj : Oper} {d : Nat} (hi : ops[i]? = some oi) (hj : ops[j]? = some oj) (hdi : oi.dst = some d) (hdj : oj.dst = some d) : i = j := by
  simp only [regOk, Bool.and_eq_true, decide_eq_true_eq] at h
  exact nodup_filterMap h.2 (by simpa using hi) (by simpa using hj) hdi hdj

section
variable {P : Program} {ops : Array Oper} {Q : Exit → Act → World → Prop} {S : Nat → World → Value → Prop} {a0 : Act} {w0 : World} {B : Nat}

/-- The facts of the operations that have come up. -/
structure RInv (B : Nat) (ops : Array Oper) (S : Nat → World → Value → Prop) (a0 : Act) (w0 : World) (listed : Array Bool) (a : Act) (w : World) : Prop where
  size : listed.size = ops.size
  ext : Grw B w0 w
  defers : a.defers = a0.defers
  tmps : a.tmps.size = a0.tmps.size
  closed : ∀ (i : Nat) (o : Oper), ops[i]? = some o → listed[i]? = some true → ∀ e ∈ o.after, Region.binds .any e = true → listed[e.on]? = some true
  vals : ∀ (i : Nat) (o : Oper) (d : Nat), ops[i]? = some o → listed[i]? = some true → o.dst = some d → ∃ v, a.tmps[d]? = some v ∧ S i w v
  same : ∀ t, (∀ (i : Nat) (o : Oper), ops[i]? = some o → o.dst = some t → listed[i]? = some false) → a.tmps[t]? = a0.tmps[t]?

/-- What one operation owes. -/
def StepOk (B : Nat) (P : Program) (ops : Array Oper) (S : Nat → World → Value → Prop) (a0 : Act) (w0 : World) (i : Nat) (o : Oper) : Prop :=
  ∀ (a : Act) (w : World), Grw B w0 w → a.defers = a0.defers → (∀ t, keepsB ops i t = true → a.tmps[t]? = a0.tmps[t]?) →
    (∀ e ∈ o.after, Region.binds .any e = true → ∀ (o' : Oper), ops[e.on]? = some o' → ∀ (d : Nat), o'.dst = some d → ∃ v, a.tmps[d]? = some v ∧ S e.on w v) →
    (Region.wanted o (yielded ops a.tmps) = true ∧ gives P o a w fun v w' => Grw B w w' ∧ S i w' v) ∨ (Region.wanted o (yielded ops a.tmps) = false ∧ S i w undef)

theorem count_set {l : Array Bool} {i : Nat} (h : l[i]? = some false) : (l.setIfInBounds i true).toList.count true = l.toList.count true + 1 := by
  have hi : i < l.size := by
    rcases Nat.lt_or_ge i l.size with hlt | hge
    · exact hlt
    · rw [Array.getElem?_eq_none hge] at h; cases h
  have hv : l[i] = false := by simpa [Array.getElem?_eq_getElem hi] using h
  rw [Array.toList_setIfInBounds, List.count_set (by simpa using hi)]
  simp [hv]

theorem wpAny_grow (hok : regOk ops a0.tmps.size = true) (hup : ∀ i w w' v, S i w v → Grw B w w' → S i w' v)
    (hstep : ∀ (i : Nat) (o : Oper), ops[i]? = some o → StepOk B P ops S a0 w0 i o)
    (hend : ∀ (a : Act) (w : World), Grw B w0 w → a.defers = a0.defers → a.tmps.size = a0.tmps.size → (∀ (i : Nat) (o : Oper) (d : Nat), ops[i]? = some o → o.dst = some d → ∃ v, a.tmps[d]? = some v ∧ S i w v) →
      (∀ t, (∀ (i : Nat) (o : Oper), ops[i]? = some o → o.dst ≠ some t) → a.tmps[t]? = a0.tmps[t]?) → Q .normal a w) :
    ∀ (fuel : Nat) (listed : Array Bool) (a : Act) (w : World), RInv B ops S a0 w0 listed a w → listed.toList.count true + fuel = ops.size → wpAny P .any ops Q fuel listed a w := by
  have getb : ∀ (l : Array Bool) (i : Nat) (b : Bool), l.getD i b = (l[i]?).getD b := fun l i b => by simp
  have allTrue : ∀ (l : Array Bool), l.toList.count true = l.size → ∀ i, i < l.size → l[i]? = some true := fun l h i hi => by
    have : ∀ x ∈ l.toList, true = x := by
      rw [← List.count_eq_length]; simpa using h
    rw [Array.getElem?_eq_getElem hi]
    congr 1
    exact (this _ (by simp)).symm
  have fin : ∀ (listed : Array Bool) (a : Act) (w : World), RInv B ops S a0 w0 listed a w → (∀ i, i < ops.size → listed[i]? = some true) → Q .normal a w := by
    intro listed a w I h
    have hlt : ∀ {i : Nat} {o : Oper}, ops[i]? = some o → i < ops.size := fun {i o} ho => by
      rcases Nat.lt_or_ge i ops.size with hlt | hge
      · exact hlt
      · rw [Array.getElem?_eq_none hge] at ho; cases ho
    exact hend a w I.ext I.defers I.tmps (fun i o d ho hd => I.vals i o d ho (h i (hlt ho)) hd) (fun t ht => I.same t fun i o ho hd => absurd hd (ht i o ho))
  have step : ∀ (listed : Array Bool) (a : Act) (w : World) (i : Nat) (K : Act → World → Prop), RInv B ops S a0 w0 listed a w → i ∈ Region.ready .any ops listed →
      (∀ a' w', RInv B ops S a0 w0 (listed.setIfInBounds i true) a' w' → K a' w') → wpOp P ops Q i K a w := by
    intro listed a w i K I hr hK
    obtain ⟨hun, o, ho, hall⟩ := mem_ready.1 hr
    have hi : i < listed.size := by
      rw [I.size]
      rcases Nat.lt_or_ge i ops.size with hlt | hge
      · exact hlt
      · rw [Array.getElem?_eq_none hge] at ho; cases ho
    have hfalse : listed[i]? = some false := by
      rw [getb, Array.getElem?_eq_getElem hi] at hun
      rw [Array.getElem?_eq_getElem hi]; simpa using hun
    have hpre : ∀ e ∈ o.after, Region.binds .any e = true → listed[e.on]? = some true := fun e he hb => by
      have h1 := hall e he hb
      rw [getb] at h1
      cases h2 : listed[e.on]? with
      | none => rw [h2] at h1; simp at h1
      | some b => rw [h2] at h1; simp at h1; rw [h1]
    have hset : ∀ (k : Nat), (listed.setIfInBounds i true)[k]? = if i = k then some true else listed[k]? := fun k => by
      rw [Array.getElem?_setIfInBounds]
      by_cases h : i = k
      · subst h; simp [hi]
      · simp [h]
    have next : ∀ v w', Grw B w w' → S i w' v → RInv B ops S a0 w0 (listed.setIfInBounds i true) (a.put o.dst v) w' := by
      intro v w' hx hS
      refine ⟨by simpa using I.size, I.ext.trans hx, ?_, ?_, ?_, ?_, ?_⟩
      · cases hd : o.dst <;> simpa [Act.put] using I.defers
      · cases hd : o.dst <;> simpa [Act.put] using I.tmps
      · intro k ok hk hl e he hb
        rw [hset] at hl ⊢
        by_cases hki : i = k
        · subst hki
          rw [ho] at hk; cases hk
          split
          · rfl
          · exact hpre e he hb
        · rw [if_neg hki] at hl
          split
          · rfl
          · exact I.closed k ok hk hl e he hb
      · intro k ok d hk hl hd
        rw [hset] at hl
        by_cases hki : i = k
        · subst hki
          rw [ho] at hk; cases hk
          refine ⟨v, ?_, hS⟩
          rw [hd]
          have := regOk_lt hok ho hd
          simp only [Act.put, Array.getElem?_setIfInBounds]
          simp [I.tmps, this]
        · rw [if_neg hki] at hl
          obtain ⟨u, hu, hSu⟩ := I.vals k ok d hk hl hd
          refine ⟨u, ?_, hup _ _ _ _ hSu hx⟩
          cases hod : o.dst with
          | none => simpa [Act.put] using hu
          | some d' =>
            have hne : d' ≠ d := fun e => hki (regOk_one hok ho hk (by rw [hod, e]) hd)
            simp only [Act.put, Array.getElem?_setIfInBounds_ne hne]
            exact hu
      · intro t ht
        have hit : o.dst ≠ some t := fun hd => by
          have := ht i o ho hd
          rw [hset, if_pos rfl] at this; cases this
        have := I.same t fun k ok hk hd => by
          have h2 := ht k ok hk hd
          rw [hset] at h2
          split at h2
          · cases h2
          · exact h2
        rw [← this]
        cases hod : o.dst with
        | none => rfl
        | some d' =>
          have hne : d' ≠ t := fun e => hit (by rw [hod, e])
          simp only [Act.put, Array.getElem?_setIfInBounds_ne hne]
    have hs := hstep i o ho a w I.ext I.defers ?_ ?_
    · unfold wpOp
      simp only [ho]
      rcases hs with ⟨hw, hg⟩ | ⟨hw, hS⟩
      · rw [if_pos hw]
        exact .inl (wp_of_gives hg fun v w' ⟨hx, hS⟩ => hK _ _ (next v w' hx hS))
      · rw [if_neg (by rw [hw]; exact Bool.false_ne_true)]
        exact hK _ _ (next _ _ (Grw.refl _ _) hS)
    · intro t ht
      refine I.same t fun k ok hk hd => ?_
      simp only [keepsB, List.all_eq_true] at ht
      have hm : ok ∈ ops.toList := by simpa using Array.mem_of_getElem? hk
      have := ht ok hm
      simp only [hd, bne_self_eq_false, Bool.false_or, List.any_eq_true, Array.mem_toList_iff] at this
      obtain ⟨e, he, hb⟩ := this
      simp only [Bool.and_eq_true, beq_iff_eq] at hb
      have hkl : k < listed.size := by
        rw [I.size]
        rcases Nat.lt_or_ge k ops.size with hlt | hge
        · exact hlt
        · rw [Array.getElem?_eq_none hge] at hk; cases hk
      cases hv : listed[k]? with
      | none => rw [Array.getElem?_eq_getElem hkl] at hv; cases hv
      | some b =>
        cases b with
        | false => rfl
        | true =>
          have := I.closed k ok hk hv e he hb.2
          rw [hb.1, hfalse] at this; cases this
    · intro e he hb o' ho' d hd
      exact I.vals e.on o' d ho' (hpre e he hb) hd
  have full : ∀ (listed : Array Bool) (a : Act) (w : World), RInv B ops S a0 w0 listed a w → Region.ready .any ops listed = [] → ∀ i, i < ops.size → listed[i]? = some true := by
    intro listed a w I hr i
    induction i using Nat.strongRecOn with
    | ind i ih =>
      intro hi
      cases hv : listed[i]? with
      | none => rw [Array.getElem?_eq_none_iff, I.size] at hv; omega
      | some b =>
        cases b with
        | true => rfl
        | false =>
          exfalso
          have hmem : i ∈ Region.ready .any ops listed := by
            refine mem_ready.2 ⟨by rw [getb, hv]; rfl, ops[i], Array.getElem?_eq_getElem hi, fun e he hb => ?_⟩
            have hlt := regOk_back hok (Array.getElem?_eq_getElem hi) he hb
            rw [getb, ih e.on hlt (by omega)]; rfl
          rw [hr] at hmem; cases hmem
  intro fuel
  induction fuel with
  | zero =>
    intro listed a w I hc
    have hall := allTrue listed (by rw [I.size]; omega)
    rw [I.size] at hall
    refine ⟨?_, fin listed a w I hall⟩
    cases hr : Region.ready .any ops listed with
    | nil => rfl
    | cons i rest =>
      exfalso
      have hm : i ∈ Region.ready .any ops listed := by rw [hr]; simp
      obtain ⟨hun, o, ho, _⟩ := mem_ready.1 hm
      have hlt : i < ops.size := by
        rcases Nat.lt_or_ge i ops.size with hlt | hge
        · exact hlt
        · rw [Array.getElem?_eq_none hge] at ho; cases ho
      rw [getb, hall i hlt] at hun; cases hun
  | succ fuel ih =>
    intro listed a w I hc
    refine ⟨fun hr => fin listed a w I (full listed a w I hr), fun i hi => step listed a w i _ I hi fun a' w' I' => ih _ a' w' I' ?_⟩
    obtain ⟨hun, o, ho, _⟩ := mem_ready.1 hi
    have hlt : i < listed.size := by
      rw [I.size]
      rcases Nat.lt_or_ge i ops.size with hlt | hge
      · exact hlt
      · rw [Array.getElem?_eq_none hge] at ho; cases ho
    rw [count_set (by rw [getb, Array.getElem?_eq_getElem hlt] at hun; rw [Array.getElem?_eq_getElem hlt]; simpa using hun)]
    omega

/-- THE REGION. -/
theorem wp_region_grow {id : Nat} (S : Nat → World → Value → Prop) (hm : P.follows .mixedOrders = true) (hok : regOk ops a0.tmps.size = true)
    (hup : ∀ i w w' v, S i w v → Grw B w w' → S i w' v) (hstep : ∀ (i : Nat) (o : Oper), ops[i]? = some o → StepOk B P ops S a0 w0 i o)
    (hend : ∀ (a : Act) (w : World), Grw B w0 w → a.defers = a0.defers → a.tmps.size = a0.tmps.size → (∀ (i : Nat) (o : Oper) (d : Nat), ops[i]? = some o → o.dst = some d → ∃ v, a.tmps[d]? = some v ∧ S i w v) →
      (∀ t, (∀ (i : Nat) (o : Oper), ops[i]? = some o → o.dst ≠ some t) → a.tmps[t]? = a0.tmps[t]?) → Q .normal a w) :
    (Code.region id ops true).wp P Q a0 w0 := by
  refine wp_region_any hm (wpAny_grow hok hup hstep hend ops.size _ a0 _ ?_ ?_)
  · refine ⟨by simp, Grw.drewn _ _ _, rfl, rfl, ?_, ?_, fun _ _ => rfl⟩
    · intro i o ho hl
      rw [Array.getElem?_replicate] at hl
      split at hl <;> simp at hl
    · intro i o d ho hl
      rw [Array.getElem?_replicate] at hl
      split at hl <;> simp at hl
  · have : (Array.replicate ops.size false).toList.count true = 0 := by simp [List.count_replicate]
    omega
end

/-- A fact of a world and a value that lasts while the world grows. -/
structure Sp where
  p : World → Value → Prop
  up : ∀ w w' v, p w v → Keeps w w' → p w' v
def Sp.any : Sp := ⟨fun _ _ => True, fun _ _ _ _ _ => trivial⟩
def Sp.is (x : Value) : Sp := ⟨fun _ v => v = x, fun _ _ _ h _ => h⟩

/-- What one operation owes, in the form in which it is paid. -/
def Pays (B : Nat) (P : Program) (ops : Array Oper) (L : List Sp) (a0 : Act) (w0 : World) (i : Nat) (o : Oper) : Prop :=
  ∀ (a : Act) (w : World), Grw B w0 w → B ≤ w.heap.size → (∀ t, keepsB ops i t = true → a.tmps[t]? = a0.tmps[t]?) →
    (∀ j, (o.after.toList.any fun e => e.on == j && Region.binds .any e) = true → ∀ (o' : Oper), ops[j]? = some o' → ∀ (d : Nat), o'.dst = some d → ∃ v, a.tmps[d]? = some v ∧ (L.getD j Sp.any).p w v) →
    (Region.wanted o (yielded ops a.tmps) = true ∧ gives P o a w fun v w' => Grw B w w' ∧ (L.getD i Sp.any).p w' v) ∨ (Region.wanted o (yielded ops a.tmps) = false ∧ (L.getD i Sp.any).p w undef)
def PaysFrom (T : Nat → Oper → Prop) : Nat → List Oper → Prop
  | _, [] => True
  | k, o :: r => T k o ∧ PaysFrom T (k + 1) r
theorem paysFrom_all {T : Nat → Oper → Prop} : ∀ (l : List Oper) (k : Nat), PaysFrom T k l → ∀ (i : Nat) (o : Oper), l[i]? = some o → T (k + i) o
  | [], _, _, i, o, h => by simp at h
  | x :: r, k, ⟨h0, hr⟩, i, o, h => by
    cases i with
    | zero => simp at h; subst h; exact h0
    | succ i =>
      have := paysFrom_all r (k + 1) hr i o (by simpa using h)
      rwa [Nat.add_assoc, Nat.add_comm 1] at this

theorem wp_region_sp {B : Nat} {P : Program} {ops : List Oper} {Q : Exit → Act → World → Prop} {a0 : Act} {w0 : World} {id : Nat} (hB : B ≤ w0.heap.size) (L : List Sp) (hm : P.follows .mixedOrders = true) (hok : regOk ops.toArray a0.tmps.size = true)
    (hstep : PaysFrom (Pays B P ops.toArray L a0 w0) 0 ops)
    (hend : ∀ (a : Act) (w : World), Grw B w0 w → a.defers = a0.defers → a.tmps.size = a0.tmps.size → (∀ (i : Nat) (o : Oper) (d : Nat), ops.toArray[i]? = some o → o.dst = some d → ∃ v, a.tmps[d]? = some v ∧ (L.getD i Sp.any).p w v) →
      (∀ t, (∀ (i : Nat) (o : Oper), ops.toArray[i]? = some o → o.dst ≠ some t) → a.tmps[t]? = a0.tmps[t]?) → Q .normal a w) :
    (Code.region id ops.toArray true).wp P Q a0 w0 := by
  refine wp_region_grow (fun i => (L.getD i Sp.any).p) hm hok (fun i w w' v h hx => (L.getD i Sp.any).up w w' v h hx.keeps) ?_ hend
  intro i o ho a w hx hd hk H
  have h := paysFrom_all ops 0 hstep i o (by simpa using ho)
  rw [Nat.zero_add] at h
  refine h a w hx (Nat.le_trans hB hx.size) hk fun j hj o' ho' d hd' => ?_
  simp only [List.any_eq_true, Array.mem_toList_iff] at hj
  obtain ⟨e, he, hb⟩ := hj
  simp only [Bool.and_eq_true, beq_iff_eq] at hb
  obtain ⟨rfl, hb⟩ := hb
  exact H e he hb o' ho' d hd'
end Go.Proofs.YtnkcneccolbbdaaGreatDoor
namespace Go.Proofs.YtnkcneccolbbdaaGreatDoor
open Go.RowKit

/-- A number as a byte. -/
def b8 (n : Int) : UInt8 := UInt8.ofNat n.toNat
theorem b8_toNat {n : Int} (h0 : 0 ≤ n) (h1 : n < 256) : ((b8 n).toNat : Int) = n := by
  unfold b8
  rw [UInt8.toNat_ofNat']
  have : n.toNat % 2 ^ 8 = n.toNat := Nat.mod_eq_of_lt (by omega)
  rw [this]; omega
theorem b8_byte (b : UInt8) : b8 (b.toNat : Int) = b := by
  unfold b8
  rw [Int.toNat_natCast]
  exact UInt8.ofNat_toNat

/-- A list of bytes as cells. -/
def bs (l : List UInt8) : List Value := l.map fun b => .int .u8 (b.toNat : Int)
theorem bs_length (l : List UInt8) : (bs l).length = l.length := by simp [bs]
theorem bs_append (l m : List UInt8) : bs (l ++ m) = bs l ++ bs m := by simp [bs]
theorem bs_get (l : List UInt8) (j : Nat) : (bs l)[j]? = (l[j]?).map fun b => Value.int .u8 (b.toNat : Int) := by simp [bs]
theorem bs_one (l : List UInt8) : ∀ u ∈ bs l, u.oneCell' = true := by
  intro u hu
  obtain ⟨b, _, rfl⟩ := List.mem_map.1 hu
  rfl

/-- The slice at A reads, from its beginning on, as l. -/
def Rd (w : World) (A : Option Addr) (l : List UInt8) : Prop :=
  l ≠ [] → ∃ b off, A = some ⟨b, off, none⟩ ∧ ∀ j u, l[j]? = some u → w.cell? ⟨b, off + j, none⟩ = some (.int .u8 (u.toNat : Int))

theorem add_flat (b off j : Nat) : (⟨b, off, none⟩ : Addr).add j = ⟨b, off + j, none⟩ := by unfold Addr.add; split <;> simp_all

section
variable {w w' : World} {A : Option Addr} {l : List UInt8}
theorem Rd.nil (w : World) (A : Option Addr) : Rd w A [] := fun h => absurd rfl h
theorem Rd.ext (h : Rd w A l) (hx : Ext w w') : Rd w' A l := fun hn => by
  obtain ⟨b, off, hA, hc⟩ := h hn
  refine ⟨b, off, hA, fun j u hu => ?_⟩
  have := hc j u hu
  rw [Below.cell hx (World.block_lt_of_cell? w _ this)]
  exact this
theorem Rd.keep (h : Rd w A l) (hx : Keeps w w') : Rd w' A l := fun hn => by
  obtain ⟨b, off, hA, hc⟩ := h hn
  exact ⟨b, off, hA, fun j u hu => hx.cell (hc j u hu)⟩
theorem Rd.at (h : Rd w A l) {k : Nat} (hk : k < l.length) : ∃ b off u, A = some ⟨b, off, none⟩ ∧ l[k]? = some u ∧ w.cell? ⟨b, off + k, none⟩ = some (.int .u8 (u.toNat : Int)) := by
  obtain ⟨b, off, hA, hc⟩ := h (by intro e; subst e; simp at hk)
  exact ⟨b, off, l[k], hA, List.getElem?_eq_getElem hk, hc k _ (List.getElem?_eq_getElem hk)⟩
theorem Rd.of_own {base e : Nat} {c : Nat} (h : w.ownsRow base e 1 (.slice A l.length c) l.length (bs l)) : Rd w A l := fun hn => by
  have hp : 0 < l.length := List.length_pos_iff.2 hn
  rcases h.2 with ⟨_, h0⟩ | ⟨g, cap, cur, hv, _⟩
  · omega
  · injection hv with hA
    subst hA
    refine ⟨g, 0, rfl, fun j u hu => ?_⟩
    have := h.cells (g := g) rfl j (.int .u8 (u.toNat : Int)) (by rw [bs_get, hu]; rfl)
    rw [add_flat] at this
    exact this
theorem Rd.drop {a : Addr} (h : Rd w (some a) l) (k : Nat) : Rd w (some (a.add k)) (l.drop k) := fun hn => by
  obtain ⟨b, off, hA, hc⟩ := h (by intro e; subst e; simp at hn)
  injection hA with hA
  subst hA
  refine ⟨b, off + k, by rw [add_flat], fun j u hu => ?_⟩
  rw [Nat.add_assoc]
  exact hc _ u (by rw [← hu, List.getElem?_drop])
theorem Rd.take (h : Rd w A l) (k : Nat) : Rd w A (l.take k) := fun hn => by
  obtain ⟨b, off, hA, hc⟩ := h (by intro e; subst e; simp at hn)
  refine ⟨b, off, hA, fun j u hu => hc j u ?_⟩
  rw [List.getElem?_take] at hu
  split at hu
  · exact hu
  · cases hu
theorem Rd.cells (h : Rd w A l) {a : Addr} (hA : A = some a) (hn : l ≠ []) : ∀ j u, (bs l)[j]? = some u → w.cell? (a.add j) = some u := by
  intro j u hu
  obtain ⟨b, off, hA', hc⟩ := h hn
  rw [hA] at hA'
  injection hA' with hA'
  subst hA'
  rw [bs_get] at hu
  cases hl : l[j]? with
  | none => rw [hl] at hu; cases hu
  | some x =>
    rw [hl] at hu
    injection hu with hu
    subst hu
    rw [add_flat]
    exact hc j x hl

/-- 'string(p)'. -/
theorem Rd.str {P : Program} (h : Rd w A l) (src dst e c : Nat) (hs : P.underlying src = some (.slice e)) (he : P.underlying e = some (.int .u8)) (hd : P.underlying dst = some .string) :
    (convert src dst (.slice A l.length c)).run P w = .ok (.string ⟨l.toArray⟩) w := by
  rcases A with _ | a
  · have hl : l = [] := by
      cases l with
      | nil => rfl
      | cons x xs => obtain ⟨_, _, hA, _⟩ := h (by simp); cases hA
    subst hl
    rw [run_convert_bytes_string w src dst e none _ c hs he hd]
    simp [Conv.bytesToString]
    rfl
  · refine run_convert_bytes_back w src dst e a c l hs he hd fun j hj => ?_
    exact h.cells rfl (by intro e; subst e; simp at hj) j _ (by rw [bs_get, List.getElem?_eq_getElem hj]; rfl)
end

/-- What a call hands back: a slice that reads as l. -/
def Bytes (l : List UInt8) (w : World) (v : Value) : Prop := ∃ A c, v = .slice A l.length c ∧ l.length ≤ c ∧ Rd w A l
theorem Bytes.ext {l : List UInt8} {w w' : World} {v : Value} (h : Bytes l w v) (hx : Ext w w') : Bytes l w' v := by
  obtain ⟨A, c, hv, hc, hr⟩ := h
  exact ⟨A, c, hv, hc, hr.ext hx⟩
theorem Rd.newf (w : World) (t : TypeId) (l : List UInt8) (rest : List Value) (fr : Nat × Nat) : Rd (w.alloc (.cells (bs l ++ rest).toArray t fr)) (some ⟨w.heap.size, 0, none⟩) l := fun _ => by
  refine ⟨w.heap.size, 0, rfl, fun j u hu => ?_⟩
  rw [cell_of_row _ w.heap.size (0 + j) _ t fr (heap_alloc_new w _)]
  have hj : j < (bs l).length := by
    rw [bs_length]
    rcases Nat.lt_or_ge j l.length with h | h
    · exact h
    · rw [List.getElem?_eq_none h] at hu; cases hu
  rw [Nat.zero_add, List.getElem?_toArray, List.getElem?_append_left hj, bs_get, hu]
  rfl
theorem Rd.new (w : World) (t : TypeId) (l : List UInt8) (rest : List Value) : Rd (w.alloc (.cells (bs l ++ rest).toArray t)) (some ⟨w.heap.size, 0, none⟩) l := Rd.newf w t l rest (0, 0)
/-- A block whose cells are the bytes of l. -/
theorem Bytes.new (w : World) (t : TypeId) (l : List UInt8) (cs : Array Value) (h : cs = (bs l).toArray) {n c : Nat} (hn : n = l.length) (hc : n ≤ c) : Bytes l (w.alloc (.cells cs t)) (.slice (some ⟨w.heap.size, 0, none⟩) n c) := by
  subst h hn
  have := Rd.new w t l []
  rw [List.append_nil] at this
  exact ⟨_, _, rfl, hc, this⟩
theorem Bytes.own {w : World} {base e : Nat} {v : Value} {l : List UInt8} (h : w.ownsRow base e 1 v l.length (bs l)) : Bytes l w v := by
  rcases h.2 with ⟨rfl, h0⟩ | ⟨g, cap, cur, rfl, _, _, hnc, _⟩
  · have hl : l = [] := List.length_eq_zero_iff.1 h0
    subst hl
    exact ⟨none, 0, rfl, Nat.le_refl _, Rd.nil _ _⟩
  · exact ⟨_, cap, rfl, hnc, Rd.of_own (base := base) (e := e) (c := cap) h⟩
theorem hide {p : Prop} (h : p) : Hid p := h
/-- What a call leaves: a value of which S holds, and a world that extends the one it began in. -/
def Ret (w : World) (S : World → Value → Prop) (e : Ending) (w' : World) : Prop := ∃ v, e = .returned v ∧ Ext w w' ∧ S w' v
theorem Ret.mk {w w' : World} {S : World → Value → Prop} {v : Value} (hx : Ext w w') (hS : S w' v) : Ret w S (.returned v) w' := ⟨v, rfl, hx, hS⟩
theorem Bytes.keep {l : List UInt8} {w w' : World} {v : Value} (h : Bytes l w v) (hx : Keeps w w') : Bytes l w' v := by
  obtain ⟨A, c, hv, hc, hr⟩ := h
  exact ⟨A, c, hv, hc, hr.keep hx⟩
/-- Just this value. -/
def Is (x : Value) (_ : World) (v : Value) : Prop := v = x

def Sp.bytes (l : List UInt8) : Sp := ⟨Bytes l, fun _ _ _ h hx => h.keep hx⟩

section
variable {P : Program} {ops : Array Oper} {o : Oper} {a : Act} {w : World} {R : Value → World → Prop}

theorem ev {d : Nat} {v : Value} (h : a.tmps[d]? = some v) : a.eval (.tmp d) = v := by simp [Act.eval, h]

theorem wanted_none (hg : o.guard = none) : Region.wanted o (yielded ops a.tmps) = true := by simp [Region.wanted, hg]
theorem wanted_yes {k d : Nat} {b : Bool} (o' : Oper) (hg : o.guard = some (k, b)) (hk : ops[k]? = some o') (hd : o'.dst = some d) (hv : a.tmps[d]? = some (.bool b)) : Region.wanted o (yielded ops a.tmps) = true := by
  simp [Region.wanted, hg, yielded, hk, hd, hv]
theorem wanted_no {k d : Nat} {b : Bool} (o' : Oper) (hg : o.guard = some (k, b)) (hk : ops[k]? = some o') (hd : o'.dst = some d) (hv : a.tmps[d]? = some (.bool !b)) : Region.wanted o (yielded ops a.tmps) = false := by
  simp [Region.wanted, hg, yielded, hk, hd, hv]

theorem gives_of_run {v : Value} {w' : World} (h : (execOp a.eval o).run P w = .ok (.value v) w') (hR : R v w') : gives P o a w R := by unfold gives; rw [h]; exact hR
theorem gives_move {x : Operand} (h : o.op = .move x) (hR : R (a.eval x) w) : gives P o a w R := gives_of_run (w' := w) (v := a.eval x) (by simp [execOp, h]) hR
theorem gives_assign {x : Operand} (h : o.op = .assign x) (hR : R (a.eval x) w) : gives P o a w R := gives_of_run (w' := w) (v := a.eval x) (by simp [execOp, h]) hR
/-- A slice of bytes of the call's own whose row is known, so that it may be marked. -/
def Row (e : Nat) (B : Nat) (l : List UInt8) (w : World) (v : Value) : Prop := ∃ g fr, v = .slice (some ⟨g, 0, none⟩) l.length l.length ∧ B ≤ g ∧ w.heap[g]? = some (.cells (bs l).toArray e fr)
theorem Row.keep {e B : Nat} {l : List UInt8} {w w' : World} {v : Value} (h : Row e B l w v) (hx : Keeps w w') : Row e B l w' v := by
  obtain ⟨g, fr, hv, hB, hg⟩ := h
  obtain ⟨fr', hg'⟩ := hx.cells hg
  exact ⟨g, fr', hv, hB, hg'⟩
def Sp.row (e B : Nat) (l : List UInt8) : Sp := ⟨Row e B l, fun _ _ _ h hx => h.keep hx⟩
theorem Row.bytes {e B : Nat} {l : List UInt8} {w : World} {v : Value} (h : Row e B l w v) : Bytes l w v := by
  obtain ⟨g, fr, rfl, hB, hg⟩ := h
  refine ⟨_, _, rfl, Nat.le_refl _, fun _ => ⟨g, 0, rfl, fun j u hu => ?_⟩⟩
  rw [cell_of_row w g (0 + j) _ e fr hg, Nat.zero_add, List.getElem?_toArray, bs_get, hu]
  rfl
/-- '[]byte("..")': a literal's row, marked. -/
theorem gives_marked {t e B : Nat} {x : Operand} {l : List UInt8} (h : o.op = .convert t t x) (ht : P.underlying t = some (.slice e)) (he : P.underlying e = some (.int .u8)) (hx : Row e B l w (a.eval x))
    (hR : ∀ v w', Grw B w w' → Row e B l w' v → R v w') : gives P o a w R := by
  obtain ⟨g, fr, hv, hB, hg⟩ := hx
  have hsh : w.shape? g = some (e, (bs l).toArray.size) := by unfold World.shape?; rw [hg]
  refine gives_of_run (v := .slice (some ⟨g, 0, none⟩) l.length l.length) (w' := w.freeze ⟨g, (bs l).toArray.size, none⟩ 1) ?_ ?_
  · simp [execOp, h, hv, convert, run_underlying ht, run_underlying he, markStringish, hsh]
  · have hfg : ∀ k, k ≠ g → (w.freeze ⟨g, (bs l).toArray.size, none⟩ 1).heap[k]? = w.heap[k]? := fun k hk => by
      simp only [World.freeze, if_neg (show ¬ (1 : Nat) = 0 by decide), Array.getElem?_modify]
      rw [if_neg (fun e => hk e.symm)]
    have hgg : ∃ fr', (w.freeze ⟨g, (bs l).toArray.size, none⟩ 1).heap[g]? = some (.cells (bs l).toArray e fr') := by
      obtain ⟨lo, hi⟩ := fr
      simp only [World.freeze, if_neg (show ¬ (1 : Nat) = 0 by decide), Array.getElem?_modify, if_true, hg, Option.map_some]
      exact ⟨_, rfl⟩
    have hsz : (w.freeze ⟨g, (bs l).toArray.size, none⟩ 1).heap.size = w.heap.size := by simp [World.freeze]
    refine hR _ _ ⟨⟨rfl, rfl, rfl, by rw [hsz]; exact Nat.le_refl _, fun k hk => hfg k (by omega)⟩, fun k ob hob => ?_⟩ ?_
    · by_cases hk : k = g
      · subst hk
        obtain ⟨fr', h'⟩ := hgg
        rw [hg] at hob
        injection hob with hob
        exact .inr ⟨_, _, fr, fr', hob.symm, h'⟩
      · exact .inl (by rw [hfg k hk]; exact hob)
    · obtain ⟨fr', h'⟩ := hgg
      exact ⟨g, fr', rfl, hB, h'⟩
theorem Ret.grw {w w' : World} {S : World → Value → Prop} {e : Ending} {B : Nat} (h : Ret w S e w') (hB : B ≤ w.heap.size) : ∃ v, e = .returned v ∧ Grw B w w' ∧ S w' v := by
  obtain ⟨v, he, hx, hS⟩ := h
  exact ⟨v, he, Grw.of_ext hx hB, hS⟩
theorem gives_pick {c x y : Operand} (b : Bool) (h : o.op = .pick c x y) (hc : a.eval c = .bool b) (hR : R (a.eval (if b then x else y)) w) : gives P o a w R := by
  refine gives_of_run (w' := w) (v := a.eval (if b then x else y)) ?_ hR
  cases b <;> simp [execOp, h, hc, asBool]
theorem gives_extract {x : Operand} {i : Nat} (vs : Array Value) (h : o.op = .extract x i) (hx : a.eval x = .tuple vs) {v : Value} (hv : vs[i]? = some v) (hR : R v w) : gives P o a w R := by
  refine gives_of_run (w' := w) (v := v) ?_ hR
  simp [execOp, h, hx, Instr.extract, hv]
theorem gives_str {src dst e : Nat} {x : Operand} (l : List UInt8) (h : o.op = .convert src dst x) (hs : P.underlying src = some (.slice e)) (he : P.underlying e = some (.int .u8)) (hd : P.underlying dst = some .string)
    (hx : Bytes l w (a.eval x)) (hR : R (.string ⟨l.toArray⟩) w) : gives P o a w R := by
  obtain ⟨A, c, hv, _, hr⟩ := hx
  refine gives_of_run (w' := w) (v := .string ⟨l.toArray⟩) ?_ hR
  simp [execOp, h, hv, hr.str src dst e c hs he hd]
theorem gives_bin {op : BinOp} {xt yt : Nat} {x y : Operand} {u v z : Value} (h : o.op = .binOp op xt x y yt) (hx : a.eval x = u) (hy : a.eval y = v)
    (hg : (eqGuard op xt x y u v).run P w = .ok () w) (hz : (binOp op xt u v).run P w = .ok z w) (hR : R z w) : gives P o a w R := by
  refine gives_of_run (w' := w) (v := z) ?_ hR
  simp [execOp, h, hx, hy, hg, hz]
theorem gives_eql_str {xt yt : Nat} {x y : Operand} (l m : List UInt8) (h : o.op = .binOp .eql xt x y yt) (hx : a.eval x = .string ⟨l.toArray⟩) (hy : a.eval y = .string ⟨m.toArray⟩) (hR : R (.bool (l == m)) w) : gives P o a w R :=
  gives_bin h hx hy (by simp [go_sem]) (by simp [go_sem]) hR
theorem gives_eql_int {xt yt : Nat} {x y : Operand} {k : IntKind} (m n : Int) (h : o.op = .binOp .eql xt x y yt) (hx : a.eval x = .int k m) (hy : a.eval y = .int k n) (hR : R (.bool (m == n)) w) : gives P o a w R :=
  gives_bin h hx hy (by simp [go_sem]) (by simp [go_sem]) hR
theorem gives_call {f : Nat} {xs : Array Operand} {ats : Array TypeId} {args : Array Value} (h : o.op = .call { callee := .value (.func f), args := xs, argTypes := ats })
    (hcf : ∀ args w, (callFunc f args).run P w = .ok (.enter f args) w) (ha : xs.map a.eval = args)
    (hC : Calls P f args w fun e w' => ∃ v, e = .returned v ∧ R v w') : gives P o a w R := by
  have hr : (execOp a.eval o).run P w = .ok (.enter f args) w := by
    obtain ⟨dst, op, type, pos, after, guard⟩ := o
    subst h
    rw [execOp_call_go, ha]
    simp [hcf]
  unfold gives
  rw [hr]
  exact hC
end
end Go.Proofs.YtnkcneccolbbdaaGreatDoor
namespace Go.Proofs.YtnkcneccolbbdaaGreatDoor
open Go.RowKit

theorem info_u8 : (Tryz.prog.info? 5).map (fun i => (i.zero, i.size, i.bytes)) = some (some (.int .u8 0), 1, 1) := by kernel_rfl

/-- The value v is a slice of the call's own (in a block from base on, or nil) that holds just l. -/
def Own (w : World) (base : Nat) (v : Value) (l : List UInt8) : Prop := w.ownsRow base 5 1 v l.length (bs l)
theorem Own.nil (w : World) (base : Nat) : Own w base (.slice none 0 0) [] := World.ownsRow_nil _ _ _ _
theorem Own.alloc {w : World} {base : Nat} {v : Value} {l : List UInt8} (h : Own w base v l) (o : Obj) : Own (w.alloc o) base v l := World.ownsRow.alloc h o
theorem Own.drew {w : World} {base : Nat} {v : Value} {l : List UInt8} (h : Own w base v l) : Own w.drew base v l := h
theorem Own.bytes {w : World} {base : Nat} {v : Value} {l : List UInt8} (h : Own w base v l) : Bytes l w v := Bytes.own h
/-- It stays while nothing but new blocks come. -/
theorem Own.ext {w w' : World} {base : Nat} {v : Value} {l : List UInt8} (h : Own w base v l) (hx : Ext w w') : Own w' base v l := by
  refine ⟨h.1, ?_⟩
  rcases h.2 with hn | ⟨g, cap, cur, rfl, hb, hg, rest⟩
  · exact .inl hn
  · refine .inr ⟨g, cap, cur, rfl, hb, ?_, rest⟩
    have hlt : g < w.heap.size := by
      rcases Nat.lt_or_ge g w.heap.size with h' | h'
      · exact h'
      · rw [Array.getElem?_eq_none h'] at hg; cases hg
    rw [Below.block hx g hlt]
    exact hg

/-- Its place i: what it holds, that it may be written, what the slice holds behind a store there. -/
theorem Own.at {w : World} {base : Nat} {v : Value} {l : List UInt8} (h : Own w base v l) {i : Nat} {x : UInt8} (hx : l[i]? = some x) :
    ∃ g cap, v = .slice (some ⟨g, 0, none⟩) l.length cap ∧ base ≤ g ∧ w.cell? ⟨g, i, none⟩ = some (.int .u8 (x.toNat : Int)) ∧ w.frozen? ⟨g, i, none⟩ = false ∧
      Hid (∀ n, 0 ≤ n → n < 256 → Own (w.setCell ⟨g, i, none⟩ (.int .u8 n)) base v (l.set i (b8 n))) := by
  obtain ⟨hi, hix⟩ := List.getElem?_eq_some_iff.1 hx
  rcases h.2 with ⟨rfl, h0⟩ | ⟨g, cap, cur, rfl, hb, hg, hnc, hcm, hcs, ht⟩
  · omega
  · have hc : w.cell? ⟨g, i, none⟩ = some (.int .u8 (x.toNat : Int)) := by
      have := h.cells (g := g) rfl i (.int .u8 (x.toNat : Int)) (by rw [bs_get, hx]; rfl)
      rw [add_flat, Nat.zero_add] at this
      exact this
    refine ⟨g, cap, rfl, hb, hc, by simp [World.frozen?, hg], fun n h0 h1 => ?_⟩
    refine ⟨by rw [bs_length]; simp, .inr ⟨g, cap, cur.setIfInBounds i (.int .u8 n), by rw [List.length_set], hb, ?_, by rw [List.length_set]; exact hnc, hcm, by simpa using hcs, ?_⟩⟩
    · simp [World.setCell, Array.getElem?_modify, hg]
    · have e : bs (l.set i (b8 n)) = (bs l).set i (.int .u8 n) := by unfold bs; rw [List.map_set, b8_toNat h0 h1]
      rw [e, ← ht, List.length_set, Array.toList_setIfInBounds, List.take_set]
theorem Rd.byte (w : World) (t : TypeId) (b : UInt8) : Rd (w.alloc (.cells #[.int .u8 (b.toNat : Int)] t)) (some ⟨w.heap.size, 0, none⟩) [b] := Rd.new w t [b] []
theorem Rd.one (w : World) (t : TypeId) (n : Int) (h0 : 0 ≤ n) (h1 : n < 256) : Rd (w.alloc (.cells #[.int .u8 n] t)) (some ⟨w.heap.size, 0, none⟩) [b8 n] := by
  have := Rd.byte w t (b8 n)
  rwa [b8_toNat h0 h1] at this
theorem run_append_from_nil {P : Program} (w : World) (base t ty e : Nat) (i : TypeInfo) (size : Nat) (ht : P.underlying t = some (.slice e)) (hi : P.info? e = some i)
    (v : Value) (n : Nat) (xs : List Value) (hown : w.ownsRow base e size v n xs) (c : Nat) : (Builtin.append_ #[t, t] ty #[v, .slice none 0 c]).run P w = .ok v w := by
  rcases hown.2 with ⟨rfl, rfl⟩ | ⟨g, cap, cur, rfl, _, _, hnc, _⟩
  · simp [Builtin.append_, run_underlying ht, sizeOf, typeInfo, hi, Builtin.lenOf, Builtin.firstCells]
  · simp [Builtin.append_, run_underlying ht, sizeOf, typeInfo, hi, Builtin.lenOf, Builtin.firstCells, hnc, storeCells]

theorem run_cat (w : World) (base ty : Nat) (v : Value) (l m : List UInt8) (A : Option Addr) (c : Nat) (hown : Own w base v l) (hr : Rd w A m) (hbase : base ≤ w.heap.size) (hlen : l.length + m.length ≤ 140737488355328) :
    ∃ v' w', (Builtin.append_ #[32, 32] ty #[v, .slice A m.length c]).run Tryz.prog w = .ok v' w' ∧ Own w' base v' (l ++ m) ∧ Below base w w' ∧ w.grownBy w' v.ownBlock := by
  obtain ⟨i0, hi, hz0, hz1, hz2⟩ := info_parts info_u8
  rcases A with _ | a
  · have hm : m = [] := by
      cases m with
      | nil => rfl
      | cons x xs => obtain ⟨_, _, hA, _⟩ := hr (by simp); cases hA
    subst hm
    refine ⟨v, w, run_append_from_nil w base _ ty _ i0 1 Tryz.underlying32 hi v _ _ hown c, by rw [List.append_nil]; exact hown, Below.refl _ _, ⟨rfl, rfl, rfl, Nat.le_refl _, fun _ _ _ => rfl⟩⟩
  · have hc : ∀ j u, (bs m)[j]? = some u → w.cell? (a.add j) = some u := by
      intro j u hu
      by_cases hn : m = []
      · subst hn; simp [bs] at hu
      · exact hr.cells rfl hn j u hu
    obtain ⟨v', w', hrun, h2, h3, _⟩ := run_append_own (P := Tryz.prog) w base 32 ty 5 i0 _ 1 1 Tryz.underlying32 hi hz0 hz1 hz2 rfl (by decide) v _ _ hown a m.length c (bs m) (by rw [bs_length]; simp) hc (bs_one m)
      (by unfold maxLen; omega) (by omega) hbase
    refine ⟨v', w', hrun, ?_, (Below.refl _ _).grown h3 hbase (fun k hk => (hown.lt k hk).1), h3⟩
    unfold Own
    rw [bs_append, List.length_append]
    exact h2

section
variable {ops : Array Oper} {rest : List Oper} {o : Oper} {a : Act} {Q : Exit → Act → World → Prop} {w : World}
theorem wp_cat {K : Act → World → Prop} (s x : Operand) (ho : o.op = .call { callee := .builtin .append, args := #[s, x], argTypes := #[32, 32] })
    (base : Nat) (v : Value) (l m : List UInt8) (A : Option Addr) (n c : Nat) (hs : a.eval s = v) (hx : a.eval x = .slice A n c) (hn : n = m.length) (hown : Own w base v l) (hr : Rd w A m) (hbase : base ≤ w.heap.size) (hlen : l.length + m.length ≤ 140737488355328)
    (h : ∀ v' w', Own w' base v' (l ++ m) → Below base w w' → K (a.put o.dst v') w') : o.wp Tryz.prog a w K Q := by
  subst hn
  obtain ⟨v', w', hrun, h2, h3, _⟩ := run_cat w base o.type v l m A c hown hr hbase hlen
  unfold Oper.wp execOp
  simp only [ho, resolve, invoke, builtin, Sem.run_bind, Sem.run_pure, Result.andThen_ok, List.map_toArray, List.map_cons, List.map_nil, hs, hx, hrun]
  exact h v' w' h2 h3
theorem wpList_wanted {P : Program} {ops : Array Oper} {rest : List Oper} {o : Oper} {a : Act} {Q : Exit → Act → World → Prop} {w : World} (hgd : Region.wanted o (yielded ops a.tmps) = true)
    (h : ∀ K : Act → World → Prop, (∀ a w, wpList P ops Q rest a w → K a w) → o.wp P a w K Q) : wpList P ops Q (o :: rest) a w :=
  wpList_step fun K hK => by rw [if_pos hgd]; exact h K hK
/-- 'v = append(v, x...)', v of the call's own, x whatever reads as m. -/
theorem wpList_cat (hgd : Region.wanted o (yielded ops a.tmps) = true) (s x : Operand) (ho : o.op = .call { callee := .builtin .append, args := #[s, x], argTypes := #[32, 32] })
    (base : Nat) (v : Value) (l m : List UInt8) (A : Option Addr) (n c : Nat) (hs : a.eval s = v) (hx : a.eval x = .slice A n c) (hn : n = m.length) (hown : Own w base v l) (hr : Rd w A m) (hbase : base ≤ w.heap.size) (hlen : l.length + m.length ≤ 140737488355328)
    (h : ∀ v' w', Own w' base v' (l ++ m) → Below base w w' → wpList Tryz.prog ops Q rest (a.put o.dst v') w') : wpList Tryz.prog ops Q (o :: rest) a w :=
  wpList_wanted hgd fun _ hK => wp_cat s x ho base v l m A n c hs hx hn hown hr hbase hlen fun v' w' h2 h3 => hK _ _ (h v' w' h2 h3)
/-- 'v = append(v, n)', one byte. -/
theorem wpList_push {w0 : World} {n : Int} (hgd : Region.wanted o (yielded ops a.tmps) = true) (s x : Operand) (ho : o.op = .call { callee := .builtin .append, args := #[s, x], argTypes := #[32, 32] })
    (base : Nat) (v : Value) (l : List UInt8) (hs : a.eval s = v) (hx : a.eval x = .slice (some ⟨w0.heap.size, 0, none⟩) 1 1) (hown : Own w0 base v l) (h0 : 0 ≤ n) (h1 : n < 256) (hbase : base ≤ w0.heap.size) (hlen : l.length < 140737488355328)
    (h : ∀ v' w', Own w' base v' (l ++ [b8 n]) → Below base w0 w' → wpList Tryz.prog ops Q rest (a.put o.dst v') w') : wpList Tryz.prog ops Q (o :: rest) a (w0.alloc (.cells #[.int .u8 n] 5)) :=
  wpList_cat hgd s x ho base v l [b8 n] _ 1 1 hs hx rfl (hown.alloc _) (Rd.one w0 _ n h0 h1) (by simp; omega) (by simp; omega) fun v' w' h2 h3 =>
    h v' w' h2 (((Below.refl base w0).alloc hbase _).trans h3)
/-- 'string(x)'. -/
theorem wpList_str (hgd : Region.wanted o (yielded ops a.tmps) = true) (x : Operand) (ho : o.op = .convert 32 9 x) (l : List UInt8) (hx : Bytes l w (a.eval x))
    (h : wpList Tryz.prog ops Q rest (a.put o.dst (.string ⟨l.toArray⟩)) w) : wpList Tryz.prog ops Q (o :: rest) a w := by
  obtain ⟨A, c, hv, _, hr⟩ := hx
  refine wpList_wanted hgd fun K hK => ?_
  have hrun := hr.str (P := Tryz.prog) 32 9 5 c Tryz.underlying32 Tryz.underlying5 Tryz.underlying9
  unfold Oper.wp
  have he : (execOp a.eval o).run Tryz.prog w = .ok (.value (.string ⟨l.toArray⟩)) w := by simp [execOp, ho, hv, hrun]
  rw [he]
  exact hK _ _ h
end
end Go.Proofs.YtnkcneccolbbdaaGreatDoor
namespace Go.Proofs.YtnkcneccolbbdaaGreatDoor
open Go.ChangeShapes Go.WideShapes Go.ChangeAt Go.RowKit

theorem own : ownKnob Tryz.prog.godebug = none := by kernel_rfl
theorem laidOut : laidOutB Tryz.prog = true := by kernel_rfl

section
variable {H : Type} {enc : TypeId × Value → H} {P : Program} {W W' : World}
/-- What was read reads so again while nothing of it has turned. -/
theorem trodAll_stays (hl : laidOutB P = true) {sp : Nat → Bool} : ∀ (ts : List TypeId) (vs : List Value) (ds : List (DataW H)) (ps : List MemPlace), (∀ t ∈ ts, P.readableRec t = true ∧ t < P.types.size) →
    DataW.TrodAll enc P W 0 (fun _ => true) true ts vs ds ps → (∀ p ∈ ps, W.sameAt W' p) → (∀ p ∈ ps, sp p.block = true) → DataW.TrodAll enc P W' 0 sp true ts vs ds ps
  | [], vs, ds, ps, _, h, _, _ => by
    cases vs <;> cases ds <;> simp [DataW.TrodAll] at h
    subst h
    exact trodAll_mk0
  | t :: ts, vs, ds, ps, hr, h, hs, hp => by
    obtain ⟨v, vs', d, ds', p, q, rfl, rfl, rfl, h1, h2⟩ := trodAll_cons h
    have h3 := WideElems.Trod_stays hl (hr t (by simp)).1 (hr t (by simp)).2 (sp' := sp) h1 (fun x hx => hs x (List.mem_append_left _ hx)) (fun x hx => hp x (List.mem_append_left _ hx))
    have h4 := trodAll_stays hl ts vs' ds' q (fun x hx => hr x (List.mem_cons_of_mem _ hx)) h2 (fun x hx => hs x (List.mem_append_right _ hx)) (fun x hx => hp x (List.mem_append_right _ hx))
    exact trodAll_cons_mk h3 h4

/-- A law's post: true, and the arguments as they were. -/
theorem law_post {f : Func} {s : ChangeSpec} {args : Array Value} {ds gs : List (DataW H)} {before : List MemPlace} {tb : TypeId} (hl : laidOutB P = true)
    (hW : DataW.Whole enc P f.params.toList s.vars false W args.toList ds gs before) (hv : s.vars = []) (hparams : ∀ t ∈ f.params.toList, P.readableRec t = true ∧ t < P.types.size)
    (hres : f.resultTypes = #[tb]) (hub : P.underlying tb = some .bool) (hfn : s.fn H (ds ++ gs) = { results := [.lit (.bool true)], args := ds }) (hb : Below W.heap.size W W') :
    s.post enc P f false true false false W args (.bool true) W' := by
  have hW' := hW
  obtain ⟨p, q, hA, hV, rfl, hz, hn⟩ := hW
  rw [hv] at hV
  obtain ⟨rfl, rfl⟩ := trodVars_none hV
  have hlt := hW'.lt
  have hsame : ∀ x ∈ p, W.sameAt W' x := fun x hx => hb.same (hlt x (by simpa using hx))
  have hargs : ∀ sp : Nat → Bool, (∀ x ∈ p, sp x.block = true) → DataW.TrodAll enc P W' 0 sp true f.params.toList args.toList (s.fn H (ds ++ [])).args p := fun sp hs => by
    rw [hfn]
    exact trodAll_stays hl _ _ _ _ hparams hA hsame hs
  have hvars : ∀ sp : Nat → Bool, DataW.TrodVars enc P W' sp s.vars (s.fn H (ds ++ [])).vars [] := fun sp => by rw [hfn, hv]; rfl
  have hresults : ∀ (b : Nat) (sp : Nat → Bool) (hd : Bool), DataW.TrodAll enc P W' b sp hd f.resultTypes.toList ((Value.bool true).resultList f.resultTypes.size) (s.fn H (ds ++ [])).results [] := fun b sp hd => by
    rw [hfn, hres]
    exact trodAll_cons_mk (shut_bool hub true) trodAll_mk0
  refine ⟨ds, [], p ++ [], [], p, [], hW', hresults _ _ _, hargs _ (fun x hx => by simpa using hlt x (by simpa using hx)), hvars _, World.keptBut_mono (fun x hx => ⟨hx, ?_⟩) (hb.frame (· ∈ p ++ [])), fun h => by cases h⟩
  exact Or.inr (by simpa using hx)
end

set_option maxRecDepth 100000 in
/-- An argument that is a slice of bytes. -/
theorem open_bytes {H : Type} {enc : TypeId × Value → H} {W : World} {base : Nat} {v : Value} {d : DataW H} {ps : List MemPlace} (hval : Value.okWide Tryz.prog W .any base 32 v)
    (h : DataW.Trod enc Tryz.prog W 0 (fun _ => true) true 32 v d ps) :
    ∃ A c l, v = .slice A l.length c ∧ l.length ≤ c ∧ Rd W A l ∧ ((d = .nil ∧ l = []) ∨ ∃ elems spare, d = .slice elems spare ∧ elems.length = l.length ∧ elems.length + spare.length = c) := by
  obtain ⟨a0, len, cap, rfl⟩ := okWide_slice Tryz.underlying32 hval
  obtain ⟨n, hn⟩ := h
  rcases open_ints Tryz.underlying32 Tryz.underlying5 (by kernel_rfl) hn with ⟨hc, hx⟩ | ⟨a, len', cap', zs, hc, _, hlc, _, hz, hx, hcell, hwf⟩
  · simp [Value.cells] at hc
    obtain ⟨rfl, rfl, rfl⟩ := hc
    simp only [Prod.mk.injEq] at hx
    exact ⟨none, 0, [], rfl, Nat.le_refl _, Rd.nil _ _, .inl ⟨hx.1, rfl⟩⟩
  · simp [Value.cells] at hc
    obtain ⟨rfl, rfl, rfl⟩ := hc
    simp only [Prod.mk.injEq] at hx
    simp only [if_true] at hz
    have hlen : ((zs.take len).map b8).length = len := by simp; omega
    refine ⟨some a, cap, (zs.take len).map b8, by rw [hlen], by rw [hlen]; exact hlc, fun hn0 => ?_, .inr ⟨_, _, hx.1, ?_, ?_⟩⟩
    · have hp : 0 < zs.length := by
        have : len ≠ 0 := by intro e; apply hn0; apply List.length_eq_zero_iff.1; rw [hlen, e]
        omega
      obtain ⟨b, off, rfl, hcl⟩ := ints_at hcell hp
      refine ⟨b, off, rfl, fun j u hu => ?_⟩
      have hj : j < len := by
        rcases Nat.lt_or_ge j len with h' | h'
        · exact h'
        · rw [List.getElem?_eq_none (by rw [hlen]; exact h')] at hu; cases hu
      rw [hcl j (by omega)]
      rw [List.getElem?_map, List.getElem?_take_of_lt hj, List.getElem?_eq_getElem (by omega)] at hu
      have hu' : b8 zs[j] = u := by simpa using hu
      have hw := bounds_u8 (hwf zs[j] (List.getElem_mem _))
      rw [← hu', b8_toNat hw.1 (by omega), List.getD_eq_getElem?_getD, List.getElem?_eq_getElem (by omega)]
      rfl
    · rw [hlen]; simp [lits]; omega
    · simp [lits]; omega

/-- How long it may be, by the form's own reach. -/
theorem reach_bytes {H : Type} {P : Program} {ts : List TypeId} {ds : List (DataW H)} {t e : TypeId} {j : Nat} {l : List UInt8} {c : Nat} {d : DataW H} (hz : (DataW.weightsEach P ts ds).all (· ≤ reachBytes) = true) (ht : ts[j]? = some t) (hd : ds[j]? = some d)
    (hu : P.underlying t = some (.slice e)) (he : P.bytesOf e = 1) (h : (d = .nil ∧ l = []) ∨ ∃ elems spare, d = .slice elems spare ∧ elems.length = l.length ∧ elems.length + spare.length = c) : l.length ≤ 140737488351232 := by
  rcases h with ⟨_, rfl⟩ | ⟨elems, spare, rfl, hl, hc⟩
  · simp
  · have := sized_slice hz ht hd hu
    rw [he] at this
    unfold reachBytes at this
    omega
theorem readable_all {P : Program} (ts : List TypeId) (h : (ts.all fun t => P.readableRec t && decide (t < P.types.size)) = true) : ∀ t ∈ ts, P.readableRec t = true ∧ t < P.types.size := by
  intro t ht
  have := List.all_eq_true.1 h t ht
  simpa using this
theorem bulk_one {H : Type} (d : DataW H) : 1 ≤ Rows.uptoBulk d := by
  cases d with
  | lit l => cases l <;> simp [Rows.uptoBulk]
  | _ => simp [Rows.uptoBulk]
theorem bulk_length {H : Type} (l : List (DataW H)) : l.length ≤ Rows.uptoBulkAll l := by
  induction l with
  | nil => simp [Rows.uptoBulkAll]
  | cons x r ih =>
    have := bulk_one x
    simp only [Rows.uptoBulkAll, List.length_cons]
    omega
theorem bulk_bytes {H : Type} {d : DataW H} {l : List UInt8} {c : Nat} (h : (d = .nil ∧ l = []) ∨ ∃ elems spare, d = .slice elems spare ∧ elems.length = l.length ∧ elems.length + spare.length = c) : l.length + 1 ≤ Rows.uptoBulk d := by
  rcases h with ⟨rfl, rfl⟩ | ⟨elems, spare, rfl, hl, _⟩
  · simp [Rows.uptoBulk]
  · have h1 := bulk_length elems
    simp only [Rows.uptoBulk]
    omega
theorem bulk_string {H : Type} (s : ByteArray) : s.size + 1 ≤ Rows.uptoBulk (.lit (.string s.data.toList) : DataW H) := by
  simp only [Rows.uptoBulk]
  have : s.data.toList.length = s.size := by rw [Array.length_toList]; rfl
  omega
end Go.Proofs.YtnkcneccolbbdaaGreatDoor
namespace Go.Proofs.YtnkcneccolbbdaaGreatDoor

/-- The eight bytes of a number, the highest first. -/
def be64 (u : Int) : List UInt8 :=
  [b8 (u / 72057594037927936 % 256), b8 (u / 281474976710656 % 256), b8 (u / 1099511627776 % 256), b8 (u / 4294967296 % 256),
   b8 (u / 16777216 % 256), b8 (u / 65536 % 256), b8 (u / 256 % 256), b8 (u % 256)]
theorem be64_length (u : Int) : (be64 u).length = 8 := rfl
theorem be64_cells (u : Int) (h0 : 0 ≤ u) (h1 : u < 18446744073709551616) : bs (be64 u) =
    [.int .u8 (u / 72057594037927936), .int .u8 (u / 281474976710656 % 256), .int .u8 (u / 1099511627776 % 256), .int .u8 (u / 4294967296 % 256),
     .int .u8 (u / 16777216 % 256), .int .u8 (u / 65536 % 256), .int .u8 (u / 256 % 256), .int .u8 (u % 256)] := by
  have e : u / 72057594037927936 % 256 = u / 72057594037927936 := by omega
  unfold be64 bs
  simp only [List.map_cons, List.map_nil]
  rw [b8_toNat (by omega) (by omega), b8_toNat (by omega) (by omega), b8_toNat (by omega) (by omega), b8_toNat (by omega) (by omega), b8_toNat (by omega) (by omega),
    b8_toNat (by omega) (by omega), b8_toNat (by omega) (by omega), b8_toNat (by omega) (by omega), e]

/-- The number that bytes are, the highest first. -/
def num (l : List UInt8) : Int := l.foldl (fun a b => a * 256 + (b.toNat : Int)) 0
theorem num_snoc (l : List UInt8) (b : UInt8) : num (l ++ [b]) = num l * 256 + (b.toNat : Int) := by simp [num]
theorem num_from (l : List UInt8) : ∀ a : Int, 0 ≤ a → 0 ≤ l.foldl (fun a b => a * 256 + (b.toNat : Int)) a ∧ l.foldl (fun a b => a * 256 + (b.toNat : Int)) a < (a + 1) * 256 ^ l.length := by
  induction l with
  | nil => intro a h; simp; omega
  | cons b l ih =>
    intro a h
    have hb := b.toNat_lt
    have := ih (a * 256 + (b.toNat : Int)) (by omega)
    refine ⟨this.1, Int.lt_of_lt_of_le this.2 ?_⟩
    rw [List.length_cons, Int.pow_succ, Int.mul_comm (256 ^ l.length) 256, ← Int.mul_assoc]
    exact Int.mul_le_mul_of_nonneg_right (by omega) (Int.le_of_lt (Int.pow_pos (by omega)))
theorem num_bound (l : List UInt8) : 0 ≤ num l ∧ num l < 256 ^ l.length := by
  have := num_from l 0 (by omega)
  unfold num
  simpa using this
theorem num_be64 (u : Int) (h0 : 0 ≤ u) (h1 : u < 18446744073709551616) : num (be64 u) = u := by
  unfold num be64
  simp only [List.foldl_cons, List.foldl_nil]
  rw [b8_toNat (by omega) (by omega), b8_toNat (by omega) (by omega), b8_toNat (by omega) (by omega), b8_toNat (by omega) (by omega), b8_toNat (by omega) (by omega),
    b8_toNat (by omega) (by omega), b8_toNat (by omega) (by omega), b8_toNat (by omega) (by omega)]
  omega

theorem num_step (l : List UInt8) (k j : Nat) (x : UInt8) (h : l[k + j]? = some x) : num ((l.drop k).take (j + 1)) = num ((l.drop k).take j) * 256 + (x.toNat : Int) := by
  have h' : (l.drop k)[j]? = some x := by rw [List.getElem?_drop]; exact h
  rw [List.take_add_one, h', Option.toList_some, num_snoc]
theorem num_take_lt (l : List UInt8) (j : Nat) (h : j ≤ 7) : num (l.take j) < 72057594037927936 := by
  have h1 := (num_bound (l.take j)).2
  have h3 : 256 ^ (l.take j).length ≤ 256 ^ 7 := Nat.pow_le_pow_right (by omega) (Nat.le_trans (List.length_take_le _ _) h)
  have h2 : ((256 ^ (l.take j).length : Nat) : Int) ≤ ((256 ^ 7 : Nat) : Int) := Int.ofNat_le.2 h3
  rw [Int.natCast_pow] at h2
  have h4 : ((256 ^ 7 : Nat) : Int) = 72057594037927936 := by decide
  have h5 : (256 : Int) ^ (l.take j).length ≤ 72057594037927936 := by rw [← h4]; exact h2
  exact Int.lt_of_lt_of_le h1 h5
theorem num_take_lt8 (l : List UInt8) : 0 ≤ num (l.take 8) ∧ num (l.take 8) < 18446744073709551616 := by
  have h := num_bound (l.take 8)
  have h3 : 256 ^ (l.take 8).length ≤ 256 ^ 8 := Nat.pow_le_pow_right (by omega) (List.length_take_le _ _)
  have h2 : ((256 ^ (l.take 8).length : Nat) : Int) ≤ ((256 ^ 8 : Nat) : Int) := Int.ofNat_le.2 h3
  rw [Int.natCast_pow] at h2
  have h4 : ((256 ^ 8 : Nat) : Int) = 18446744073709551616 := by decide
  have h5 : (256 : Int) ^ (l.take 8).length ≤ 18446744073709551616 := by rw [← h4]; exact h2
  exact ⟨h.1, Int.lt_of_lt_of_le h.2 h5⟩
theorem or_low (a b : Nat) (hb : b < 256) : a * 256 ||| b = a * 256 + b := by
  have := Nat.shiftLeft_add_eq_or_of_lt (i := 8) (b := b) (by omega) a
  rw [Nat.shiftLeft_eq] at this
  exact this.symm
theorem or_byte (a b : Int) (ha0 : 0 ≤ a) (ha1 : a < 72057594037927936) (hb0 : 0 ≤ b) (hb1 : b < 256) :
    bits .or .u64 (IntKind.u64.wrap (a * 256)) (IntKind.u64.wrap b) = a * 256 + b := by
  have e1 : IntKind.u64.wrap (a * 256) = ((a.toNat * 256 : Nat) : Int) := by rw [IntKind.wrap_u64]; omega
  have e2 : IntKind.u64.wrap b = ((b.toNat : Nat) : Int) := by rw [IntKind.wrap_u64]; omega
  rw [e1, e2]
  show IntKind.u64.wrap ((BitVec.ofInt 64 ((a.toNat * 256 : Nat) : Int) ||| BitVec.ofInt 64 ((b.toNat : Nat) : Int)).toNat : Int) = _
  rw [BitVec.toNat_or, BitVec.ofInt_natCast, BitVec.ofInt_natCast, BitVec.toNat_ofNat, BitVec.toNat_ofNat,
    Nat.mod_eq_of_lt (show a.toNat * 256 < 2 ^ 64 by omega), Nat.mod_eq_of_lt (show b.toNat < 2 ^ 64 by omega), or_low _ _ (by omega), IntKind.wrap_u64]
  omega

/-- A text's bytes with ff behind each 00. -/
def esc : List UInt8 → List UInt8
  | [] => []
  | b :: l => if b = 0 then 0 :: 255 :: esc l else b :: esc l
theorem esc_append (l m : List UInt8) : esc (l ++ m) = esc l ++ esc m := by
  induction l with
  | nil => rfl
  | cons b l ih => simp only [List.cons_append, esc]; split <;> simp [ih]
theorem esc_length (l : List UInt8) : l.length ≤ (esc l).length ∧ (esc l).length ≤ 2 * l.length := by
  induction l with
  | nil => simp [esc]
  | cons b l ih => simp only [esc]; split <;> simp <;> omega
/-- A text as bytes. -/
def text (l : List UInt8) : List UInt8 := esc l ++ [0, 1]
end Go.Proofs.YtnkcneccolbbdaaGreatDoor
namespace Go.Proofs.YtnkcneccolbbdaaGreatDoor

/-- The table of the sums of four bits. -/
def crcTab : List Nat := [0, 498536548, 997073096, 651767980, 1994146192, 1802195444, 1303535960, 1342533948, 3988292384, 4027552580, 3604390888, 3412177804, 2607071920, 2262029012, 2685067896, 3183342108]
def crcAt (t : Nat) : Nat := crcTab.getD t 0
/-- One bit. -/
def cb (c : Nat) : Nat := c / 2 ^^^ (if c % 2 = 1 then 3988292384 else 0)
/-- Four bits by the table. -/
def ch (c : Nat) : Nat := c / 16 ^^^ crcAt (c % 16)
/-- A byte. -/
def crcStep (c : Nat) (x : UInt8) : Nat := ch (ch (c ^^^ x.toNat))
def crcFold (l : List UInt8) : Nat := l.foldl crcStep 4294967295
def crc (l : List UInt8) : Nat := 4294967295 - crcFold l

theorem cb_xor (a b : Nat) : cb (a ^^^ b) = cb a ^^^ cb b := by
  unfold cb
  rw [Nat.xor_div_two]
  have h := @Nat.xor_mod_two_eq_one a b
  rcases Nat.mod_two_eq_zero_or_one a with ha | ha <;> rcases Nat.mod_two_eq_zero_or_one b with hb | hb <;> simp [ha, hb] at h ⊢
  · rw [Nat.xor_assoc]
  · rw [Nat.xor_assoc, Nat.xor_assoc, Nat.xor_comm (b / 2)]
  · rw [Nat.xor_assoc, Nat.xor_comm 3988292384, Nat.xor_assoc, Nat.xor_self, Nat.xor_zero]
theorem cb_even (h : Nat) : cb (2 * h) = h := by unfold cb; simp [Nat.mul_mod_right]
theorem cb4_small : ∀ t, t < 16 → cb (cb (cb (cb t))) = crcAt t := by decide
theorem sixteen (c : Nat) : 2 * (2 * (2 * (2 * (c / 16)))) ^^^ c % 16 = c := by
  have h := Nat.shiftLeft_add_eq_or_of_lt (i := 4) (b := c % 16) (Nat.mod_lt _ (by decide)) (c / 16)
  have e : 2 * (2 * (2 * (2 * (c / 16)))) = c / 16 * 2 ^ 4 := by omega
  rw [e]
  apply Nat.eq_of_testBit_eq
  intro i
  rw [Nat.testBit_xor]
  by_cases hi : i < 4
  · have h1 : (c / 16 * 2 ^ 4).testBit i = false := by rw [Nat.testBit_mul_two_pow, decide_eq_false (by omega), Bool.false_and]
    have h2 : (c % 16).testBit i = c.testBit i := by rw [show (16 : Nat) = 2 ^ 4 from rfl, Nat.testBit_mod_two_pow]; simp [hi]
    rw [h1, h2]; simp
  · have h1 : (c / 16 * 2 ^ 4).testBit i = c.testBit i := by
      rw [Nat.testBit_mul_two_pow, show c / 16 = c / 2 ^ 4 from rfl, Nat.testBit_div_two_pow]
      simp [show 4 ≤ i from by omega]
    have h2 : (c % 16).testBit i = false := by rw [show (16 : Nat) = 2 ^ 4 from rfl, Nat.testBit_mod_two_pow]; simp [hi]
    rw [h1, h2]; simp
theorem ch_bits (c : Nat) : ch c = cb (cb (cb (cb c))) := by
  have hs := sixteen c
  have : cb (cb (cb (cb c))) = cb (cb (cb (cb (2 * (2 * (2 * (2 * (c / 16)))) ^^^ c % 16)))) := by rw [hs]
  rw [this]
  simp only [cb_xor, cb_even]
  rw [cb4_small _ (Nat.mod_lt _ (by decide))]
  rfl

/-- The document's own step: bit k of the byte. -/
def rb (x : Nat) (s k : Nat) : Nat := s / 2 ^^^ (if (s % 2 ^^^ x / 2 ^ k % 2) = 1 then 3988292384 else 0)
def rbs (x : Nat) (s : Nat) : Nat → Nat
  | 0 => s
  | k + 1 => rb x (rbs x s k) k
def cbs (c : Nat) : Nat → Nat
  | 0 => c
  | k + 1 => cb (cbs c k)
theorem rbs_cbs (x s k : Nat) : rbs x s k ^^^ x / 2 ^ k = cbs (s ^^^ x) k := by
  induction k with
  | zero => simp [rbs, cbs]
  | succ k ih =>
    simp only [rbs, cbs]
    rw [← ih]
    unfold rb cb
    rw [Nat.xor_div_two, Nat.pow_succ, ← Nat.div_div_eq_div_mul]
    have h := @Nat.xor_mod_two_eq_one (rbs x s k) (x / 2 ^ k)
    have e : ((rbs x s k % 2 ^^^ x / 2 ^ k % 2) = 1) ↔ ((rbs x s k ^^^ x / 2 ^ k) % 2 = 1) := by
      rw [h]
      rcases Nat.mod_two_eq_zero_or_one (rbs x s k) with ha | ha <;> rcases Nat.mod_two_eq_zero_or_one (x / 2 ^ k) with hb | hb <;> simp [ha, hb]
    by_cases hc : (rbs x s k ^^^ x / 2 ^ k) % 2 = 1
    · rw [if_pos (e.2 hc), if_pos hc, Nat.xor_assoc, Nat.xor_assoc, Nat.xor_comm 3988292384]
    · rw [if_neg (fun h => hc (e.1 h)), if_neg hc, Nat.xor_zero, Nat.xor_zero]
theorem rbs_eight (x : UInt8) (s : Nat) : rbs x.toNat s 8 = crcStep s x := by
  have h := rbs_cbs x.toNat s 8
  have hx : x.toNat / 2 ^ 8 = 0 := Nat.div_eq_of_lt x.toNat_lt
  rw [hx, Nat.xor_zero] at h
  rw [h]
  unfold crcStep
  rw [ch_bits, ch_bits]
  rfl

theorem lt32_xor {a b : Nat} (ha : a < 4294967296) (hb : b < 4294967296) : a ^^^ b < 4294967296 := Nat.xor_lt_two_pow (n := 32) ha hb
theorem crcAt_lt (t : Nat) : crcAt t < 4294967296 := by
  by_cases h : t < 16
  · revert t; decide
  · unfold crcAt
    rw [List.getD_eq_getElem?_getD, List.getElem?_eq_none (by simp [crcTab]; omega)]; decide
theorem cb_lt {c : Nat} (h : c < 4294967296) : cb c < 4294967296 := by
  unfold cb
  refine lt32_xor (by omega) ?_
  split <;> omega
theorem ch_lt {c : Nat} (h : c < 4294967296) : ch c < 4294967296 := lt32_xor (by omega) (crcAt_lt _)
theorem crcStep_lt {c : Nat} (x : UInt8) (h : c < 4294967296) : crcStep c x < 4294967296 := ch_lt (ch_lt (lt32_xor h (by have := x.toNat_lt; omega)))
theorem rb_lt {x s k : Nat} (h : s < 4294967296) : rb x s k < 4294967296 := by
  unfold rb
  refine lt32_xor (by omega) ?_
  split <;> omega
theorem rbs_lt {x s : Nat} (h : s < 4294967296) : ∀ k, rbs x s k < 4294967296
  | 0 => h
  | k + 1 => rb_lt (rbs_lt h k)
theorem fold_lt (l : List UInt8) : ∀ c, c < 4294967296 → l.foldl crcStep c < 4294967296 := by
  induction l with
  | nil => intro c h; exact h
  | cons x l ih => intro c h; exact ih _ (crcStep_lt x h)
theorem crcFold_lt (l : List UInt8) : crcFold l < 4294967296 := fold_lt l _ (by decide)
theorem crcFold_snoc (l : List UInt8) (x : UInt8) : crcFold (l ++ [x]) = crcStep (crcFold l) x := by simp [crcFold]

/-- Bit 31 tells whether the bit that went out was one. -/
theorem cb_inj {a b : Nat} (ha : a < 4294967296) (hb : b < 4294967296) (h : cb a = cb b) : a = b := by
  have top : ∀ c, c < 4294967296 → (cb c).testBit 31 = decide (c % 2 = 1) := fun c hc => by
    unfold cb
    rw [Nat.testBit_xor, Nat.testBit_lt_two_pow (x := c / 2) (i := 31) (by omega)]
    by_cases h : c % 2 = 1
    · simp [h]; decide
    · simp [h]
  have t1 := top a ha
  rw [h, top b hb] at t1
  have hp : (a % 2 = 1) ↔ (b % 2 = 1) := by
    constructor
    · intro h1; rw [decide_eq_true h1] at t1; exact of_decide_eq_true t1
    · intro h1; rw [decide_eq_true h1] at t1; exact of_decide_eq_true t1.symm
  unfold cb at h
  have hd : a / 2 = b / 2 := by
    by_cases h1 : a % 2 = 1
    · rw [if_pos h1, if_pos (hp.1 h1)] at h
      have := congrArg (· ^^^ 3988292384) h
      simpa [Nat.xor_assoc, Nat.xor_self, Nat.xor_zero] using this
    · rw [if_neg h1, if_neg (fun h2 => h1 (hp.2 h2))] at h
      simpa using h
  omega
theorem ch_inj {a b : Nat} (ha : a < 4294967296) (hb : b < 4294967296) (h : ch a = ch b) : a = b := by
  rw [ch_bits, ch_bits] at h
  exact cb_inj ha hb (cb_inj (cb_lt ha) (cb_lt hb) (cb_inj (cb_lt (cb_lt ha)) (cb_lt (cb_lt hb)) (cb_inj (cb_lt (cb_lt (cb_lt ha))) (cb_lt (cb_lt (cb_lt hb))) h)))
theorem xor_cancel {a b c : Nat} (h : a ^^^ c = b ^^^ c) : a = b := by
  have := congrArg (· ^^^ c) h
  simpa [Nat.xor_assoc, Nat.xor_self, Nat.xor_zero] using this
theorem crcStep_inj {a b : Nat} (x : UInt8) (ha : a < 4294967296) (hb : b < 4294967296) (h : crcStep a x = crcStep b x) : a = b := by
  have hx : x.toNat < 4294967296 := by have := x.toNat_lt; omega
  exact xor_cancel (ch_inj (lt32_xor ha hx) (lt32_xor hb hx) (ch_inj (ch_lt (lt32_xor ha hx)) (ch_lt (lt32_xor hb hx)) h))
theorem crcStep_byte {c : Nat} (x y : UInt8) (hc : c < 4294967296) (h : crcStep c x = crcStep c y) : x = y := by
  have hx : x.toNat < 4294967296 := by have := x.toNat_lt; omega
  have hy : y.toNat < 4294967296 := by have := y.toNat_lt; omega
  have := ch_inj (lt32_xor hc hx) (lt32_xor hc hy) (ch_inj (ch_lt (lt32_xor hc hx)) (ch_lt (lt32_xor hc hy)) h)
  rw [Nat.xor_comm, Nat.xor_comm c] at this
  exact UInt8.toNat_inj.1 (xor_cancel this)
theorem fold_inj (l : List UInt8) : ∀ a b, a < 4294967296 → b < 4294967296 → l.foldl crcStep a = l.foldl crcStep b → a = b := by
  induction l with
  | nil => intro a b _ _ h; exact h
  | cons x l ih => intro a b ha hb h; exact crcStep_inj x ha hb (ih _ _ (crcStep_lt x ha) (crcStep_lt x hb) h)
/-- One byte turned: another sum. -/
theorem crc_turned (l m : List UInt8) (x y : UInt8) (h : crc (l ++ x :: m) = crc (l ++ y :: m)) : x = y := by
  have h1 := crcFold_lt (l ++ x :: m)
  have h2 := crcFold_lt (l ++ y :: m)
  unfold crc at h
  have h3 : crcFold (l ++ x :: m) = crcFold (l ++ y :: m) := by omega
  unfold crcFold at h3
  rw [List.foldl_append, List.foldl_append, List.foldl_cons, List.foldl_cons] at h3
  have hc := fold_lt l 4294967295 (by decide)
  exact crcStep_byte x y hc (fold_inj m _ _ (crcStep_lt x hc) (crcStep_lt y hc) h3)
end Go.Proofs.YtnkcneccolbbdaaGreatDoor
namespace Go.Proofs.YtnkcneccolbbdaaGreatDoor
open Go.RowKit

/-- The table's cells are in their places. -/
def Tab (w : World) : Prop := ∀ i : Nat, i < 16 → w.cell? ⟨0, i, none⟩ = some (.int .u32 (crcAt i : Int))
theorem Tab.ext {w w' : World} (h : Tab w) (hx : Ext w w') : Tab w' := fun i hi => (Below.cell hx (World.block_lt_of_cell? w _ (h i hi))).trans (h i hi)

theorem Tab.keep {w w' : World} (h : Tab w) (hx : Keeps w w') : Tab w' := fun i hi => hx.cell (h i hi)
theorem half_facts (a : Nat) (h : a < 4294967296) : ∃ t T b : Nat, bits .and .u32 (a : Int) 15 = (t : Int) ∧ t < 16 ∧ Hid (T = crcAt t) ∧ bits .xor .u32 ((a : Int) / 16) (T : Int) = (b : Int) ∧ b < 4294967296 ∧ Hid (b = ch a) := by
  refine ⟨a % 16, crcAt (a % 16), ch a, ?_, Nat.mod_lt _ (by decide), rfl, ?_, ch_lt h, rfl⟩
  · have := u32_and_nat a 15 h (by decide)
    rw [nat_mask4] at this
    exact this
  · have := u32_xor_nat (a / 16) (crcAt (a % 16)) (by omega) (crcAt_lt _)
    rw [Int.natCast_ediv] at this
    exact this
theorem step_facts (c : Nat) (x : UInt8) (h : c < 4294967296) : ∃ a : Nat, bits .xor .u32 (c : Int) (x.toNat : Int) = (a : Int) ∧ a < 4294967296 ∧ Hid (ch (ch a) = crcStep c x) := by
  have hx := x.toNat_lt
  exact ⟨c ^^^ x.toNat, u32_xor_nat _ _ h (by omega), lt32_xor h (by omega), rfl⟩
theorem nat_not32 (s : Nat) (h : s < 4294967296) : 4294967295 ^^^ s = 4294967295 - s := by
  have h1 := BitVec.toNat_not (x := BitVec.ofNat 32 s)
  rw [← BitVec.allOnes_xor, BitVec.toNat_xor, BitVec.toNat_allOnes, BitVec.toNat_ofNat, Nat.mod_eq_of_lt (show s < 2 ^ 32 by omega)] at h1
  exact h1
theorem not32 (s : Nat) (h : s < 4294967296) : bits .xor .u32 4294967295 (s : Int) = ((4294967295 - s : Nat) : Int) := by
  have := u32_xor_nat 4294967295 s (by decide) h
  rw [nat_not32 s h] at this
  exact this
theorem bit_test (s x k : Nat) (hs : s < 4294967296) (hx : x < 256) :
    bits .xor .u32 (bits .and .u32 (s : Int) 1) (bits .and .u32 ((x : Int) / 2 ^ k % 4294967296) 1) = ((s % 2 ^^^ x / 2 ^ k % 2 : Nat) : Int) := by
  have e1 := u32_and_nat s 1 hs (by decide)
  rw [nat_mask1] at e1
  have hxk : x / 2 ^ k < 4294967296 := Nat.lt_of_le_of_lt (Nat.div_le_self _ _) (by omega)
  have e2 := u32_and_nat (x / 2 ^ k) 1 hxk (by decide)
  rw [nat_mask1] at e2
  have e3 : (x : Int) / 2 ^ k % 4294967296 = ((x / 2 ^ k : Nat) : Int) := by
    have h1 : (x : Int) / 2 ^ k = ((x / 2 ^ k : Nat) : Int) := by rw [Int.natCast_ediv, Int.natCast_pow]; rfl
    rw [h1]
    generalize x / 2 ^ k = y at hxk
    omega
  rw [e3]
  have h1 : bits .and .u32 (s : Int) 1 = ((s % 2 : Nat) : Int) := e1
  have h2 : bits .and .u32 ((x / 2 ^ k : Nat) : Int) 1 = ((x / 2 ^ k % 2 : Nat) : Int) := e2
  rw [h1, h2]
  exact u32_xor_nat _ _ (by omega) (by omega)
theorem poly_xor (s : Nat) (hs : s < 4294967296) : bits .xor .u32 ((s : Int) / 2) 3988292384 = ((s / 2 ^^^ 3988292384 : Nat) : Int) := by
  have := u32_xor_nat (s / 2) 3988292384 (by omega) (by decide)
  rw [Int.natCast_ediv] at this
  exact this
theorem crc_take (l : List UInt8) (n : Nat) (x : UInt8) (h : l[n]? = some x) : crcFold (l.take (n + 1)) = crcStep (crcFold (l.take n)) x := by
  rw [List.take_add_one, h, Option.toList_some, crcFold_snoc]

set_option maxHeartbeats 800000 in
theorem sum_any (A : Option Addr) (c : Nat) (l : List UInt8) (w : World) (hr : Rd w A l) (hl : l.length ≤ 140737488355328) (ht : Tab w) :
    Calls Tryz.prog 112 #[.slice A l.length c] w (Ret w (Is (.int .u32 (crc l : Int)))) := by
  go_enter Tryz.func112, Tryz.ntmps112
  go_wp2
  go_loop [3, 8] (fun c i => ∃ (n s : Nat), n ≤ l.length ∧ i = .int .i64 n ∧ s < 4294967296 ∧ Hid (s = crcFold (l.take n)) ∧ c = .int .u32 s) (fun _ i => l.length - (intOf i).toNat)
  case atStart => exact ⟨0, 4294967295, Nat.zero_le _, rfl, by omega, rfl, rfl⟩
  case round =>
    obtain ⟨n, s, hn, rfl, h1, HS, rfl⟩ := hrel
    by_cases hlt : n < l.length
    · obtain ⟨b, off, x, rfl, hx, hc⟩ := hr.at (k := n) hlt
      have hx2 := x.toNat_lt
      have HF := hide (crc_take l n x hx)
      clear hx
      obtain ⟨a, e1, ha, HA⟩ := step_facts s x h1
      obtain ⟨t1, T1, b1, e2, ht1, HT1, e3, hb1, HB1⟩ := half_facts a ha
      obtain ⟨t2, T2, b2, e4, ht2, HT2, e5, hb2, HB2⟩ := half_facts b1 hb1
      have hc1 : w.cell? ⟨0, t1, none⟩ = some (.int .u32 (T1 : Int)) := by rw [HT1.out]; exact ht t1 ht1
      have hc2 : w.cell? ⟨0, t2, none⟩ = some (.int .u32 (T2 : Int)) := by rw [HT2.out]; exact ht t2 ht2
      go_wp2
      refine ⟨⟨n + 1, b2, by omega, by go_num, hb2, ?_, rfl⟩, by simp [intOf]; omega⟩
      show b2 = _
      rw [HF.out, ← HS.out, ← HA.out, HB2.out, HB1.out]
    · obtain rfl : n = l.length := by omega
      go_wp2
      go_ret
      refine Ret.mk (Ext.refl _) ?_
      have := HS.out
      rw [List.take_of_length_le (Nat.le_refl _)] at this
      unfold Is crc
      rw [← this]
      show Value.int .u32 _ = _
      rw [show IntKind.u32.max = 4294967295 from rfl, not32 s h1]

end Go.Proofs.YtnkcneccolbbdaaGreatDoor
namespace Go.Proofs.YtnkcneccolbbdaaGreatDoor
open Go.RowKit

theorem gTab : Tryz.prog.globalNamed "muniment/octet.halfBytes" = some 0 := by kernel_rfl
theorem gTabType : (Tryz.prog.globals[0]?).map (·.type) = some 169 := by kernel_rfl
theorem cellsTab : Tryz.prog.cellsOf 169 = 16 := by kernel_rfl
theorem cellsU32 : Tryz.prog.cellsOf 143 = 1 := by kernel_rfl
def tabInts : List Int := [0, 498536548, 997073096, 651767980, 1994146192, 1802195444, 1303535960, 1342533948, 3988292384, 4027552580, 3604390888, 3412177804, 2607071920, 2262029012, 2685067896, 3183342108]
theorem tab_of_laid {W : World} (h : laidMetH Tryz.prog [("muniment/octet.halfBytes", Rows.laid_muniment_octet_halfBytes)] W) : Tab W := by
  have ht : Lib.TabIs Tryz.prog W "muniment/octet.halfBytes" .u32 tabInts := Lib.tabIs_of_head (rest := []) gTab gTabType Tryz.underlying169 Tryz.underlying143 cellsU32 cellsTab h
  intro i hi
  have h1 := ht.cell gTab i (by simp [tabInts]; omega)
  rw [h1]
  have h2 : ∀ i : Nat, i < 16 → tabInts.getD i 0 = ((crcAt i : Nat) : Int) := by decide
  rw [h2 i hi]
/-- A world for the witness: the settled one, the table holding what its initialiser lays. -/
noncomputable def laidWorld (os : Os) : World :=
  { World.holding Tryz.prog os ⟨#[], #[], []⟩ with heap := (World.holding Tryz.prog os ⟨#[], #[], []⟩).heap.modify 0 fun
      | .cells _ t frozen => .cells #[.int .u32 0, .int .u32 498536548, .int .u32 997073096, .int .u32 651767980, .int .u32 1994146192, .int .u32 1802195444, .int .u32 1303535960, .int .u32 1342533948, .int .u32 3988292384, .int .u32 4027552580, .int .u32 3604390888, .int .u32 3412177804, .int .u32 2607071920, .int .u32 2262029012, .int .u32 2685067896, .int .u32 3183342108] t frozen
      | o => o }
end Go.Proofs.YtnkcneccolbbdaaGreatDoor
namespace Go.Proofs.YtnkcneccolbbdaaGreatDoor
open Go.RowKit

/-- The low four bytes of a number. -/
def be4 (c : Int) : List UInt8 := (be64 c).drop 4
theorem be4_length (c : Int) : (be4 c).length = 4 := rfl
/-- Numbers, eight bytes each. -/
def numsB (ns : List Int) : List UInt8 := (ns.map be64).flatten
theorem numsB_length (ns : List Int) : (numsB ns).length = ns.length * 8 := by
  induction ns with
  | nil => rfl
  | cons n ns ih => simp only [numsB, List.map_cons, List.flatten_cons, List.length_append, List.length_cons] at *; rw [ih, be64_length]; omega
theorem numsB_snoc (ns : List Int) (n : Int) : numsB (ns ++ [n]) = numsB ns ++ be64 n := by simp [numsB]
theorem numsB_take (ns : List Int) (k : Nat) (n : Int) (h : ns[k]? = some n) : numsB (ns.take (k + 1)) = numsB (ns.take k) ++ be64 n := by
  rw [List.take_add_one, h, Option.toList_some, numsB_snoc]
theorem numsB_at (ns : List Int) (k : Nat) (n : Int) (h : ns[k]? = some n) : ((numsB ns).drop (8 * k)).take 8 = be64 n := by
  obtain ⟨hk, rfl⟩ := List.getElem?_eq_some_iff.1 h
  have e : ns = ns.take k ++ (ns[k] :: ns.drop (k + 1)) := by rw [← List.drop_eq_getElem_cons hk, List.take_append_drop]
  have e2 : numsB ns = numsB (ns.take k) ++ (be64 ns[k] ++ numsB (ns.drop (k + 1))) := by
    have e3 : ns.map be64 = (ns.take k).map be64 ++ be64 ns[k] :: (ns.drop (k + 1)).map be64 := by rw [← List.map_cons, ← List.map_append, ← e]
    unfold numsB
    rw [e3, List.flatten_append, List.flatten_cons]
  rw [e2, show 8 * k = (numsB (ns.take k)).length by rw [numsB_length, List.length_take]; omega, List.drop_left]
  exact List.take_left' (be64_length _)
theorem splice_length {α : Type} (L : List α) (off : Nat) (cs : List α) (h : off + cs.length ≤ L.length) : (splice L off cs).length = L.length := length_splice L off cs h
theorem splice_before {α : Type} (L : List α) (off : Nat) (cs : List α) (h : off ≤ L.length) (j : Nat) (hj : j < off) : (splice L off cs)[j]? = L[j]? := by
  unfold splice
  rw [List.getElem?_append_left (by rw [List.length_take]; omega), List.getElem?_take_of_lt hj]
theorem splice_behind {α : Type} (L : List α) (off : Nat) (cs : List α) (h : off + cs.length ≤ L.length) (j : Nat) (hj : off + cs.length ≤ j) : (splice L off cs)[j]? = L[j]? := by
  unfold splice
  rw [List.getElem?_append_right (by rw [List.length_take]; omega), List.length_take, Nat.min_eq_left (by omega), List.getElem?_append_right (by omega), List.getElem?_drop]
  congr 1; omega
theorem splice_in {α : Type} (L : List α) (off : Nat) (cs : List α) (h : off ≤ L.length) (j : Nat) (hj : j < cs.length) : (splice L off cs)[off + j]? = cs[j]? := by
  unfold splice
  rw [List.getElem?_append_right (by rw [List.length_take]; omega), List.length_take, Nat.min_eq_left h, Nat.add_sub_cancel_left, List.getElem?_append_left hj]
theorem splice_slice {α : Type} (L : List α) (off : Nat) (cs : List α) (h : off ≤ L.length) : ((splice L off cs).drop off).take cs.length = cs := by
  unfold splice
  have e : (L.take off).length = off := by rw [List.length_take]; omega
  have e2 : (L.take off ++ (cs ++ L.drop (off + cs.length))).drop off = cs ++ L.drop (off + cs.length) := List.drop_left' e
  rw [e2]
  exact List.take_left ..
/-- Two that lie one behind the other are one. -/
theorem splice_next {α : Type} (L : List α) (off : Nat) (a b : List α) (h : off + a.length + b.length ≤ L.length) : splice (splice L off a) (off + a.length) b = splice L off (a ++ b) := by
  apply List.ext_getElem?
  intro j
  have h1 : (splice L off a).length = L.length := length_splice _ _ _ (by omega)
  by_cases h2 : j < off
  · rw [splice_before _ _ _ (by omega) _ (by omega), splice_before _ _ _ (by omega) _ h2, splice_before _ _ _ (by omega) _ h2]
  · by_cases h3 : j < off + a.length
    · obtain ⟨k, rfl⟩ : ∃ k, j = off + k := ⟨j - off, by omega⟩
      rw [splice_before _ _ _ (by omega) _ h3, splice_in _ _ _ (by omega) _ (by omega), splice_in _ _ _ (by omega) _ (by rw [List.length_append]; omega), List.getElem?_append_left (by omega)]
    · by_cases h4 : j < off + a.length + b.length
      · obtain ⟨k, rfl⟩ : ∃ k, j = off + a.length + k := ⟨j - (off + a.length), by omega⟩
        rw [splice_in _ _ _ (by omega) _ (by omega), show off + a.length + k = off + (a.length + k) by omega, splice_in _ _ _ (by omega) _ (by rw [List.length_append]; omega), List.getElem?_append_right (by omega)]
        congr 1; omega
      · rw [splice_behind _ _ _ (by omega) _ (by omega), splice_behind _ _ _ (by omega) _ (by omega), splice_behind _ _ _ (by rw [List.length_append]; omega) _ (by rw [List.length_append]; omega)]
theorem splice_nil {α : Type} (L : List α) (off : Nat) : splice L off [] = L := by simp [splice]
theorem splice_bs (l : List UInt8) (off : Nat) (m : List UInt8) : splice (bs l) off (bs m) = bs (splice l off m) := by simp [splice, bs, List.map_take, List.map_drop]
theorem splice_get_slice {α : Type} (L : List α) (off : Nat) (cs : List α) (i n : Nat) (h : off + cs.length ≤ L.length) (hi : i + n ≤ off) : ((splice L off cs).drop i).take n = (L.drop i).take n := by
  apply List.ext_getElem?
  intro j
  by_cases hj : j < n
  · rw [List.getElem?_take_of_lt hj, List.getElem?_take_of_lt hj, List.getElem?_drop, List.getElem?_drop, splice_before _ _ _ (by omega) _ (by omega)]
  · rw [List.getElem?_eq_none (by rw [List.length_take]; omega), List.getElem?_eq_none (by rw [List.length_take]; omega)]

/-- A sector's bytes without its sum. -/
def bodyB (kind : UInt8) (ns : List Int) (tail : List UInt8) : List UInt8 := splice (splice ((List.replicate 512 0).set 4 kind) 5 (numsB ns)) 32 tail
/-- A sector's bytes. -/
def sealB (kind : UInt8) (ns : List Int) (tail : List UInt8) : List UInt8 := splice (bodyB kind ns tail) 0 (be4 (crc ((bodyB kind ns tail).drop 4)))
/-- What reading a sector answers, and its numbers. -/
def unsE (kind : Nat) (b : List UInt8) : Int := if b.take 4 = be4 (crc (b.drop 4)) then (if (b.getD 4 0).toNat = kind then 0 else 3) else 15
def numAt (b : List UInt8) (k : Nat) : Int := num ((b.drop (5 + 8 * k)).take 8)
theorem numAt_range (b : List UInt8) (k : Nat) : 0 ≤ numAt b k ∧ numAt b k < 18446744073709551616 := num_take_lt8 _
section
variable {kind : UInt8} {ns : List Int} {tail : List UInt8}
theorem set4_length (kind : UInt8) : ((List.replicate 512 (0 : UInt8)).set 4 kind).length = 512 := by rw [List.length_set, List.length_replicate]
theorem bodyB_length (h1 : ns.length ≤ 6) (h2 : tail.length ≤ 480) : (bodyB kind ns tail).length = 512 := by
  have h3 : (splice ((List.replicate 512 (0 : UInt8)).set 4 kind) 5 (numsB ns)).length = 512 := by rw [length_splice _ _ _ (by rw [numsB_length, set4_length]; omega), set4_length]
  unfold bodyB
  rw [length_splice _ _ _ (by rw [h3]; omega), h3]
theorem sealB_length (h1 : ns.length ≤ 6) (h2 : tail.length ≤ 480) : (sealB kind ns tail).length = 512 := by
  unfold sealB
  rw [length_splice _ _ _ (by rw [be4_length, bodyB_length h1 h2]; omega), bodyB_length h1 h2]
theorem sealB_take (h1 : ns.length ≤ 6) (h2 : tail.length ≤ 480) : (sealB kind ns tail).take 4 = be4 (crc ((bodyB kind ns tail).drop 4)) := by
  have h := splice_slice (bodyB kind ns tail) 0 (be4 (crc ((bodyB kind ns tail).drop 4))) (by omega)
  rw [List.drop_zero, be4_length] at h
  exact h
theorem sealB_drop (h1 : ns.length ≤ 6) (h2 : tail.length ≤ 480) : (sealB kind ns tail).drop 4 = (bodyB kind ns tail).drop 4 := by
  apply List.ext_getElem?
  intro j
  rw [List.getElem?_drop, List.getElem?_drop]
  exact splice_behind _ _ _ (by rw [be4_length, bodyB_length h1 h2]; omega) _ (by rw [be4_length]; omega)
theorem sealB_from (h1 : ns.length ≤ 6) (h2 : tail.length ≤ 480) (k : Nat) (hk : 4 ≤ k) : (sealB kind ns tail).drop k = (bodyB kind ns tail).drop k := by
  obtain ⟨j, rfl⟩ : ∃ j, k = 4 + j := ⟨k - 4, by omega⟩
  rw [← List.drop_drop, sealB_drop h1 h2, List.drop_drop]
theorem sealB_kind (h1 : ns.length ≤ 6) (h2 : tail.length ≤ 480) : (sealB kind ns tail)[4]? = some kind := by
  have h3 : (splice ((List.replicate 512 (0 : UInt8)).set 4 kind) 5 (numsB ns)).length = 512 := by rw [length_splice _ _ _ (by rw [numsB_length, set4_length]; omega), set4_length]
  have e : (sealB kind ns tail)[4]? = (bodyB kind ns tail)[4]? := splice_behind _ _ _ (by rw [be4_length, bodyB_length h1 h2]; omega) _ (by rw [be4_length]; omega)
  rw [e]
  unfold bodyB
  rw [splice_before _ _ _ (by rw [h3]; omega) _ (by omega), splice_before _ _ _ (by rw [set4_length]; omega) _ (by omega)]
  rfl
/-- What is written is read. -/
theorem unsE_seal (h1 : ns.length ≤ 6) (h2 : tail.length ≤ 480) (k : Nat) : unsE k (sealB kind ns tail) = if kind.toNat = k then 0 else 3 := by
  unfold unsE
  rw [sealB_take h1 h2, sealB_drop h1 h2, if_pos rfl, List.getD_eq_getElem?_getD, sealB_kind h1 h2]
  rfl
theorem numAt_seal (h1 : ns.length ≤ 6) (h2 : tail.length ≤ 480) (k : Nat) (n : Int) (hk : ns[k]? = some n) (hn : 0 ≤ n ∧ n < 18446744073709551616) (h3 : tail = [] ∨ k < 3) : numAt (sealB kind ns tail) k = n := by
  have hkl := (List.getElem?_eq_some_iff.1 hk).1
  have hl := numsB_length ns
  have h5 : (splice ((List.replicate 512 (0 : UInt8)).set 4 kind) 5 (numsB ns)).length = 512 := by rw [length_splice _ _ _ (by rw [numsB_length, set4_length]; omega), set4_length]
  unfold numAt
  rw [sealB_from h1 h2 _ (by omega)]
  have e : ((bodyB kind ns tail).drop (5 + 8 * k)).take 8 = ((splice ((List.replicate 512 (0 : UInt8)).set 4 kind) 5 (numsB ns)).drop (5 + 8 * k)).take 8 := by
    unfold bodyB
    rcases h3 with rfl | h3
    · rw [splice_nil]
    · exact splice_get_slice _ _ _ _ _ (by rw [h5]; omega) (by omega)
  rw [e]
  have e2 : ((splice ((List.replicate 512 (0 : UInt8)).set 4 kind) 5 (numsB ns)).drop (5 + 8 * k)).take 8 = ((numsB ns).drop (8 * k)).take 8 := by
    apply List.ext_getElem?
    intro j
    by_cases hj : j < 8
    · rw [List.getElem?_take_of_lt hj, List.getElem?_take_of_lt hj, List.getElem?_drop, List.getElem?_drop, Nat.add_assoc, splice_in _ _ _ (by rw [set4_length]; omega) _ (by omega)]
    · rw [List.getElem?_eq_none (by rw [List.length_take]; omega), List.getElem?_eq_none (by rw [List.length_take]; omega)]
  rw [e2, numsB_at ns k n hk, num_be64 n hn.1 hn.2]
theorem tail_seal (h1 : ns.length ≤ 6) (h2 : tail.length ≤ 480) : ((sealB kind ns tail).drop 32).take tail.length = tail := by
  have h5 : (splice ((List.replicate 512 (0 : UInt8)).set 4 kind) 5 (numsB ns)).length = 512 := by rw [length_splice _ _ _ (by rw [numsB_length, set4_length]; omega), set4_length]
  rw [sealB_from h1 h2 _ (by omega)]
  exact splice_slice _ _ _ (by rw [h5]; omega)
end
/-- A sector of noughts is none. -/
theorem unsE_zero (k : Nat) (hk : k ≠ 0) : unsE k (List.replicate 512 0) ≠ 0 := by
  unfold unsE
  split
  · rw [show (List.replicate 512 (0 : UInt8)).getD 4 0 = 0 from rfl, if_neg (by simpa using (Ne.symm hk))]
    decide
  · decide
end Go.Proofs.YtnkcneccolbbdaaGreatDoor
namespace Go.Proofs.YtnkcneccolbbdaaGreatDoor
open Go.RowKit

set_option maxHeartbeats 400000 in
theorem uint_any (u : Int) (w : World) (h0 : 0 ≤ u) (h1 : u < 18446744073709551616) :
    Calls Tryz.prog 70 #[.int .u64 u] w (Ret w (Bytes (be64 u))) := by
  have hmk : ∀ w, (Instr.makeSlice 32 (.int .i64 8) (.int .i64 8)).run Tryz.prog w = .ok (.slice (some ⟨w.heap.size, 0, none⟩) 8 8) (w.alloc (.cells #[.int .u8 0, .int .u8 0, .int .u8 0, .int .u8 0, .int .u8 0, .int .u8 0, .int .u8 0, .int .u8 0] 5)) := fun _ => by kernel_rfl
  go_enter Tryz.func70, Tryz.ntmps70
  go_wp2
  go_rounds 9
  go_ret
  exact Ret.mk (Ext.alloc _ _) (Bytes.new _ _ _ _ (by rw [be64_cells u h0 h1]) rfl (Nat.le_refl _))

/-- The eight bytes of a signed number. -/
def ord64 (n : Int) : List UInt8 := be64 (n + 9223372036854775808)
theorem wrap_half (n : Int) (h0 : -9223372036854775808 ≤ n) (h1 : n < 9223372036854775808) : IntKind.u64.wrap (IntKind.u64.wrap n + 9223372036854775808) = n + 9223372036854775808 := by
  simp only [IntKind.wrap_u64]; omega

/-- What reading a number gives: the value, the place behind it, the error's number. -/
def rdNum (l : List UInt8) (at_ : Int) : Int × Int × Int :=
  if at_ < 0 ∨ (l.length : Int) < at_ then (0, 0, 1) else if (l.length : Int) < at_ + 8 then (0, 0, 3) else (num ((l.drop at_.toNat).take 8), at_ + 8, 0)
def Three (k : IntKind) (x : Int × Int × Int) (w : World) (e : Ending) (w' : World) : Prop := e = .returned (.tuple #[.int k x.1, .int .i64 x.2.1, .int .i64 x.2.2]) ∧ w = w'

set_option maxHeartbeats 400000 in
theorem readUint_any (A : Option Addr) (c : Nat) (l : List UInt8) (at_ : Int) (w : World) (hr : Rd w A l) (hl : l.length ≤ 140737488355328) (ha : at_ ≤ 9223372036854775807) :
    Calls Tryz.prog 95 #[.slice A l.length c, .int .i64 at_] w (Three .u64 (rdNum l at_) w) := by
  by_cases h1 : at_ < 0 ∨ (l.length : Int) < at_
  · have e : rdNum l at_ = (0, 0, 1) := by unfold rdNum; rw [if_pos h1]
    rw [e]
    rcases h1 with h1 | h1
    · go_enter Tryz.func95, Tryz.ntmps95
      go_wp2
      go_ret3
      exact ⟨rfl, rfl⟩
    · have h0 : 0 ≤ at_ := by omega
      go_enter Tryz.func95, Tryz.ntmps95
      go_wp2
      go_ret3
      exact ⟨rfl, rfl⟩
  · obtain ⟨k, rfl⟩ := Int.eq_ofNat_of_zero_le (show 0 ≤ at_ by omega)
    have hk : k ≤ l.length := by omega
    by_cases h2 : (l.length : Int) < (k : Int) + 8
    · have e : rdNum l (k : Int) = (0, 0, 3) := by unfold rdNum; rw [if_neg h1, if_pos h2]
      rw [e]
      clear h1
      have h3 : (l.length : Int) - (k : Int) < 8 := by omega
      go_enter Tryz.func95, Tryz.ntmps95
      go_wp2
      go_ret3
      exact ⟨rfl, rfl⟩
    · have e : rdNum l (k : Int) = (num ((l.drop k).take 8), (k : Int) + 8, 0) := by unfold rdNum; rw [if_neg h1, if_neg h2, Int.toNat_natCast]
      rw [e]
      clear h1
      have h3 : 8 ≤ (l.length : Int) - (k : Int) := by omega
      go_enter Tryz.func95, Tryz.ntmps95
      go_wp2
      go_loop [7, 8, 22] (fun u _ c => ∃ j : Nat, j ≤ 8 ∧ c = .int .i64 j ∧ u = .int .u64 (num ((l.drop k).take j))) (fun _ _ c => 8 - (intOf c).toNat)
      case atStart => exact ⟨0, Nat.zero_le _, rfl, rfl⟩
      case round =>
        obtain ⟨j, hj, rfl, rfl⟩ := hrel
        by_cases hlt : j < 8
        · obtain ⟨b, off, x, rfl, hx, hc⟩ := hr.at (k := k + j) (by omega)
          have hb := (num_bound ((l.drop k).take j)).1
          go_wp2
          refine ⟨⟨j + 1, by omega, by go_num, ?_⟩, by simp [intOf]; omega⟩
          have hb2 := num_take_lt (l.drop k) j (by omega)
          have hx2 := x.toNat_lt
          rw [or_byte _ _ hb hb2 (by omega) (by omega), num_step l k j x hx]
        · obtain rfl : j = 8 := by omega
          go_wp2
          go_ret3
          exact ⟨rfl, rfl⟩

set_option maxHeartbeats 400000 in
theorem rreadUint_any (A : Option Addr) (c : Nat) (l : List UInt8) (at_ : Int) (w : World) (hr : Rd w A l) (hl : l.length ≤ 140737488355328) (ha : at_ ≤ 9223372036854775807) :
    Calls Tryz.prog 28 #[.slice A l.length c, .int .i64 at_] w (Three .u64 (rdNum l at_) w) := by
  by_cases h1 : at_ < 0 ∨ (l.length : Int) < at_
  · have e : rdNum l at_ = (0, 0, 1) := by unfold rdNum; rw [if_pos h1]
    rw [e]
    rcases h1 with h1 | h1
    · go_enter Tryz.func28, Tryz.ntmps28
      go_wp2
      go_ret3
      exact ⟨rfl, rfl⟩
    · have h0 : 0 ≤ at_ := by omega
      go_enter Tryz.func28, Tryz.ntmps28
      go_wp2
      go_ret3
      exact ⟨rfl, rfl⟩
  · obtain ⟨k, rfl⟩ := Int.eq_ofNat_of_zero_le (show 0 ≤ at_ by omega)
    have hk : k ≤ l.length := by omega
    by_cases h2 : (l.length : Int) < (k : Int) + 8
    · have e : rdNum l (k : Int) = (0, 0, 3) := by unfold rdNum; rw [if_neg h1, if_pos h2]
      rw [e]
      clear h1
      have h3 : (l.length : Int) - (k : Int) < 8 := by omega
      go_enter Tryz.func28, Tryz.ntmps28
      go_wp2
      go_ret3
      exact ⟨rfl, rfl⟩
    · have e : rdNum l (k : Int) = (num ((l.drop k).take 8), (k : Int) + 8, 0) := by unfold rdNum; rw [if_neg h1, if_neg h2, Int.toNat_natCast]
      rw [e]
      clear h1
      have h3 : 8 ≤ (l.length : Int) - (k : Int) := by omega
      go_enter Tryz.func28, Tryz.ntmps28
      go_wp2
      go_loop [7, 8] (fun u c => ∃ j : Nat, j ≤ 8 ∧ c = .int .i64 j ∧ u = .int .u64 (num ((l.drop k).take j))) (fun _ c => 8 - (intOf c).toNat)
      case atStart => exact ⟨0, Nat.zero_le _, rfl, rfl⟩
      case round =>
        obtain ⟨j, hj, rfl, rfl⟩ := hrel
        by_cases hlt : j < 8
        · obtain ⟨b, off, x, rfl, hx, hc⟩ := hr.at (k := k + j) (by omega)
          have hb := (num_bound ((l.drop k).take j)).1
          have hb2 := num_take_lt (l.drop k) j (by omega)
          have hx2 := x.toNat_lt
          go_wp2
          refine ⟨⟨j + 1, by omega, by go_num, ?_⟩, by simp [intOf]; omega⟩
          rw [num_step l k j x hx]
        · obtain rfl : j = 8 := by omega
          go_wp2
          go_ret3
          exact ⟨rfl, rfl⟩

end Go.Proofs.YtnkcneccolbbdaaGreatDoor
namespace Go.Proofs.YtnkcneccolbbdaaGreatDoor
open Go.RowKit

set_option maxHeartbeats 400000 in
theorem sumOf_any (A : Option Addr) (c : Nat) (l : List UInt8) (w : World) (hr : Rd w A l) (hl : l.length = 512) (hc : 512 ≤ c) (ht : Tab w) :
    Calls Tryz.prog 93 #[.slice A 512 c] w (Ret w (Bytes (be4 (crc (l.drop 4))))) := by
  obtain ⟨b, off, u, rfl, -, -⟩ := hr.at (k := 0) (by omega)
  have hd := hr.drop 4
  rw [add_flat] at hd
  obtain ⟨m, HM⟩ : ∃ m, Hid (l.drop 4 = m) := ⟨_, hide rfl⟩
  rw [HM.out] at hd ⊢
  have hml : m.length = 508 := by rw [← HM.out, List.length_drop]; omega
  have KS := sum_any (some ⟨b, off + 4, none⟩) (c - 4) m w hd (by omega) ht
  rw [hml] at KS
  have HKS := hide KS
  have hcr : crc m < 4294967296 := by unfold crc; omega
  obtain ⟨z, HZ⟩ : ∃ z : Nat, Hid (crc m = z) := ⟨_, hide rfl⟩
  rw [HZ.out] at HKS hcr ⊢
  have KU := hide (fun W => uint_any (z : Int) W (by omega) (by omega))
  obtain ⟨q, HQ⟩ : ∃ q, Hid (be64 (z : Int) = q) := ⟨_, hide rfl⟩
  have HB4 : Hid (be4 (z : Int) = q.drop 4) := hide (by unfold be4; rw [HQ.out])
  have hql : q.length = 8 := by rw [← HQ.out]; rfl
  rw [HQ.out] at KU
  rw [HB4.out]
  have hcc : ¬ c = 4 := by omega
  have hc4 : 4 ≤ c := by omega
  clear hr hd KS hml hl HM HZ ht
  go_enter Tryz.func93, Tryz.ntmps93
  go_wp2_with (first
    | (go_at_call 112; (with_reducible refine HKS.out.mono ?_); rintro e w1 ⟨v, rfl, hx1, rfl⟩)
    | (go_at_call 70; (with_reducible refine (KU.out w1).mono ?_); rintro e w2 ⟨v, rfl, hx2, A2, c2, rfl, hc2, hr2⟩; rw [hql] at hc2; obtain ⟨b2, off2, u2, rfl, -, -⟩ := hr2.at (k := 0) (by omega); have hd2 := hr2.drop 4; rw [add_flat] at hd2; have hcc2 : ¬ c2 = 4 := (by omega); rw [hql]; have HX := hide (hx1.trans hx2); have HD := hide hd2; clear hr2 hx2 hd2 hx1))
  go_ret
  refine Ret.mk HX.out ⟨some ⟨b2, off2 + 4, none⟩, c2 - 4, by rw [List.length_drop, hql]; rfl, by rw [List.length_drop, hql]; omega, HD.out⟩
end Go.Proofs.YtnkcneccolbbdaaGreatDoor
