/-
  A region that draws its order, whose operations on memory lie in one forced chain: whatever the order, it comes to one frame and one world.
  Read's contract, and what it reads.
  The walk of PassTexts.
-/
import Derived.Test.YtdllppaichlnaaaDoorPkPsAl0
import Derived.Test.YtdllppaichlnaaaDoorPkPsAl1
import Derived.Test.YtdllppaichlnaaaDoorPkPsAl8
set_option linter.unusedVariables false
set_option linter.unusedSimpArgs false

namespace Go.Proofs.YtdllppaichlnaaaDoor
open Go.RowKit

/-- Operation k waits for operation i. -/
def waits (ops : Array Oper) (k i : Nat) : Bool := match ops[k]? with
  | some o => o.after.toList.any fun e => e.on == i && Region.binds .any e
  | none => false
theorem waits_edge {ops : Array Oper} {k i : Nat} (h : waits ops k i = true) : ∃ o, ops[k]? = some o ∧ ∃ e ∈ o.after, Region.binds .any e = true ∧ e.on = i := by
  unfold waits at h
  split at h
  · rename_i o ho
    obtain ⟨e, he, hb⟩ := List.any_eq_true.1 h
    simp only [Bool.and_eq_true, beq_iff_eq] at hb
    exact ⟨o, ho, e, by simpa using he, hb.2, hb.1⟩
  · cases h
/-- The chain: each operation waits for the one ahead of it. -/
def chainOk (ops : Array Oper) (ch : List Nat) : Bool := (List.range ch.length).all fun t => decide (ch.getD t 0 < ops.size) && (t == 0 || waits ops (ch.getD t 0) (ch.getD (t - 1) 0))
theorem chainOk_at {ops : Array Oper} {ch : List Nat} (h : chainOk ops ch = true) {t k : Nat} (hk : ch[t]? = some k) : k < ops.size ∧ (0 < t → ∃ i, ch[t - 1]? = some i ∧ waits ops k i = true) := by
  have hlt := (List.getElem?_eq_some_iff.1 hk).1
  have h1 := List.all_eq_true.1 h t (List.mem_range.2 hlt)
  simp only [Bool.and_eq_true, decide_eq_true_eq, Bool.or_eq_true, beq_iff_eq, List.getD_eq_getElem?_getD, hk, Option.getD_some] at h1
  refine ⟨h1.1, fun h0 => ?_⟩
  have hlt' : t - 1 < ch.length := by omega
  refine ⟨ch[t - 1], List.getElem?_eq_getElem hlt', ?_⟩
  rcases h1.2 with h2 | h2
  · omega
  · rw [List.getElem?_eq_getElem hlt'] at h2
    exact h2
/-- Ahead of which place of the chain an operation must come. -/
def bd (ops : Array Oper) (ch : List Nat) (i : Nat) : Nat := ch.findIdx fun k => waits ops k i

section
variable {P : Program} {ops : Array Oper} {Q : Exit → Act → World → Prop} {V : Nat → Value} {W : Nat → World} {ch : List Nat} {a0 : Act}

structure CInv (ops : Array Oper) (V : Nat → Value) (W : Nat → World) (ch : List Nat) (a0 : Act) (listed : Array Bool) (a : Act) (w : World) : Prop where
  size : listed.size = ops.size
  defers : a.defers = a0.defers
  tmps : a.tmps.size = a0.tmps.size
  closed : ∀ (i : Nat) (o : Oper), ops[i]? = some o → listed[i]? = some true → ∀ e ∈ o.after, Region.binds .any e = true → listed[e.on]? = some true
  vals : ∀ (i : Nat) (o : Oper) (d : Nat), ops[i]? = some o → listed[i]? = some true → o.dst = some d → a.tmps[d]? = some (V i)
  same : ∀ t, (∀ (i : Nat) (o : Oper), ops[i]? = some o → o.dst = some t → listed[i]? = some false) → a.tmps[t]? = a0.tmps[t]?
  place : ∃ j, j ≤ ch.length ∧ w = W j ∧ ∀ (t k : Nat), ch[t]? = some k → (listed[k]? = some true ↔ t < j)

/-- What one operation owes. -/
def CPays (P : Program) (ops : Array Oper) (V : Nat → Value) (W : Nat → World) (ch : List Nat) (a0 : Act) (i : Nat) (o : Oper) : Prop :=
  ∀ (a : Act), (∀ t, keepsB ops i t = true → a.tmps[t]? = a0.tmps[t]?) →
    (∀ j, (o.after.toList.any fun e => e.on == j && Region.binds .any e) = true → ∀ (o' : Oper), ops[j]? = some o' → ∀ (d : Nat), o'.dst = some d → a.tmps[d]? = some (V j)) →
    if ch.contains i then ∀ j, ch[j]? = some i → Region.wanted o (yielded ops a.tmps) = true ∧ gives P o a (W j) fun v w' => v = V i ∧ w' = W (j + 1)
    else ∀ j, j ≤ bd ops ch i → (Region.wanted o (yielded ops a.tmps) = true ∧ gives P o a (W j) fun v w' => v = V i ∧ w' = W j) ∨ (Region.wanted o (yielded ops a.tmps) = false ∧ V i = undef)

theorem wpAny_chain (hok : regOk ops a0.tmps.size = true) (hcok : chainOk ops ch = true) (hstep : ∀ (i : Nat) (o : Oper), ops[i]? = some o → CPays P ops V W ch a0 i o)
    (hend : ∀ (a : Act), a.defers = a0.defers → a.tmps.size = a0.tmps.size → (∀ (i : Nat) (o : Oper) (d : Nat), ops[i]? = some o → o.dst = some d → a.tmps[d]? = some (V i)) →
      (∀ t, (∀ (i : Nat) (o : Oper), ops[i]? = some o → o.dst ≠ some t) → a.tmps[t]? = a0.tmps[t]?) → Q .normal a (W ch.length)) :
    ∀ (fuel : Nat) (listed : Array Bool) (a : Act) (w : World), CInv ops V W ch a0 listed a w → listed.toList.count true + fuel = ops.size → wpAny P .any ops Q fuel listed a w := by
  have getb : ∀ (l : Array Bool) (i : Nat) (b : Bool), l.getD i b = (l[i]?).getD b := fun l i b => by simp
  have allTrue : ∀ (l : Array Bool), l.toList.count true = l.size → ∀ i, i < l.size → l[i]? = some true := fun l h i hi => by
    have : ∀ x ∈ l.toList, true = x := by
      rw [← List.count_eq_length]; simpa using h
    rw [Array.getElem?_eq_getElem hi]
    congr 1
    exact (this _ (by simp)).symm
  have hlt : ∀ {i : Nat} {o : Oper}, ops[i]? = some o → i < ops.size := fun {i o} ho => by
    rcases Nat.lt_or_ge i ops.size with hlt | hge
    · exact hlt
    · rw [Array.getElem?_eq_none hge] at ho; cases ho
  have fin : ∀ (listed : Array Bool) (a : Act) (w : World), CInv ops V W ch a0 listed a w → (∀ i, i < ops.size → listed[i]? = some true) → Q .normal a w := by
    intro listed a w I h
    obtain ⟨j, hj, hw, hch⟩ := I.place
    have hjm : j = ch.length := by
      rcases Nat.lt_or_ge j ch.length with h1 | h1
      · have hk := List.getElem?_eq_getElem h1
        have := (hch j _ hk).1 (h _ (chainOk_at hcok hk).1)
        omega
      · omega
    subst hw hjm
    exact hend a I.defers I.tmps (fun i o d ho hd => I.vals i o d ho (h i (hlt ho)) hd) (fun t ht => I.same t fun i o ho hd => absurd hd (ht i o ho))
  have step : ∀ (listed : Array Bool) (a : Act) (w : World) (i : Nat) (K : Act → World → Prop), CInv ops V W ch a0 listed a w → i ∈ Region.ready .any ops listed →
      (∀ a' w', CInv ops V W ch a0 (listed.setIfInBounds i true) a' w' → K a' w') → wpOp P ops Q i K a w := by
    intro listed a w i K I hr hK
    obtain ⟨hun, o, ho, hall⟩ := mem_ready.1 hr
    have hi : i < listed.size := by rw [I.size]; exact hlt ho
    have hfalse : listed[i]? = some false := by
      rw [getb, Array.getElem?_eq_getElem hi] at hun
      rw [Array.getElem?_eq_getElem hi]; simpa using hun
    have hpre : ∀ e ∈ o.after, Region.binds .any e = true → listed[e.on]? = some true := fun e he hb => by
      have h1 := hall e he hb
      rw [getb] at h1
      cases h2 : listed[e.on]? with
      | none => rw [h2] at h1; simp at h1
      | some b => rw [h2] at h1; simp at h1; rw [h1]
    have hset : ∀ (k : Nat), (listed.setIfInBounds i true)[k]? = if i = k then some true else listed[k]? := fun k => by
      rw [Array.getElem?_setIfInBounds]
      by_cases h : i = k
      · subst h; simp [hi]
      · simp [h]
    obtain ⟨j, hj, hw, hch⟩ := I.place
    subst hw
    have next : ∀ v j', v = V i → (j' ≤ ch.length ∧ ∀ (t k : Nat), ch[t]? = some k → ((listed.setIfInBounds i true)[k]? = some true ↔ t < j')) → CInv ops V W ch a0 (listed.setIfInBounds i true) (a.put o.dst v) (W j') := by
      intro v j' hv hpl
      refine ⟨by simpa using I.size, ?_, ?_, ?_, ?_, ?_, j', hpl.1, rfl, hpl.2⟩
      · cases hd : o.dst <;> simpa [Act.put] using I.defers
      · cases hd : o.dst <;> simpa [Act.put] using I.tmps
      · intro k ok hk hl e he hb
        rw [hset] at hl ⊢
        by_cases hki : i = k
        · subst hki
          rw [ho] at hk; cases hk
          split
          · rfl
          · exact hpre e he hb
        · rw [if_neg hki] at hl
          split
          · rfl
          · exact I.closed k ok hk hl e he hb
      · intro k ok d hk hl hd
        rw [hset] at hl
        by_cases hki : i = k
        · subst hki
          rw [ho] at hk; cases hk
          rw [hd, hv]
          have := regOk_lt hok ho hd
          simp only [Act.put, Array.getElem?_setIfInBounds]
          simp [I.tmps, this]
        · rw [if_neg hki] at hl
          have hu := I.vals k ok d hk hl hd
          cases hod : o.dst with
          | none => simpa [Act.put] using hu
          | some d' =>
            have hne : d' ≠ d := fun e => hki (regOk_one hok ho hk (by rw [hod, e]) hd)
            simp only [Act.put, Array.getElem?_setIfInBounds_ne hne]
            exact hu
      · intro t ht
        have hit : o.dst ≠ some t := fun hd => by
          have := ht i o ho hd
          rw [hset, if_pos rfl] at this; cases this
        have := I.same t fun k ok hk hd => by
          have h2 := ht k ok hk hd
          rw [hset] at h2
          split at h2
          · cases h2
          · exact h2
        rw [← this]
        cases hod : o.dst with
        | none => rfl
        | some d' =>
          have hne : d' ≠ t := fun e => hit (by rw [hod, e])
          simp only [Act.put, Array.getElem?_setIfInBounds_ne hne]
    have hs := hstep i o ho a ?_ ?_
    · unfold wpOp
      simp only [ho]
      by_cases hc : ch.contains i = true
      · rw [if_pos hc] at hs
        have hpl : ∀ t, ch[t]? = some i → t = j := fun t ht => by
          have h1 : ¬ t < j := fun h => by
            have := (hch t i ht).2 h
            rw [hfalse] at this; cases this
          rcases Nat.eq_zero_or_pos t with h0 | h0
          · omega
          · obtain ⟨i', hi', hwt⟩ := (chainOk_at hcok ht).2 h0
            obtain ⟨o', ho', e, he, hb, hon⟩ := waits_edge hwt
            rw [ho] at ho'; cases ho'
            have h2 := hpre e he hb
            rw [hon] at h2
            have := (hch (t - 1) i' hi').1 h2
            omega
        obtain ⟨t, ht⟩ := List.getElem?_of_mem (List.contains_iff_mem.1 hc)
        obtain rfl := hpl t ht
        obtain ⟨hwn, hg⟩ := hs t ht
        rw [if_pos hwn]
        refine .inl (wp_of_gives hg fun v w' ⟨hv, hw'⟩ => ?_)
        subst hw'
        refine hK _ _ (next v (t + 1) hv ⟨(List.getElem?_eq_some_iff.1 ht).1, fun t' k hk => ?_⟩)
        rw [hset]
        by_cases hik : i = k
        · subst hik
          have := hpl t' hk
          rw [if_pos rfl]
          exact ⟨fun _ => by omega, fun _ => rfl⟩
        · rw [if_neg hik, hch t' k hk]
          refine ⟨fun h => by omega, fun h => ?_⟩
          rcases Nat.lt_or_ge t' t with h' | h'
          · exact h'
          · have : t' = t := by omega
            subst this
            rw [ht] at hk
            injection hk with hk
            exact absurd hk hik
      · rw [if_neg hc] at hs
        have hjb : j ≤ bd ops ch i := by
          rcases Nat.lt_or_ge (bd ops ch i) j with h | h
          · exfalso
            have hlen : bd ops ch i < ch.length := by omega
            have hwt : waits ops ch[bd ops ch i] i = true := List.findIdx_getElem (w := hlen)
            obtain ⟨o', ho', e, he, hb, hon⟩ := waits_edge hwt
            have hl := (hch _ _ (List.getElem?_eq_getElem hlen)).2 h
            have := I.closed _ o' ho' hl e he hb
            rw [hon, hfalse] at this; cases this
          · exact h
        have hpl : ∀ (t k : Nat), ch[t]? = some k → ((listed.setIfInBounds i true)[k]? = some true ↔ t < j) := fun t k hk => by
          have hik : i ≠ k := fun e => hc (List.contains_iff_mem.2 (by rw [e]; exact List.mem_of_getElem? hk))
          rw [hset, if_neg hik]
          exact hch t k hk
        rcases hs j hjb with ⟨hwn, hg⟩ | ⟨hwn, hv⟩
        · rw [if_pos hwn]
          refine .inl (wp_of_gives hg fun v w' ⟨hv, hw'⟩ => ?_)
          subst hw'
          exact hK _ _ (next v j hv ⟨hj, hpl⟩)
        · rw [if_neg (by rw [hwn]; exact Bool.false_ne_true)]
          exact hK _ _ (next _ j hv.symm ⟨hj, hpl⟩)
    · intro t ht
      refine I.same t fun k ok hk hd => ?_
      simp only [keepsB, List.all_eq_true] at ht
      have hm : ok ∈ ops.toList := by simpa using Array.mem_of_getElem? hk
      have := ht ok hm
      simp only [hd, bne_self_eq_false, Bool.false_or, List.any_eq_true, Array.mem_toList_iff] at this
      obtain ⟨e, he, hb⟩ := this
      simp only [Bool.and_eq_true, beq_iff_eq] at hb
      have hkl : k < listed.size := by rw [I.size]; exact hlt hk
      cases hv : listed[k]? with
      | none => rw [Array.getElem?_eq_getElem hkl] at hv; cases hv
      | some b =>
        cases b with
        | false => rfl
        | true =>
          have := I.closed k ok hk hv e he hb.2
          rw [hb.1, hfalse] at this; cases this
    · intro j' hj' o' ho' d hd
      simp only [List.any_eq_true, Array.mem_toList_iff] at hj'
      obtain ⟨e, he, hb⟩ := hj'
      simp only [Bool.and_eq_true, beq_iff_eq] at hb
      obtain ⟨rfl, hb⟩ := hb
      exact I.vals e.on o' d ho' (hpre e he hb) hd
  have full : ∀ (listed : Array Bool) (a : Act) (w : World), CInv ops V W ch a0 listed a w → Region.ready .any ops listed = [] → ∀ i, i < ops.size → listed[i]? = some true := by
    intro listed a w I hr i
    induction i using Nat.strongRecOn with
    | ind i ih =>
      intro hi
      cases hv : listed[i]? with
      | none => rw [Array.getElem?_eq_none_iff, I.size] at hv; omega
      | some b =>
        cases b with
        | true => rfl
        | false =>
          exfalso
          have hmem : i ∈ Region.ready .any ops listed := by
            refine mem_ready.2 ⟨by rw [getb, hv]; rfl, ops[i], Array.getElem?_eq_getElem hi, fun e he hb => ?_⟩
            have hlt := regOk_back hok (Array.getElem?_eq_getElem hi) he hb
            rw [getb, ih e.on hlt (by omega)]; rfl
          rw [hr] at hmem; cases hmem
  intro fuel
  induction fuel with
  | zero =>
    intro listed a w I hc
    have hall := allTrue listed (by rw [I.size]; omega)
    rw [I.size] at hall
    refine ⟨?_, fin listed a w I hall⟩
    cases hr : Region.ready .any ops listed with
    | nil => rfl
    | cons i rest =>
      exfalso
      have hm : i ∈ Region.ready .any ops listed := by rw [hr]; simp
      obtain ⟨hun, o, ho, _⟩ := mem_ready.1 hm
      rw [getb, hall i (hlt ho)] at hun; cases hun
  | succ fuel ih =>
    intro listed a w I hc
    refine ⟨fun hr => fin listed a w I (full listed a w I hr), fun i hi => step listed a w i _ I hi fun a' w' I' => ih _ a' w' I' ?_⟩
    obtain ⟨hun, o, ho, _⟩ := mem_ready.1 hi
    have hlt := hlt ho
    rw [count_set (by rw [getb, Array.getElem?_eq_getElem (by rw [I.size]; exact hlt)] at hun; rw [Array.getElem?_eq_getElem (by rw [I.size]; exact hlt)]; simpa using hun)]
    omega
end

/-- What the operations leave in their slots. -/
def setsOf (ops : List Oper) (V : Nat → Value) : List (Nat × Value) := ops.zipIdx.filterMap fun x => x.1.dst.map fun d => (d, V x.2)
/-- THE REGION. -/
theorem wp_region_chain {P : Program} {ops : List Oper} {Q : Exit → Act → World → Prop} {a0 : Act} {w0 : World} {id : Nat} (V : List Value) (Ws : List World) (ch : List Nat) (hm : P.follows .mixedOrders = true)
    (hok : regOk ops.toArray a0.tmps.size = true) (hcok : chainOk ops.toArray ch = true) (hW0 : Ws.getD 0 w0 = w0.drew)
    (hstep : PaysFrom (CPays P ops.toArray (fun i => V.getD i undef) (fun j => Ws.getD j w0) ch a0) 0 ops)
    (hend : Q .normal ⟨(setsOf ops fun i => V.getD i undef).foldl (fun t p => t.setIfInBounds p.1 p.2) a0.tmps, a0.defers⟩ (Ws.getD ch.length w0)) :
    (Code.region id ops.toArray true).wp P Q a0 w0 := by
  refine wp_region_any hm (wpAny_chain (V := fun i => V.getD i undef) (W := fun j => Ws.getD j w0) (ch := ch) (a0 := a0) hok hcok ?_ ?_ _ _ a0 _ ?_ ?_)
  · intro i o ho
    have h := paysFrom_all ops 0 hstep i o (by simpa using ho)
    rwa [Nat.zero_add] at h
  · intro a hd hs hv hsame
    have hmem : ∀ p, p ∈ setsOf ops (fun i => V.getD i undef) ↔ ∃ (i : Nat) (o : Oper) (d : Nat), ops[i]? = some o ∧ o.dst = some d ∧ p = (d, V.getD i undef) := fun p => by
      unfold setsOf
      rw [List.mem_filterMap]
      constructor
      · rintro ⟨⟨o, i⟩, hm, hp⟩
        rw [List.mem_zipIdx_iff_getElem?] at hm
        cases hod : o.dst with
        | none => rw [hod] at hp; cases hp
        | some d => rw [hod] at hp; injection hp with hp; exact ⟨i, o, d, hm, hod, hp.symm⟩
      · rintro ⟨i, o, d, ho, hod, rfl⟩
        exact ⟨(o, i), by rw [List.mem_zipIdx_iff_getElem?]; exact ho, by simp [hod]⟩
    have ht := tmps_sets (setsOf ops fun i => V.getD i undef) a0.tmps hs (fun p hp => by
      obtain ⟨i, o, d, ho, hod, rfl⟩ := (hmem p).1 hp
      exact hv i o d (by simpa using ho) hod) (fun t ht => hsame t fun i o ho hod => ht _ ((hmem _).2 ⟨i, o, t, by simpa using ho, hod, rfl⟩) rfl)
    obtain ⟨tm, df⟩ := a
    simp only at ht hd
    subst ht hd
    exact hend
  · refine ⟨by simp, rfl, rfl, ?_, ?_, fun _ _ => rfl, 0, Nat.zero_le _, hW0.symm, ?_⟩
    · intro i o ho hl
      rw [Array.getElem?_replicate] at hl
      split at hl <;> simp at hl
    · intro i o d ho hl
      rw [Array.getElem?_replicate] at hl
      split at hl <;> simp at hl
    · intro t k _
      rw [Array.getElem?_replicate]
      split <;> simp
  · have : (Array.replicate ops.toArray.size false).toList.count true = 0 := by simp [List.count_replicate]
    omega
end Go.Proofs.YtdllppaichlnaaaDoor
namespace Go.Proofs.YtdllppaichlnaaaDoor
open Go.RowKit

theorem gives_copyP {P : Program} {o : Oper} {a : Act} {w : World} {R : Value → World → Prop} {s x : Operand} {t t2 : TypeId} {u y v : Value} {w' : World} (h : o.op = .call { callee := .builtin .copy, args := #[s, x], argTypes := #[t, t2] }) (hs : a.eval s = u) (hx : a.eval x = y)
    (hrun : (Builtin.copy_ #[t, t2] o.type #[u, y]).run P w = .ok v w') (hR : R v w') : gives P o a w R := by
  refine gives_of_run (w' := w') (v := v) ?_ hR
  unfold execOp
  simp only [h, resolve, invoke, builtin, Sem.run_bind, Sem.run_pure, Result.andThen_ok, List.map_toArray, List.map_cons, List.map_nil, hs, hx, hrun]
theorem gives_cutP {P : Program} {o : Oper} {a : Act} {w : World} {R : Value → World → Prop} {x y : Operand} {t : TypeId} {u v z : Value} (h : o.op = .slice t x (some y) none none) (hx : a.eval x = u) (hy : a.eval y = z) (hrun : (Instr.sliceAt t u (some z) none none).run P w = .ok v w) (hR : R v w) : gives P o a w R := by
  refine gives_of_run (w' := w) (v := v) ?_ hR
  unfold execOp
  simp only [h, Option.map_some, Option.map_none, hx, hy, Sem.run_bind, hrun, Result.andThen_ok, Sem.run_pure]
theorem copy_sec {w : World} {g : Nat} {a r : Int} (hr : Rw w g 26 (sec a r zer32)) (A : Option Addr) (d : List UInt8) (c : Nat) (hd : d.length = 32) (hA : Rd w A d) (ty : TypeId) :
    ∃ v w', (Builtin.copy_ #[37, 37] ty #[.slice (some ⟨g, 2, none⟩) 32 32, .slice A 32 c]).run Tryd.prog w = .ok v w' ∧ Rw w' g 26 (sec a r d) ∧ Laid1 g w w' := by
  have hne : d ≠ [] := by intro e; rw [e] at hd; cases hd
  obtain ⟨b, off, hA', -⟩ := hA hne
  subst hA'
  have hsrc : ∀ j v, (bs d)[j]? = some v → w.cell? ((⟨b, off, none⟩ : Addr).add j) = some v := fun j v hv => hA.cells rfl hne j v hv
  obtain ⟨i0, hi, hz0, hz1, hz2⟩ := info_parts info_u8
  have hrun := run_copy_row (P := Tryd.prog) w 37 37 ty 5 g 2 32 32 ⟨b, off, none⟩ 32 c (sec a r zer32).toArray 26 (bs d) Tryd.underlying37 (by rw [hi]; exact congrArg some hz1) hr (by rw [bs_length, hd]; rfl) hsrc (by rw [bs_length, hd, List.size_toArray, sec_len _ _ _ (show zer32.length = 32 from rfl)]; decide) (bs_one _)
  have e : (sec a r zer32).toArray.toList.take 2 ++ bs d ++ (sec a r zer32).toArray.toList.drop (2 + (bs d).length) = sec a r d := by
    rw [bs_length, hd, List.drop_of_length_le (by rw [sec_len _ _ _ (show zer32.length = 32 from rfl)]; decide), List.append_nil]
    rfl
  rw [e] at hrun
  exact ⟨_, _, hrun, setRow_heap w g _ (sec a r d).toArray 26 _ hr, Laid1.of_row w g _⟩
theorem ps_be64 : ∀ b : List UInt8, b.length = 8 → be64 (onum b) = b
  | [b0, b1, b2, b3, b4, b5, b6, b7], _ => by
    have h0 := b0.toNat_lt
    have h1 := b1.toNat_lt
    have h2 := b2.toNat_lt
    have h3 := b3.toNat_lt
    have h4 := b4.toNat_lt
    have h5 := b5.toNat_lt
    have h6 := b6.toNat_lt
    have h7 := b7.toNat_lt
    unfold be64 onum
    simp only [List.foldl_cons, List.foldl_nil]
    have bb : ∀ (u : Int) (b : UInt8), u = (b.toNat : Int) → b8 u = b := fun u b h => by rw [h]; exact b8_byte b
    rw [bb _ b0 (by omega), bb _ b1 (by omega), bb _ b2 (by omega), bb _ b3 (by omega), bb _ b4 (by omega), bb _ b5 (by omega), bb _ b6 (by omega), bb _ b7 (by omega)]
/-- What a text is read as. -/
def rdS (l : Option (List UInt8)) : Option (Int × Int × List UInt8) := match l with
  | none => none
  | some l => if l.length = 41 ∧ okR ((l.getD 8 0).toNat : Int) = true then some (onum (l.take 8), ((l.getD 8 0).toNat : Int), l.drop 9) else none
def secO (o : Option (Int × Int × List UInt8)) : List Value := match o with
  | none => sec 0 0 zer32
  | some x => sec x.1 x.2.1 x.2.2
def errO (o : Option (Int × Int × List UInt8)) : Int := match o with
  | none => 3
  | some _ => 0
theorem rdS_ok {l : Option (List UInt8)} {x : Int × Int × List UInt8} (h : rdS l = some x) : (0 ≤ x.1 ∧ x.1 < 18446744073709551616) ∧ okR x.2.1 = true ∧ x.2.2.length = 32 ∧ l = some (secB x.1 x.2.1 x.2.2) := by
  cases l with
  | none => cases h
  | some l =>
    unfold rdS at h
    simp only [] at h
    split at h
    · rename_i hl
      obtain ⟨hl, hk⟩ := hl
      injection h with h
      subst h
      have ht8 : (l.take 8).length = 8 := by rw [List.length_take, hl]; rfl
      have hb := num_bound (l.take 8)
      rw [ht8] at hb
      refine ⟨⟨hb.1, by simpa using hb.2⟩, hk, by show (l.drop 9).length = 32; rw [List.length_drop, hl], ?_⟩
      show some l = some (be64 (onum (l.take 8)) ++ [b8 ((l.getD 8 0).toNat : Int)] ++ l.drop 9)
      rw [ps_be64 _ ht8, b8_byte]
      congr 1
      have h8 : 8 < l.length := by omega
      have e : l.drop 8 = l.getD 8 0 :: l.drop 9 := by
        rw [List.drop_eq_getElem_cons h8, List.getD_eq_getElem?_getD, List.getElem?_eq_getElem h8]
        rfl
      conv => lhs; rw [← List.take_append_drop 8 l, e]
      simp
    · cases h
theorem rdS_back {a r : Int} {d : List UInt8} (ha : 0 ≤ a ∧ a < 18446744073709551616) (hk : okR r = true) (hd : d.length = 32) : rdS (some (secB a r d)) = some (a, r, d) := by
  have hr0 : 1 ≤ r ∧ r ≤ 64 := of_decide_eq_true hk
  have h8 : (secB a r d).getD 8 0 = b8 r := by
    unfold secB
    rw [List.getD_eq_getElem?_getD, List.append_assoc, List.getElem?_append_right (by show 8 ≤ 8; omega)]
    rfl
  have hb : ((b8 r).toNat : Int) = r := b8_toNat (by omega) (by omega)
  unfold rdS
  simp only []
  rw [if_pos ⟨secB_len a r d hd, by rw [h8, hb]; exact hk⟩, h8, hb]
  have e1 : (secB a r d).take 8 = be64 a := by unfold secB; rw [List.append_assoc]; exact List.take_left' rfl
  have e2 : (secB a r d).drop 9 = d := by unfold secB; exact List.drop_left' rfl
  rw [e1, e2, num_be64 a ha.1 ha.2]
set_option maxRecDepth 20000 in
set_option maxHeartbeats 1600000 in
theorem read_none (s : ByteArray) (w : World) (hs : s.size ≤ 1000000) (hk : readB s.data.toList = none) :
    Calls Tryd.prog 15 #[.string s] w (Ret w (Is (.tuple #[.agg (sec 0 0 zer32).toArray, .int .i64 3]))) := by
  have KQ := hide fun W => (show Calls Tryd.prog 26 #[.string s] W (RdBP W none) from (by
    have h3 := readBase_any s W hs
    rw [hk] at h3
    exact h3))
  go_enter Tryd.func15, Tryd.ntmps15
  go_wp2_with (first
    | (go_at_call 26; (with_reducible refine (KQ.out _).mono ?_); rintro e w2 ⟨hx2, rfl⟩; have X2 := hide hx2; clear hx2)
    | (refine wpList_build_sec0 rfl rfl ?_)
    | ((with_reducible show wpList _ _ _ (⟨none, .store _ (.tmp 2) _, _, _, _, _⟩ :: _) _ _);
       refine wpList_store_sec rfl (.tmp 2) (.tmp 27) rfl w.heap.size rfl 0 0 zer32 rfl 0 0 zer32 (Rw.ext (heap_alloc_new w _) X2.out) rfl rfl ?_;
       intro w7 hr7 hl7))
  exact ret_sec rfl rfl w.heap.size rfl _ _ _ rfl hr7 _ rfl (Ret.mk (((Ext.alloc w _).trans X2.out).laid hl7 (Nat.le_refl _)) rfl)
set_option maxRecDepth 20000 in
set_option maxHeartbeats 1600000 in
theorem read_len (s : ByteArray) (w : World) (hs : s.size ≤ 1000000) (l : List UInt8) (hk : readB s.data.toList = some l) (hl : ¬ l.length = 41) :
    Calls Tryd.prog 15 #[.string s] w (Ret w (Is (.tuple #[.agg (sec 0 0 zer32).toArray, .int .i64 3]))) := by
  have KQ := hide fun W => (show Calls Tryd.prog 26 #[.string s] W (RdBP W (some l)) from (by
    have h3 := readBase_any s W hs
    rw [hk] at h3
    exact h3))
  obtain ⟨n, HNL⟩ : ∃ n, Hid (l.length = n) := ⟨_, hide rfl⟩
  have hne : ¬ (n : Int) = 41 := by have := HNL.out; omega
  clear hl hk hs
  go_enter Tryd.func15, Tryd.ntmps15
  go_wp2_with (first
    | (go_at_call 26; (with_reducible refine (KQ.out _).mono ?_); rintro e w2 ⟨hx2, v2, rfl, A2, c2, hv2, hc2, hr2⟩; have X2 := hide hx2; rw [HNL.out] at hv2 hc2; subst hv2; have R2 := hide hr2; clear hx2 hr2)
    | (refine wpList_build_sec0 rfl rfl ?_)
    | ((with_reducible show wpList _ _ _ (⟨none, .store _ (.tmp 2) _, _, _, _, _⟩ :: _) _ _);
       refine wpList_store_sec rfl (.tmp 2) (.tmp 27) rfl w.heap.size rfl 0 0 zer32 rfl 0 0 zer32 (Rw.ext (heap_alloc_new w _) X2.out) rfl rfl ?_;
       intro w7 hr7 hl7))
  exact ret_sec rfl rfl w.heap.size rfl _ _ _ rfl hr7 _ rfl (Ret.mk (((Ext.alloc w _).trans X2.out).laid hl7 (Nat.le_refl _)) rfl)
set_option maxRecDepth 20000 in
set_option maxHeartbeats 1600000 in
theorem read_cnt (s : ByteArray) (w : World) (hs : s.size ≤ 1000000) (l : List UInt8) (hk : readB s.data.toList = some l) (hl : l.length = 41) (hc : okR ((l.getD 8 0).toNat : Int) = false) :
    Calls Tryd.prog 15 #[.string s] w (Ret w (Is (.tuple #[.agg (sec 0 0 zer32).toArray, .int .i64 3]))) := by
  have KQ := hide fun W => (show Calls Tryd.prog 26 #[.string s] W (RdBP W (some l)) from (by
    have h3 := readBase_any s W hs
    rw [hk] at h3
    exact h3))
  obtain ⟨n, HNL⟩ : ∃ n, Hid (l.length = n) := ⟨_, hide rfl⟩
  obtain rfl : n = 41 := by have := HNL.out; omega
  have KN := hide fun W => (show Calls Tryd.prog 24 #[.int .i64 ((l.getD 8 0).toNat : Int)] W (fun e w' => e = .returned (.bool false) ∧ W = w') from (by
    have h3 := counts_any ((l.getD 8 0).toNat : Int) W
    rw [hc] at h3
    exact h3))
  obtain ⟨x, HX⟩ : ∃ x, Hid (l.getD 8 0 = x) := ⟨_, hide rfl⟩
  rw [HX.out] at KN
  have HX8 : Hid (l[8]? = some x) := hide (by rw [← HX.out, List.getD_eq_getElem?_getD, List.getElem?_eq_getElem (by omega)]; rfl)
  have HL8 : Hid (8 < l.length) := hide (by omega)
  have hxl := x.toNat_lt
  clear hl hk hs hc
  go_enter Tryd.func15, Tryd.ntmps15
  go_wp2_with (first
    | (go_at_call 26; (with_reducible refine (KQ.out _).mono ?_); rintro e w2 ⟨hx2, v2, rfl, A2, c2, hv2, hc2, hr2⟩; have X2 := hide hx2; rw [HNL.out] at hv2 hc2; subst hv2; have R2 := hide hr2; obtain ⟨b, off, x', hA2, hx8, hc8⟩ := R2.out.at (k := 8) HL8.out; subst hA2; obtain rfl : x = x' := Option.some.inj (HX8.out.symm.trans hx8); clear hx8; clear hx2 hr2)
    | (go_at_call 24; (with_reducible refine (KN.out _).mono ?_); rintro e w3 ⟨rfl, rfl⟩)
    | (refine wpList_build_sec0 rfl rfl ?_)
    | ((with_reducible show wpList _ _ _ (⟨none, .store _ (.tmp 2) _, _, _, _, _⟩ :: _) _ _);
       refine wpList_store_sec rfl (.tmp 2) (.tmp 27) rfl w.heap.size rfl 0 0 zer32 rfl 0 0 zer32 (Rw.ext (heap_alloc_new w _) X2.out) rfl rfl ?_;
       intro w7 hr7 hl7))
  exact ret_sec rfl rfl w.heap.size rfl _ _ _ rfl hr7 _ rfl (Ret.mk (((Ext.alloc w _).trans X2.out).laid hl7 (Nat.le_refl _)) rfl)
set_option maxRecDepth 20000 in
set_option maxHeartbeats 3200000 in
theorem read_good (s : ByteArray) (w : World) (hs : s.size ≤ 1000000) (l : List UInt8) (hk : readB s.data.toList = some l) (hl : l.length = 41) (hc : okR ((l.getD 8 0).toNat : Int) = true) :
    Calls Tryd.prog 15 #[.string s] w (Ret w (Is (.tuple #[.agg (sec (onum (l.take 8)) ((l.getD 8 0).toNat : Int) (l.drop 9)).toArray, .int .i64 0]))) := by
  have KQ := hide fun W => (show Calls Tryd.prog 26 #[.string s] W (RdBP W (some l)) from (by
    have h3 := readBase_any s W hs
    rw [hk] at h3
    exact h3))
  obtain ⟨n, HNL⟩ : ∃ n, Hid (l.length = n) := ⟨_, hide rfl⟩
  obtain rfl : n = 41 := by have := HNL.out; omega
  have KN := hide fun W => (show Calls Tryd.prog 24 #[.int .i64 ((l.getD 8 0).toNat : Int)] W (fun e w' => e = .returned (.bool true) ∧ W = w') from (by
    have h3 := counts_any ((l.getD 8 0).toNat : Int) W
    rw [hc] at h3
    exact h3))
  obtain ⟨m, HM⟩ : ∃ m, Hid (onum (l.take 8) = m) := ⟨_, hide rfl⟩
  have KI := hide fun W (A : Option Addr) (c : Nat) (hr : Rd W A l) => (show Calls Tryd.prog 27 #[.slice A 41 c, .int .i64 0] W (fun e w' => e = .returned (.tuple #[.int .u64 m, .int .i64 8, .int .i64 0]) ∧ W = w') from (by
    have h3 := readUint_any A c l 0 W hr (by omega) (by omega)
    have e : rdNum l 0 = (m, 8, 0) := by
      unfold rdNum
      rw [if_neg (by omega), if_neg (by omega), ← HM.out]
      rfl
    rw [e, hl] at h3
    exact h3))
  obtain ⟨x, HX⟩ : ∃ x, Hid (l.getD 8 0 = x) := ⟨_, hide rfl⟩
  obtain ⟨d, HD⟩ : ∃ d, Hid (l.drop 9 = d) := ⟨_, hide rfl⟩
  have HDL : Hid (d.length = 32) := hide (by rw [← HD.out, List.length_drop, hl])
  have HZ : Hid (zer32.length = 32) := hide rfl
  rw [HX.out] at KN
  rw [HM.out, HX.out, HD.out]
  have HX8 : Hid (l[8]? = some x) := hide (by rw [← HX.out, List.getD_eq_getElem?_getD, List.getElem?_eq_getElem (by omega)]; rfl)
  have HL8 : Hid (8 < l.length) := hide (by omega)
  have HLL := hide hl
  have hxl := x.toNat_lt
  clear hl hk hs hc
  go_enter Tryd.func15, Tryd.ntmps15
  go_upto_region 4 with (first
    | (go_at_call 26; (with_reducible refine (KQ.out _).mono ?_); rintro e w2 ⟨hx2, v2, rfl, A2, c2, hv2, hc2, hr2⟩; have X2 := hide hx2; rw [HNL.out] at hv2 hc2; subst hv2; have R2 := hide hr2; obtain ⟨b, off, x', hA2, hx8, hc8⟩ := R2.out.at (k := 8) HL8.out; subst hA2; obtain rfl : x = x' := Option.some.inj (HX8.out.symm.trans hx8); clear hx8; clear hx2 hr2)
    | (go_at_call 24; (with_reducible refine (KN.out _).mono ?_); rintro e w3 ⟨rfl, rfl⟩))
  go_upto_region 5 with (first
    | (refine wpList_build_sec1 rfl (.tmp 31) rfl (x.toNat : Int) rfl ?_)
    | ((with_reducible show wpList _ _ _ (⟨none, .store _ (.tmp 6) _, _, _, _, _⟩ :: _) _ _);
       refine wpList_store_sec rfl (.tmp 6) (.tmp 32) rfl w2.heap.size rfl 0 (x.toNat : Int) zer32 rfl 0 0 zer32 (heap_alloc_new w2 _) HZ.out HZ.out ?_;
       intro w5 hr5 hl5;
       have X5 := hide ((X2.out.trans (Ext.alloc _ _)).laid hl5 X2.out.size);
       have R5 := hide hr5;
       have E5 := hide (show Ext w2 w5 from (Ext.alloc w2 _).laid hl5 (Nat.le_refl _));
       have Q5 := hide (R2.out.ext E5.out);
       clear hr5 hl5))
  clear hc8
  have c0 := R5.out.cell (i := 0) rfl
  have f0 := R5.out.frozen 0
  go_upto_region 6 with (go_at_call 27; (with_reducible refine (KI.out _ _ _ Q5.out).mono ?_); rintro e w6 ⟨rfl, rfl⟩)
  clear c0 f0
  obtain ⟨g6, hg6⟩ : ∃ g, g = w2.heap.size := ⟨_, rfl⟩
  have R6 := hide (show Rw (w5.setCell ⟨g6, 0, none⟩ (.int .u64 m)) g6 26 (sec m (x.toNat : Int) zer32) from (by rw [hg6]; exact R5.out.set 0 (.int .u64 m)))
  have X6 := hide (show Ext (w.alloc _) (w5.setCell ⟨g6, 0, none⟩ (.int .u64 m)) from (by rw [hg6]; exact Below.set X5.out X2.out.size _))
  have Q6 := hide (show Rd (w5.setCell ⟨g6, 0, none⟩ (.int .u64 m)) _ l from R2.out.ext (by rw [hg6]; exact Below.set E5.out (Nat.le_refl _) _))
  have hg := X2.out.size
  rw [← hg6] at hg ⊢
  clear hg6
  obtain ⟨w6, hw6⟩ : ∃ W, W = w5.setCell ⟨g6, 0, none⟩ (.int .u64 m) := ⟨_, rfl⟩
  rw [← hw6] at R6 X6 Q6 ⊢
  clear hw6
  rename_i hK
  have hc9 : ¬ c2 = 9 := by omega
  have hcut : ∀ W, (Instr.sliceAt 37 (.slice (some ⟨b, off, none⟩) 41 c2) (some (.int .i64 9)) none none).run Tryd.prog W = .ok (.slice (some (Addr.add ⟨b, off, none⟩ 9)) 32 (c2 - 9)) W := fun W => by
    obtain ⟨i0, hi, hz0, hz1, hz2⟩ := info_parts info_u8
    simp [Instr.sliceAt, Instr.slice, run_underlying Tryd.underlying37, Instr.sliceBounds, Instr.sliceBound, asIntOf, sizeOf, typeInfo, hi, hz1, hc9]
  obtain ⟨A3, hA3⟩ : ∃ A3, A3 = Addr.add ⟨b, off, none⟩ 9 := ⟨_, rfl⟩
  have Q9 : Rd w6.drew (some A3) d := by rw [hA3, ← HD.out]; exact (Q6.out.drop 9).ext (Ext.drew w6)
  rw [← hA3] at hcut
  clear hA3
  obtain ⟨vq, w7, hrun, hr7, hl7⟩ := copy_sec (R6.out.ext (Ext.drew w6)) (some A3) d (c2 - 9) HDL.out Q9 3
  have X7 := hide (Ext.laid (X6.out.trans (Ext.drew w6)) hl7 hg)
  have R7 := hide hr7
  refine wp_region_chain [.pointer (some ⟨g6, 2, none⟩), .slice (some ⟨g6, 2, none⟩) 32 32, .slice (some ⟨b, off, none⟩) 41 c2, .slice (some A3) 32 (c2 - 9), vq] [w6.drew, w7] [4] (by kernel_rfl) (by kernel_rfl) (by kernel_rfl) rfl ?_ ?_
  · refine ⟨?_, ?_, ?_, ?_, ?_, trivial⟩
    · intro az hk H
      rw [if_neg (by decide)]
      intro j _
      exact .inl ⟨wanted_none rfl, gives_field rfl (ev (show az.tmps[6]? = some (.pointer (some ⟨g6, 0, none⟩)) from hk 6 rfl)) (run_fd _ _) ⟨rfl, rfl⟩⟩
    · intro az hk H
      rw [if_neg (by decide)]
      intro j _
      exact .inl ⟨wanted_none rfl, gives_sl rfl (ev (H 0 rfl _ rfl 40 rfl)) ⟨rfl, rfl⟩⟩
    · intro az hk H
      rw [if_neg (by decide)]
      intro j _
      refine .inl ⟨wanted_none rfl, gives_move rfl ?_⟩
      rw [ev (show az.tmps[4]? = some (.slice (some ⟨b, off, none⟩) 41 c2) from hk 4 rfl)]
      exact ⟨rfl, rfl⟩
    · intro az hk H
      rw [if_neg (by decide)]
      intro j _
      exact .inl ⟨wanted_none rfl, gives_cutP rfl (ev (H 2 rfl _ rfl 42 rfl)) rfl (hcut _) ⟨rfl, rfl⟩⟩
    · intro az hk H
      rw [if_pos (by decide)]
      intro j hj
      obtain rfl : j = 0 := by
        rcases j with _ | j
        · rfl
        · exact absurd hj (by simp)
      exact ⟨wanted_none rfl, gives_copyP rfl (ev (H 1 rfl _ rfl 41 rfl)) (ev (H 3 rfl _ rfl 43 rfl)) hrun ⟨rfl, rfl⟩⟩
  · simp only [setsOf, List.zipIdx_cons, List.zipIdx_nil, List.filterMap_cons, List.filterMap_nil, Option.map_some, Option.map_none, List.foldl_cons, List.foldl_nil, List.setIfInBounds_toArray, List.set_cons_succ, List.set_cons_zero, List.getD_cons_zero, List.getD_cons_succ, Nat.zero_add, List.length_cons, List.length_nil]
    refine hK _ _ ?_
    clear hK hr7 hl7 hrun hcut Q9 hc9
    go_wp2_with (first
      | (refine wpList_load_sec rfl (.tmp 6) rfl _ rfl m (x.toNat : Int) d R7.out HDL.out ?_)
      | ((with_reducible show wpList _ _ _ (⟨none, .store _ (.tmp 2) _, _, _, _, _⟩ :: _) _ _);
         refine wpList_store_sec rfl (.tmp 2) (.tmp 45) rfl w.heap.size rfl m (x.toNat : Int) d rfl 0 0 zer32 (Rw.ext (heap_alloc_new w _) X7.out) HDL.out HZ.out ?_;
         intro w8 hr8 hl8))
    exact ret_sec rfl rfl w.heap.size rfl _ _ _ HDL.out hr8 _ rfl (Ret.mk (((Ext.alloc w _).trans X7.out).laid hl8 (Nat.le_refl _)) rfl)
theorem read_any (s : ByteArray) (w : World) (hs : s.size ≤ 1000000) :
    Calls Tryd.prog 15 #[.string s] w (Ret w (Is (.tuple #[.agg (secO (rdS (readB s.data.toList))).toArray, .int .i64 (errO (rdS (readB s.data.toList)))]))) := by
  cases hk : readB s.data.toList with
  | none => exact read_none s w hs hk
  | some l =>
    unfold rdS
    simp only []
    by_cases hl : l.length = 41
    · cases hc : okR ((l.getD 8 0).toNat : Int) with
      | true =>
        rw [if_pos ⟨hl, rfl⟩]
        exact read_good s w hs l hk hl hc
      | false =>
        rw [if_neg (fun h => by cases h.2)]
        exact read_cnt s w hs l hk hl hc
    · rw [if_neg (fun h => hl h.1)]
      exact read_len s w hs l hk hl
end Go.Proofs.YtdllppaichlnaaaDoor
namespace Go.Proofs.YtdllppaichlnaaaDoor
open Go.RowKit

set_option maxRecDepth 20000 in
set_option maxHeartbeats 1600000 in
theorem texts_big (a r : Int) (d : List UInt8) (t : ByteArray) (w : World) (hbig : 2000 < t.size) (hp : t.size ≤ 140737488351232) (ht : Tab w) :
    Calls Tryd.prog 5 #[.agg (sec a r d).toArray, .string t] w (Ret w (Is (.bool true))) := by
  have KA := hide fun W (h : Ext w W) => awake_any W (ht.ext h)
  have hbi : (2000 : Int) < (t.size : Int) := by omega
  clear ht
  go_enter Tryd.func5, Tryd.ntmps5
  go_wp2_with (first
    | (go_at_call 8; (with_reducible refine (KA.out _ ((Ext.alloc _ _).trans X1.out)).mono ?_); rintro e w2 ⟨v2, rfl, hw2, rfl⟩; have X2 := hide (((Ext.alloc w _).trans X1.out).trans hw2))
    | (go_at_call 8; (with_reducible refine (KA.out _ (Ext.alloc w _)).mono ?_); rintro e w1 ⟨v1, rfl, hx1, rfl⟩; have X1 := hide hx1))
  go_ret
  exact Ret.mk X2.out rfl
set_option maxRecDepth 20000 in
set_option maxHeartbeats 6400000 in
theorem texts_none (a r : Int) (d : List UInt8) (t : ByteArray) (w : World) (hsm : t.size ≤ 2000) (ha : 0 ≤ a ∧ a < 18446744073709551616) (hd : d.length = 32) (ht : Tab w) (hq : readB t.data.toList = none) :
    Calls Tryd.prog 5 #[.agg (sec a r d).toArray, .string t] w (Ret w (Is (.bool true))) := by
  have KA := hide fun W (h : Ext w W) => awake_any W (ht.ext h)
  have hbi : ¬ (2000 : Int) < (t.size : Int) := by omega
  have HD := hide hd
  have e1 : rdS (readB t.data.toList) = none := by rw [hq]; rfl
  have KR := hide fun W => (show Calls Tryd.prog 15 #[.string t] W (Ret W (Is (.tuple #[.agg (sec 0 0 zer32).toArray, .int .i64 3]))) from (by
    have h3 := read_any t W (by omega)
    rw [e1] at h3
    exact h3))
  have KO := hide fun W => (show Calls Tryd.prog 17 #[.string t] W (RdBP W none) from (by
    have h3 := rreadBase_any t W (by omega)
    rw [hq] at h3
    exact h3))
  obtain ⟨W0, hX0, hR0, hgg⟩ : ∃ W0, Ext w W0 ∧ Rw W0 w.heap.size 26 (sec a r d) ∧ w.alloc (.cells (sec a r d).toArray 26) = W0 := ⟨_, Ext.alloc _ _, Rw.new w 26 _, rfl⟩
  have X0 := hide hX0
  have R0 := hide hR0
  have HTX : Hid (∃ tx : ByteArray, tx.size ≤ 1000 ∧ (okR r = true → (⟨(baseB (secB a r d)).toArray⟩ : ByteArray) = tx)) := hide ⟨⟨(baseB (secB a r d)).toArray⟩, by
    show (baseB (secB a r d)).toArray.size ≤ 1000
    rw [List.size_toArray, baseB_len, secB_len a r d hd]
    decide, fun _ => rfl⟩
  clear hX0 hR0 ht hq e1
  by_cases h1 : r < 1 ∨ 64 < r
  · have hk : okR r = false := decide_eq_false (by omega)
    have KW := hide fun W => write_no a r d W hk
    rcases Classical.em (r < 1) with h2 | h2
    · clear h1 hk hd
      go_enter Tryd.func5, Tryd.ntmps5
      go_upto_region 1 with fail
      clear hgg
      go_upto_region 4 with (first
        | (go_at_call 8; (with_reducible refine (KA.out _ X0.out).mono ?_); rintro e w1 ⟨v1, rfl, hx1, rfl⟩; have X1 := hide (X0.out.trans hx1); have R1 := hide (R0.out.ext hx1); clear hx1)
        | ((with_reducible show wpList _ _ _ (⟨some 22, .load _ _, _, _, _, _⟩ :: _) _ _); refine wpList_load_sec rfl (.tmp 2) rfl _ rfl a r d R1.out HD.out ?_)
        | (go_at_call 14; (with_reducible refine (KW.out _).mono ?_); rintro e w2 ⟨v2, rfl, hx2, rfl⟩; have X10 := hide (X1.out.trans hx2); have R2 := hide (R1.out.ext hx2); have c1 := R2.out.cell (i := 1) rfl; clear hx2))
      go_upto_region 10 with fail
      clear c1 R2
      go_upto_region 12 with (first
        | (go_at_call 15; (with_reducible refine (KR.out _).mono ?_); rintro e w20 ⟨v20, rfl, hx20, rfl⟩; have X20 := hide (X10.out.trans hx20); clear hx20)
        | ((with_reducible show wpList _ _ _ (⟨none, .store _ (.tmp 9) _, _, _, _, _⟩ :: _) _ _);
           refine wpList_store_sec rfl (.tmp 9) (.tmp 65) rfl w20.heap.size rfl 0 0 zer32 rfl 0 0 zer32 (heap_alloc_new w20 _) rfl rfl ?_;
           intro w21 hr21 hl21;
           have X21 := hide ((X20.out.trans (Ext.alloc _ _)).laid hl21 X20.out.size);
           have S21 := hide hr21;
           clear hr21 hl21)
        | (go_at_call 17; (with_reducible refine (KO.out _).mono ?_); rintro e w22 ⟨hx22, rfl⟩; have X22 := hide (X21.out.trans hx22); have S22 := hide (S21.out.ext hx22); clear hx22))
      go_wp2_with (first
        | ((with_reducible show wpList _ _ _ (⟨some 94, .load _ _, _, _, _, _⟩ :: _) _ _); refine wpList_load_sec rfl (.tmp 9) rfl _ rfl 0 0 zer32 S22.out rfl ?_)
        | ((with_reducible show wpList _ _ _ (⟨some 95, .build _ _, _, _, _, _⟩ :: _) _ _); refine wpList_build_sec0 rfl rfl ?_)
        | ((with_reducible show wpList _ _ _ (⟨some 96, .binOp _ _ _ _ _, _, _, _, _⟩ :: _) _ _); refine wpList_eql_sec1 rfl (.tmp 94) (.tmp 95) rfl 0 0 zer32 rfl rfl rfl ?_))
      go_ret
      exact Ret.mk X22.out rfl
    · have h3 : 64 < r := by omega
      clear h1 hk hd
      go_enter Tryd.func5, Tryd.ntmps5
      go_upto_region 1 with fail
      clear hgg
      go_upto_region 4 with (first
        | (go_at_call 8; (with_reducible refine (KA.out _ X0.out).mono ?_); rintro e w1 ⟨v1, rfl, hx1, rfl⟩; have X1 := hide (X0.out.trans hx1); have R1 := hide (R0.out.ext hx1); clear hx1)
        | ((with_reducible show wpList _ _ _ (⟨some 22, .load _ _, _, _, _, _⟩ :: _) _ _); refine wpList_load_sec rfl (.tmp 2) rfl _ rfl a r d R1.out HD.out ?_)
        | (go_at_call 14; (with_reducible refine (KW.out _).mono ?_); rintro e w2 ⟨v2, rfl, hx2, rfl⟩; have X10 := hide (X1.out.trans hx2); have R2 := hide (R1.out.ext hx2); have c1 := R2.out.cell (i := 1) rfl; clear hx2))
      go_upto_region 10 with fail
      clear c1 R2
      go_upto_region 12 with (first
        | (go_at_call 15; (with_reducible refine (KR.out _).mono ?_); rintro e w20 ⟨v20, rfl, hx20, rfl⟩; have X20 := hide (X10.out.trans hx20); clear hx20)
        | ((with_reducible show wpList _ _ _ (⟨none, .store _ (.tmp 9) _, _, _, _, _⟩ :: _) _ _);
           refine wpList_store_sec rfl (.tmp 9) (.tmp 65) rfl w20.heap.size rfl 0 0 zer32 rfl 0 0 zer32 (heap_alloc_new w20 _) rfl rfl ?_;
           intro w21 hr21 hl21;
           have X21 := hide ((X20.out.trans (Ext.alloc _ _)).laid hl21 X20.out.size);
           have S21 := hide hr21;
           clear hr21 hl21)
        | (go_at_call 17; (with_reducible refine (KO.out _).mono ?_); rintro e w22 ⟨hx22, rfl⟩; have X22 := hide (X21.out.trans hx22); have S22 := hide (S21.out.ext hx22); clear hx22))
      go_wp2_with (first
        | ((with_reducible show wpList _ _ _ (⟨some 94, .load _ _, _, _, _, _⟩ :: _) _ _); refine wpList_load_sec rfl (.tmp 9) rfl _ rfl 0 0 zer32 S22.out rfl ?_)
        | ((with_reducible show wpList _ _ _ (⟨some 95, .build _ _, _, _, _, _⟩ :: _) _ _); refine wpList_build_sec0 rfl rfl ?_)
        | ((with_reducible show wpList _ _ _ (⟨some 96, .binOp _ _ _ _ _, _, _, _, _⟩ :: _) _ _); refine wpList_eql_sec1 rfl (.tmp 94) (.tmp 95) rfl 0 0 zer32 rfl rfl rfl ?_))
      go_ret
      exact Ret.mk X22.out rfl
  · have hk : okR r = true := decide_eq_true (by omega)
    have h2 : ¬ r < 1 := by omega
    have h3 : ¬ 64 < r := by omega
    obtain ⟨tx, htz, htx⟩ := HTX.out
    have htx := htx hk
    have KW := hide fun W => (show Calls Tryd.prog 14 #[.agg (sec a r d).toArray] W (Ret W (Is (.tuple #[.string tx, .int .i64 0]))) from (by
      have h3 := write_yes a r d W ha hd hk
      rw [htx] at h3
      exact h3))
    have KX := hide fun W => (show Calls Tryd.prog 16 #[.agg (sec a r d).toArray] W (Ret W (Is (.string tx))) from (by
      have h3 := text_any a r d W ha hd hk
      rw [htx] at h3
      exact h3))
    have KR2 := hide fun W => (show Calls Tryd.prog 15 #[.string tx] W (Ret W (Is (.tuple #[.agg (sec a r d).toArray, .int .i64 0]))) from (by
      have h3 := read_any tx W (by omega)
      have e : rdS (readB tx.data.toList) = some (a, r, d) := by
        rw [← htx]
        show rdS (readB (baseB (secB a r d))) = _
        rw [read_base]
        exact rdS_back ha hk hd
      rw [e] at h3
      exact h3))
    clear h1 hk hd htx htz
    go_enter Tryd.func5, Tryd.ntmps5
    go_upto_region 1 with fail
    clear hgg
    go_upto_region 7 with (first
      | (go_at_call 8; (with_reducible refine (KA.out _ X0.out).mono ?_); rintro e w1 ⟨v1, rfl, hx1, rfl⟩; have X1 := hide (X0.out.trans hx1); have R1 := hide (R0.out.ext hx1); clear hx1)
      | ((with_reducible show wpList _ _ _ (⟨some 22, .load _ _, _, _, _, _⟩ :: _) _ _); refine wpList_load_sec rfl (.tmp 2) rfl _ rfl a r d R1.out HD.out ?_)
      | (go_at_call 14; (with_reducible refine (KW.out _).mono ?_); rintro e w2 ⟨v2, rfl, hx2, rfl⟩; have X2 := hide (X1.out.trans hx2); have R2 := hide (R1.out.ext hx2); have c1 := R2.out.cell (i := 1) rfl; clear hx2))
    clear c1
    go_upto_region 10 with (first
      | (go_at_call 15; (with_reducible refine (KR2.out _).mono ?_); rintro e w3 ⟨v3, rfl, hx3, rfl⟩; have X3 := hide (X2.out.trans hx3); have R3 := hide (R2.out.ext hx3); clear hx3)
      | ((with_reducible show wpList _ _ _ (⟨none, .store _ (.tmp 7) _, _, _, _, _⟩ :: _) _ _);
         refine wpList_store_sec rfl (.tmp 7) (.tmp 43) rfl w3.heap.size rfl a r d rfl 0 0 zer32 (heap_alloc_new w3 _) HD.out rfl ?_;
         intro w4 hr4 hl4;
         have X4 := hide ((X3.out.trans (Ext.alloc _ _)).laid hl4 X3.out.size);
         have S4 := hide hr4;
         have R4 := hide ((R3.out.alloc _).other hl4 (Nat.ne_of_lt R3.out.lt));
         clear hr4 hl4)
      | ((with_reducible show wpList _ _ _ (⟨some 49, .load _ _, _, _, _, _⟩ :: _) _ _); refine wpList_load_sec rfl (.tmp 2) rfl _ rfl a r d R4.out HD.out ?_)
      | (go_at_call 16; (with_reducible refine (KX.out _).mono ?_); rintro e w5 ⟨v5, rfl, hx5, rfl⟩; have X10 := hide (X4.out.trans hx5); have S5 := hide (S4.out.ext hx5); have R5 := hide (R4.out.ext hx5); clear hx5)
      | ((with_reducible show wpList _ _ _ (⟨some 58, .load _ _, _, _, _, _⟩ :: _) _ _); refine wpList_load_sec rfl (.tmp 7) rfl _ rfl a r d S5.out HD.out ?_)
      | ((with_reducible show wpList _ _ _ (⟨some 59, .load _ _, _, _, _, _⟩ :: _) _ _); refine wpList_load_sec rfl (.tmp 2) rfl _ rfl a r d R5.out HD.out ?_)
      | ((with_reducible show wpList _ _ _ (⟨some 60, .binOp _ _ _ _ _, _, _, _, _⟩ :: _) _ _); refine wpList_neq_sec1 rfl (.tmp 58) (.tmp 59) rfl a r d rfl rfl HD.out ?_))
    go_upto_region 12 with (first
      | (go_at_call 15; (with_reducible refine (KR.out _).mono ?_); rintro e w20 ⟨v20, rfl, hx20, rfl⟩; have X20 := hide (X10.out.trans hx20); clear hx20)
      | ((with_reducible show wpList _ _ _ (⟨none, .store _ (.tmp 9) _, _, _, _, _⟩ :: _) _ _);
         refine wpList_store_sec rfl (.tmp 9) (.tmp 65) rfl w20.heap.size rfl 0 0 zer32 rfl 0 0 zer32 (heap_alloc_new w20 _) rfl rfl ?_;
         intro w21 hr21 hl21;
         have X21 := hide ((X20.out.trans (Ext.alloc _ _)).laid hl21 X20.out.size);
         have S21 := hide hr21;
         clear hr21 hl21)
      | (go_at_call 17; (with_reducible refine (KO.out _).mono ?_); rintro e w22 ⟨hx22, rfl⟩; have X22 := hide (X21.out.trans hx22); have S22 := hide (S21.out.ext hx22); clear hx22))
    go_wp2_with (first
      | ((with_reducible show wpList _ _ _ (⟨some 94, .load _ _, _, _, _, _⟩ :: _) _ _); refine wpList_load_sec rfl (.tmp 9) rfl _ rfl 0 0 zer32 S22.out rfl ?_)
      | ((with_reducible show wpList _ _ _ (⟨some 95, .build _ _, _, _, _, _⟩ :: _) _ _); refine wpList_build_sec0 rfl rfl ?_)
      | ((with_reducible show wpList _ _ _ (⟨some 96, .binOp _ _ _ _ _, _, _, _, _⟩ :: _) _ _); refine wpList_eql_sec1 rfl (.tmp 94) (.tmp 95) rfl 0 0 zer32 rfl rfl rfl ?_))
    go_ret
    exact Ret.mk X22.out rfl
set_option maxRecDepth 20000 in
set_option maxHeartbeats 6400000 in
theorem texts_len (a r : Int) (d : List UInt8) (t : ByteArray) (w : World) (hsm : t.size ≤ 2000) (ha : 0 ≤ a ∧ a < 18446744073709551616) (hd : d.length = 32) (ht : Tab w) (l : List UInt8) (hq : readB t.data.toList = some l) (hl : ¬ l.length = 41) :
    Calls Tryd.prog 5 #[.agg (sec a r d).toArray, .string t] w (Ret w (Is (.bool true))) := by
  have KA := hide fun W (h : Ext w W) => awake_any W (ht.ext h)
  have hbi : ¬ (2000 : Int) < (t.size : Int) := by omega
  have HD := hide hd
  have e1 : rdS (readB t.data.toList) = none := by rw [hq]; exact if_neg (fun h => hl h.1)
  have KR := hide fun W => (show Calls Tryd.prog 15 #[.string t] W (Ret W (Is (.tuple #[.agg (sec 0 0 zer32).toArray, .int .i64 3]))) from (by
    have h3 := read_any t W (by omega)
    rw [e1] at h3
    exact h3))
  have KO := hide fun W => (show Calls Tryd.prog 17 #[.string t] W (RdBP W (some l)) from (by
    have h3 := rreadBase_any t W (by omega)
    rw [hq] at h3
    exact h3))
  obtain ⟨n, HNL⟩ : ∃ n, Hid (l.length = n) := ⟨_, hide rfl⟩
  have hne : ¬ (n : Int) = 41 := by have := HNL.out; omega
  obtain ⟨W0, hX0, hR0, hgg⟩ : ∃ W0, Ext w W0 ∧ Rw W0 w.heap.size 26 (sec a r d) ∧ w.alloc (.cells (sec a r d).toArray 26) = W0 := ⟨_, Ext.alloc _ _, Rw.new w 26 _, rfl⟩
  have X0 := hide hX0
  have R0 := hide hR0
  have HTX : Hid (∃ tx : ByteArray, tx.size ≤ 1000 ∧ (okR r = true → (⟨(baseB (secB a r d)).toArray⟩ : ByteArray) = tx)) := hide ⟨⟨(baseB (secB a r d)).toArray⟩, by
    show (baseB (secB a r d)).toArray.size ≤ 1000
    rw [List.size_toArray, baseB_len, secB_len a r d hd]
    decide, fun _ => rfl⟩
  clear hX0 hR0 ht hq e1 hl
  by_cases h1 : r < 1 ∨ 64 < r
  · have hk : okR r = false := decide_eq_false (by omega)
    have KW := hide fun W => write_no a r d W hk
    rcases Classical.em (r < 1) with h2 | h2
    · clear h1 hk hd
      go_enter Tryd.func5, Tryd.ntmps5
      go_upto_region 1 with fail
      clear hgg
      go_upto_region 4 with (first
        | (go_at_call 8; (with_reducible refine (KA.out _ X0.out).mono ?_); rintro e w1 ⟨v1, rfl, hx1, rfl⟩; have X1 := hide (X0.out.trans hx1); have R1 := hide (R0.out.ext hx1); clear hx1)
        | ((with_reducible show wpList _ _ _ (⟨some 22, .load _ _, _, _, _, _⟩ :: _) _ _); refine wpList_load_sec rfl (.tmp 2) rfl _ rfl a r d R1.out HD.out ?_)
        | (go_at_call 14; (with_reducible refine (KW.out _).mono ?_); rintro e w2 ⟨v2, rfl, hx2, rfl⟩; have X10 := hide (X1.out.trans hx2); have R2 := hide (R1.out.ext hx2); have c1 := R2.out.cell (i := 1) rfl; clear hx2))
      go_upto_region 10 with fail
      clear c1 R2
      go_upto_region 12 with (first
        | (go_at_call 15; (with_reducible refine (KR.out _).mono ?_); rintro e w20 ⟨v20, rfl, hx20, rfl⟩; have X20 := hide (X10.out.trans hx20); clear hx20)
        | ((with_reducible show wpList _ _ _ (⟨none, .store _ (.tmp 9) _, _, _, _, _⟩ :: _) _ _);
           refine wpList_store_sec rfl (.tmp 9) (.tmp 65) rfl w20.heap.size rfl 0 0 zer32 rfl 0 0 zer32 (heap_alloc_new w20 _) rfl rfl ?_;
           intro w21 hr21 hl21;
           have X21 := hide ((X20.out.trans (Ext.alloc _ _)).laid hl21 X20.out.size);
           have S21 := hide hr21;
           clear hr21 hl21)
        | (go_at_call 17; (with_reducible refine (KO.out _).mono ?_); rintro e w22 ⟨hx22, v22, rfl, A2, c2, hv2, hc2, hr2⟩; have X22 := hide (X21.out.trans hx22); have S22 := hide (S21.out.ext hx22); rw [HNL.out] at hv2 hc2; subst hv2; clear hx22 hr2 hc2))
      go_wp2_with (first
        | ((with_reducible show wpList _ _ _ (⟨some 94, .load _ _, _, _, _, _⟩ :: _) _ _); refine wpList_load_sec rfl (.tmp 9) rfl _ rfl 0 0 zer32 S22.out rfl ?_)
        | ((with_reducible show wpList _ _ _ (⟨some 95, .build _ _, _, _, _, _⟩ :: _) _ _); refine wpList_build_sec0 rfl rfl ?_)
        | ((with_reducible show wpList _ _ _ (⟨some 96, .binOp _ _ _ _ _, _, _, _, _⟩ :: _) _ _); refine wpList_eql_sec1 rfl (.tmp 94) (.tmp 95) rfl 0 0 zer32 rfl rfl rfl ?_))
      go_ret
      exact Ret.mk X22.out rfl
    · have h3 : 64 < r := by omega
      clear h1 hk hd
      go_enter Tryd.func5, Tryd.ntmps5
      go_upto_region 1 with fail
      clear hgg
      go_upto_region 4 with (first
        | (go_at_call 8; (with_reducible refine (KA.out _ X0.out).mono ?_); rintro e w1 ⟨v1, rfl, hx1, rfl⟩; have X1 := hide (X0.out.trans hx1); have R1 := hide (R0.out.ext hx1); clear hx1)
        | ((with_reducible show wpList _ _ _ (⟨some 22, .load _ _, _, _, _, _⟩ :: _) _ _); refine wpList_load_sec rfl (.tmp 2) rfl _ rfl a r d R1.out HD.out ?_)
        | (go_at_call 14; (with_reducible refine (KW.out _).mono ?_); rintro e w2 ⟨v2, rfl, hx2, rfl⟩; have X10 := hide (X1.out.trans hx2); have R2 := hide (R1.out.ext hx2); have c1 := R2.out.cell (i := 1) rfl; clear hx2))
      go_upto_region 10 with fail
      clear c1 R2
      go_upto_region 12 with (first
        | (go_at_call 15; (with_reducible refine (KR.out _).mono ?_); rintro e w20 ⟨v20, rfl, hx20, rfl⟩; have X20 := hide (X10.out.trans hx20); clear hx20)
        | ((with_reducible show wpList _ _ _ (⟨none, .store _ (.tmp 9) _, _, _, _, _⟩ :: _) _ _);
           refine wpList_store_sec rfl (.tmp 9) (.tmp 65) rfl w20.heap.size rfl 0 0 zer32 rfl 0 0 zer32 (heap_alloc_new w20 _) rfl rfl ?_;
           intro w21 hr21 hl21;
           have X21 := hide ((X20.out.trans (Ext.alloc _ _)).laid hl21 X20.out.size);
           have S21 := hide hr21;
           clear hr21 hl21)
        | (go_at_call 17; (with_reducible refine (KO.out _).mono ?_); rintro e w22 ⟨hx22, v22, rfl, A2, c2, hv2, hc2, hr2⟩; have X22 := hide (X21.out.trans hx22); have S22 := hide (S21.out.ext hx22); rw [HNL.out] at hv2 hc2; subst hv2; clear hx22 hr2 hc2))
      go_wp2_with (first
        | ((with_reducible show wpList _ _ _ (⟨some 94, .load _ _, _, _, _, _⟩ :: _) _ _); refine wpList_load_sec rfl (.tmp 9) rfl _ rfl 0 0 zer32 S22.out rfl ?_)
        | ((with_reducible show wpList _ _ _ (⟨some 95, .build _ _, _, _, _, _⟩ :: _) _ _); refine wpList_build_sec0 rfl rfl ?_)
        | ((with_reducible show wpList _ _ _ (⟨some 96, .binOp _ _ _ _ _, _, _, _, _⟩ :: _) _ _); refine wpList_eql_sec1 rfl (.tmp 94) (.tmp 95) rfl 0 0 zer32 rfl rfl rfl ?_))
      go_ret
      exact Ret.mk X22.out rfl
  · have hk : okR r = true := decide_eq_true (by omega)
    have h2 : ¬ r < 1 := by omega
    have h3 : ¬ 64 < r := by omega
    obtain ⟨tx, htz, htx⟩ := HTX.out
    have htx := htx hk
    have KW := hide fun W => (show Calls Tryd.prog 14 #[.agg (sec a r d).toArray] W (Ret W (Is (.tuple #[.string tx, .int .i64 0]))) from (by
      have h3 := write_yes a r d W ha hd hk
      rw [htx] at h3
      exact h3))
    have KX := hide fun W => (show Calls Tryd.prog 16 #[.agg (sec a r d).toArray] W (Ret W (Is (.string tx))) from (by
      have h3 := text_any a r d W ha hd hk
      rw [htx] at h3
      exact h3))
    have KR2 := hide fun W => (show Calls Tryd.prog 15 #[.string tx] W (Ret W (Is (.tuple #[.agg (sec a r d).toArray, .int .i64 0]))) from (by
      have h3 := read_any tx W (by omega)
      have e : rdS (readB tx.data.toList) = some (a, r, d) := by
        rw [← htx]
        show rdS (readB (baseB (secB a r d))) = _
        rw [read_base]
        exact rdS_back ha hk hd
      rw [e] at h3
      exact h3))
    clear h1 hk hd htx htz
    go_enter Tryd.func5, Tryd.ntmps5
    go_upto_region 1 with fail
    clear hgg
    go_upto_region 7 with (first
      | (go_at_call 8; (with_reducible refine (KA.out _ X0.out).mono ?_); rintro e w1 ⟨v1, rfl, hx1, rfl⟩; have X1 := hide (X0.out.trans hx1); have R1 := hide (R0.out.ext hx1); clear hx1)
      | ((with_reducible show wpList _ _ _ (⟨some 22, .load _ _, _, _, _, _⟩ :: _) _ _); refine wpList_load_sec rfl (.tmp 2) rfl _ rfl a r d R1.out HD.out ?_)
      | (go_at_call 14; (with_reducible refine (KW.out _).mono ?_); rintro e w2 ⟨v2, rfl, hx2, rfl⟩; have X2 := hide (X1.out.trans hx2); have R2 := hide (R1.out.ext hx2); have c1 := R2.out.cell (i := 1) rfl; clear hx2))
    clear c1
    go_upto_region 10 with (first
      | (go_at_call 15; (with_reducible refine (KR2.out _).mono ?_); rintro e w3 ⟨v3, rfl, hx3, rfl⟩; have X3 := hide (X2.out.trans hx3); have R3 := hide (R2.out.ext hx3); clear hx3)
      | ((with_reducible show wpList _ _ _ (⟨none, .store _ (.tmp 7) _, _, _, _, _⟩ :: _) _ _);
         refine wpList_store_sec rfl (.tmp 7) (.tmp 43) rfl w3.heap.size rfl a r d rfl 0 0 zer32 (heap_alloc_new w3 _) HD.out rfl ?_;
         intro w4 hr4 hl4;
         have X4 := hide ((X3.out.trans (Ext.alloc _ _)).laid hl4 X3.out.size);
         have S4 := hide hr4;
         have R4 := hide ((R3.out.alloc _).other hl4 (Nat.ne_of_lt R3.out.lt));
         clear hr4 hl4)
      | ((with_reducible show wpList _ _ _ (⟨some 49, .load _ _, _, _, _, _⟩ :: _) _ _); refine wpList_load_sec rfl (.tmp 2) rfl _ rfl a r d R4.out HD.out ?_)
      | (go_at_call 16; (with_reducible refine (KX.out _).mono ?_); rintro e w5 ⟨v5, rfl, hx5, rfl⟩; have X10 := hide (X4.out.trans hx5); have S5 := hide (S4.out.ext hx5); have R5 := hide (R4.out.ext hx5); clear hx5)
      | ((with_reducible show wpList _ _ _ (⟨some 58, .load _ _, _, _, _, _⟩ :: _) _ _); refine wpList_load_sec rfl (.tmp 7) rfl _ rfl a r d S5.out HD.out ?_)
      | ((with_reducible show wpList _ _ _ (⟨some 59, .load _ _, _, _, _, _⟩ :: _) _ _); refine wpList_load_sec rfl (.tmp 2) rfl _ rfl a r d R5.out HD.out ?_)
      | ((with_reducible show wpList _ _ _ (⟨some 60, .binOp _ _ _ _ _, _, _, _, _⟩ :: _) _ _); refine wpList_neq_sec1 rfl (.tmp 58) (.tmp 59) rfl a r d rfl rfl HD.out ?_))
    go_upto_region 12 with (first
      | (go_at_call 15; (with_reducible refine (KR.out _).mono ?_); rintro e w20 ⟨v20, rfl, hx20, rfl⟩; have X20 := hide (X10.out.trans hx20); clear hx20)
      | ((with_reducible show wpList _ _ _ (⟨none, .store _ (.tmp 9) _, _, _, _, _⟩ :: _) _ _);
         refine wpList_store_sec rfl (.tmp 9) (.tmp 65) rfl w20.heap.size rfl 0 0 zer32 rfl 0 0 zer32 (heap_alloc_new w20 _) rfl rfl ?_;
         intro w21 hr21 hl21;
         have X21 := hide ((X20.out.trans (Ext.alloc _ _)).laid hl21 X20.out.size);
         have S21 := hide hr21;
         clear hr21 hl21)
      | (go_at_call 17; (with_reducible refine (KO.out _).mono ?_); rintro e w22 ⟨hx22, v22, rfl, A2, c2, hv2, hc2, hr2⟩; have X22 := hide (X21.out.trans hx22); have S22 := hide (S21.out.ext hx22); rw [HNL.out] at hv2 hc2; subst hv2; clear hx22 hr2 hc2))
    go_wp2_with (first
      | ((with_reducible show wpList _ _ _ (⟨some 94, .load _ _, _, _, _, _⟩ :: _) _ _); refine wpList_load_sec rfl (.tmp 9) rfl _ rfl 0 0 zer32 S22.out rfl ?_)
      | ((with_reducible show wpList _ _ _ (⟨some 95, .build _ _, _, _, _, _⟩ :: _) _ _); refine wpList_build_sec0 rfl rfl ?_)
      | ((with_reducible show wpList _ _ _ (⟨some 96, .binOp _ _ _ _ _, _, _, _, _⟩ :: _) _ _); refine wpList_eql_sec1 rfl (.tmp 94) (.tmp 95) rfl 0 0 zer32 rfl rfl rfl ?_))
    go_ret
    exact Ret.mk X22.out rfl
set_option maxRecDepth 20000 in
set_option maxHeartbeats 6400000 in
theorem texts_low (a r : Int) (d : List UInt8) (t : ByteArray) (w : World) (hsm : t.size ≤ 2000) (ha : 0 ≤ a ∧ a < 18446744073709551616) (hd : d.length = 32) (ht : Tab w) (l : List UInt8) (hq : readB t.data.toList = some l) (hl : l.length = 41) (hc : (l.getD 8 0).toNat < 1) :
    Calls Tryd.prog 5 #[.agg (sec a r d).toArray, .string t] w (Ret w (Is (.bool true))) := by
  have KA := hide fun W (h : Ext w W) => awake_any W (ht.ext h)
  have hbi : ¬ (2000 : Int) < (t.size : Int) := by omega
  have HD := hide hd
  have e1 : rdS (readB t.data.toList) = none := by rw [hq]; exact if_neg (fun h => by have := of_decide_eq_true (show decide (1 ≤ ((l.getD 8 0).toNat : Int) ∧ ((l.getD 8 0).toNat : Int) ≤ 64) = true from h.2); omega)
  have KR := hide fun W => (show Calls Tryd.prog 15 #[.string t] W (Ret W (Is (.tuple #[.agg (sec 0 0 zer32).toArray, .int .i64 3]))) from (by
    have h3 := read_any t W (by omega)
    rw [e1] at h3
    exact h3))
  have KO := hide fun W => (show Calls Tryd.prog 17 #[.string t] W (RdBP W (some l)) from (by
    have h3 := rreadBase_any t W (by omega)
    rw [hq] at h3
    exact h3))
  obtain ⟨n, HNL⟩ : ∃ n, Hid (l.length = n) := ⟨_, hide rfl⟩
  obtain rfl : n = 41 := by have := HNL.out; omega
  obtain ⟨x, HX⟩ : ∃ x, Hid (l.getD 8 0 = x) := ⟨_, hide rfl⟩
  have HX8 : Hid (l[8]? = some x) := hide (by rw [← HX.out, List.getD_eq_getElem?_getD, List.getElem?_eq_getElem (by omega)]; rfl)
  have HL8 : Hid (8 < l.length) := hide (by omega)
  rw [HX.out] at hc
  have hx8i := x.toNat_lt
  have hci : (x.toNat : Int) < 1 := by omega
  obtain ⟨W0, hX0, hR0, hgg⟩ : ∃ W0, Ext w W0 ∧ Rw W0 w.heap.size 26 (sec a r d) ∧ w.alloc (.cells (sec a r d).toArray 26) = W0 := ⟨_, Ext.alloc _ _, Rw.new w 26 _, rfl⟩
  have X0 := hide hX0
  have R0 := hide hR0
  have HTX : Hid (∃ tx : ByteArray, tx.size ≤ 1000 ∧ (okR r = true → (⟨(baseB (secB a r d)).toArray⟩ : ByteArray) = tx)) := hide ⟨⟨(baseB (secB a r d)).toArray⟩, by
    show (baseB (secB a r d)).toArray.size ≤ 1000
    rw [List.size_toArray, baseB_len, secB_len a r d hd]
    decide, fun _ => rfl⟩
  clear hX0 hR0 ht hq e1 hl hc
  by_cases h1 : r < 1 ∨ 64 < r
  · have hk : okR r = false := decide_eq_false (by omega)
    have KW := hide fun W => write_no a r d W hk
    rcases Classical.em (r < 1) with h2 | h2
    · clear h1 hk hd
      go_enter Tryd.func5, Tryd.ntmps5
      go_upto_region 1 with fail
      clear hgg
      go_upto_region 4 with (first
        | (go_at_call 8; (with_reducible refine (KA.out _ X0.out).mono ?_); rintro e w1 ⟨v1, rfl, hx1, rfl⟩; have X1 := hide (X0.out.trans hx1); have R1 := hide (R0.out.ext hx1); clear hx1)
        | ((with_reducible show wpList _ _ _ (⟨some 22, .load _ _, _, _, _, _⟩ :: _) _ _); refine wpList_load_sec rfl (.tmp 2) rfl _ rfl a r d R1.out HD.out ?_)
        | (go_at_call 14; (with_reducible refine (KW.out _).mono ?_); rintro e w2 ⟨v2, rfl, hx2, rfl⟩; have X10 := hide (X1.out.trans hx2); have R2 := hide (R1.out.ext hx2); have c1 := R2.out.cell (i := 1) rfl; clear hx2))
      go_upto_region 10 with fail
      clear c1 R2
      go_upto_region 12 with (first
        | (go_at_call 15; (with_reducible refine (KR.out _).mono ?_); rintro e w20 ⟨v20, rfl, hx20, rfl⟩; have X20 := hide (X10.out.trans hx20); clear hx20)
        | ((with_reducible show wpList _ _ _ (⟨none, .store _ (.tmp 9) _, _, _, _, _⟩ :: _) _ _);
           refine wpList_store_sec rfl (.tmp 9) (.tmp 65) rfl w20.heap.size rfl 0 0 zer32 rfl 0 0 zer32 (heap_alloc_new w20 _) rfl rfl ?_;
           intro w21 hr21 hl21;
           have X21 := hide ((X20.out.trans (Ext.alloc _ _)).laid hl21 X20.out.size);
           have S21 := hide hr21;
           clear hr21 hl21)
        | (go_at_call 17; (with_reducible refine (KO.out _).mono ?_); rintro e w22 ⟨hx22, v22, rfl, A2, c2, hv2, hc2, hr2⟩; have X22 := hide (X21.out.trans hx22); have S22 := hide (S21.out.ext hx22); rw [HNL.out] at hv2 hc2; subst hv2; obtain ⟨b, off, x', hA2, hx8, hc8⟩ := hr2.at (k := 8) HL8.out; subst hA2; obtain rfl : x = x' := Option.some.inj (HX8.out.symm.trans hx8); clear hx8; clear hx22 hr2 hc2))
      go_wp2_with (first
        | ((with_reducible show wpList _ _ _ (⟨some 94, .load _ _, _, _, _, _⟩ :: _) _ _); refine wpList_load_sec rfl (.tmp 9) rfl _ rfl 0 0 zer32 S22.out rfl ?_)
        | ((with_reducible show wpList _ _ _ (⟨some 95, .build _ _, _, _, _, _⟩ :: _) _ _); refine wpList_build_sec0 rfl rfl ?_)
        | ((with_reducible show wpList _ _ _ (⟨some 96, .binOp _ _ _ _ _, _, _, _, _⟩ :: _) _ _); refine wpList_eql_sec1 rfl (.tmp 94) (.tmp 95) rfl 0 0 zer32 rfl rfl rfl ?_))
      go_ret
      exact Ret.mk X22.out rfl
    · have h3 : 64 < r := by omega
      clear h1 hk hd
      go_enter Tryd.func5, Tryd.ntmps5
      go_upto_region 1 with fail
      clear hgg
      go_upto_region 4 with (first
        | (go_at_call 8; (with_reducible refine (KA.out _ X0.out).mono ?_); rintro e w1 ⟨v1, rfl, hx1, rfl⟩; have X1 := hide (X0.out.trans hx1); have R1 := hide (R0.out.ext hx1); clear hx1)
        | ((with_reducible show wpList _ _ _ (⟨some 22, .load _ _, _, _, _, _⟩ :: _) _ _); refine wpList_load_sec rfl (.tmp 2) rfl _ rfl a r d R1.out HD.out ?_)
        | (go_at_call 14; (with_reducible refine (KW.out _).mono ?_); rintro e w2 ⟨v2, rfl, hx2, rfl⟩; have X10 := hide (X1.out.trans hx2); have R2 := hide (R1.out.ext hx2); have c1 := R2.out.cell (i := 1) rfl; clear hx2))
      go_upto_region 10 with fail
      clear c1 R2
      go_upto_region 12 with (first
        | (go_at_call 15; (with_reducible refine (KR.out _).mono ?_); rintro e w20 ⟨v20, rfl, hx20, rfl⟩; have X20 := hide (X10.out.trans hx20); clear hx20)
        | ((with_reducible show wpList _ _ _ (⟨none, .store _ (.tmp 9) _, _, _, _, _⟩ :: _) _ _);
           refine wpList_store_sec rfl (.tmp 9) (.tmp 65) rfl w20.heap.size rfl 0 0 zer32 rfl 0 0 zer32 (heap_alloc_new w20 _) rfl rfl ?_;
           intro w21 hr21 hl21;
           have X21 := hide ((X20.out.trans (Ext.alloc _ _)).laid hl21 X20.out.size);
           have S21 := hide hr21;
           clear hr21 hl21)
        | (go_at_call 17; (with_reducible refine (KO.out _).mono ?_); rintro e w22 ⟨hx22, v22, rfl, A2, c2, hv2, hc2, hr2⟩; have X22 := hide (X21.out.trans hx22); have S22 := hide (S21.out.ext hx22); rw [HNL.out] at hv2 hc2; subst hv2; obtain ⟨b, off, x', hA2, hx8, hc8⟩ := hr2.at (k := 8) HL8.out; subst hA2; obtain rfl : x = x' := Option.some.inj (HX8.out.symm.trans hx8); clear hx8; clear hx22 hr2 hc2))
      go_wp2_with (first
        | ((with_reducible show wpList _ _ _ (⟨some 94, .load _ _, _, _, _, _⟩ :: _) _ _); refine wpList_load_sec rfl (.tmp 9) rfl _ rfl 0 0 zer32 S22.out rfl ?_)
        | ((with_reducible show wpList _ _ _ (⟨some 95, .build _ _, _, _, _, _⟩ :: _) _ _); refine wpList_build_sec0 rfl rfl ?_)
        | ((with_reducible show wpList _ _ _ (⟨some 96, .binOp _ _ _ _ _, _, _, _, _⟩ :: _) _ _); refine wpList_eql_sec1 rfl (.tmp 94) (.tmp 95) rfl 0 0 zer32 rfl rfl rfl ?_))
      go_ret
      exact Ret.mk X22.out rfl
  · have hk : okR r = true := decide_eq_true (by omega)
    have h2 : ¬ r < 1 := by omega
    have h3 : ¬ 64 < r := by omega
    obtain ⟨tx, htz, htx⟩ := HTX.out
    have htx := htx hk
    have KW := hide fun W => (show Calls Tryd.prog 14 #[.agg (sec a r d).toArray] W (Ret W (Is (.tuple #[.string tx, .int .i64 0]))) from (by
      have h3 := write_yes a r d W ha hd hk
      rw [htx] at h3
      exact h3))
    have KX := hide fun W => (show Calls Tryd.prog 16 #[.agg (sec a r d).toArray] W (Ret W (Is (.string tx))) from (by
      have h3 := text_any a r d W ha hd hk
      rw [htx] at h3
      exact h3))
    have KR2 := hide fun W => (show Calls Tryd.prog 15 #[.string tx] W (Ret W (Is (.tuple #[.agg (sec a r d).toArray, .int .i64 0]))) from (by
      have h3 := read_any tx W (by omega)
      have e : rdS (readB tx.data.toList) = some (a, r, d) := by
        rw [← htx]
        show rdS (readB (baseB (secB a r d))) = _
        rw [read_base]
        exact rdS_back ha hk hd
      rw [e] at h3
      exact h3))
    clear h1 hk hd htx htz
    go_enter Tryd.func5, Tryd.ntmps5
    go_upto_region 1 with fail
    clear hgg
    go_upto_region 7 with (first
      | (go_at_call 8; (with_reducible refine (KA.out _ X0.out).mono ?_); rintro e w1 ⟨v1, rfl, hx1, rfl⟩; have X1 := hide (X0.out.trans hx1); have R1 := hide (R0.out.ext hx1); clear hx1)
      | ((with_reducible show wpList _ _ _ (⟨some 22, .load _ _, _, _, _, _⟩ :: _) _ _); refine wpList_load_sec rfl (.tmp 2) rfl _ rfl a r d R1.out HD.out ?_)
      | (go_at_call 14; (with_reducible refine (KW.out _).mono ?_); rintro e w2 ⟨v2, rfl, hx2, rfl⟩; have X2 := hide (X1.out.trans hx2); have R2 := hide (R1.out.ext hx2); have c1 := R2.out.cell (i := 1) rfl; clear hx2))
    clear c1
    go_upto_region 10 with (first
      | (go_at_call 15; (with_reducible refine (KR2.out _).mono ?_); rintro e w3 ⟨v3, rfl, hx3, rfl⟩; have X3 := hide (X2.out.trans hx3); have R3 := hide (R2.out.ext hx3); clear hx3)
      | ((with_reducible show wpList _ _ _ (⟨none, .store _ (.tmp 7) _, _, _, _, _⟩ :: _) _ _);
         refine wpList_store_sec rfl (.tmp 7) (.tmp 43) rfl w3.heap.size rfl a r d rfl 0 0 zer32 (heap_alloc_new w3 _) HD.out rfl ?_;
         intro w4 hr4 hl4;
         have X4 := hide ((X3.out.trans (Ext.alloc _ _)).laid hl4 X3.out.size);
         have S4 := hide hr4;
         have R4 := hide ((R3.out.alloc _).other hl4 (Nat.ne_of_lt R3.out.lt));
         clear hr4 hl4)
      | ((with_reducible show wpList _ _ _ (⟨some 49, .load _ _, _, _, _, _⟩ :: _) _ _); refine wpList_load_sec rfl (.tmp 2) rfl _ rfl a r d R4.out HD.out ?_)
      | (go_at_call 16; (with_reducible refine (KX.out _).mono ?_); rintro e w5 ⟨v5, rfl, hx5, rfl⟩; have X10 := hide (X4.out.trans hx5); have S5 := hide (S4.out.ext hx5); have R5 := hide (R4.out.ext hx5); clear hx5)
      | ((with_reducible show wpList _ _ _ (⟨some 58, .load _ _, _, _, _, _⟩ :: _) _ _); refine wpList_load_sec rfl (.tmp 7) rfl _ rfl a r d S5.out HD.out ?_)
      | ((with_reducible show wpList _ _ _ (⟨some 59, .load _ _, _, _, _, _⟩ :: _) _ _); refine wpList_load_sec rfl (.tmp 2) rfl _ rfl a r d R5.out HD.out ?_)
      | ((with_reducible show wpList _ _ _ (⟨some 60, .binOp _ _ _ _ _, _, _, _, _⟩ :: _) _ _); refine wpList_neq_sec1 rfl (.tmp 58) (.tmp 59) rfl a r d rfl rfl HD.out ?_))
    go_upto_region 12 with (first
      | (go_at_call 15; (with_reducible refine (KR.out _).mono ?_); rintro e w20 ⟨v20, rfl, hx20, rfl⟩; have X20 := hide (X10.out.trans hx20); clear hx20)
      | ((with_reducible show wpList _ _ _ (⟨none, .store _ (.tmp 9) _, _, _, _, _⟩ :: _) _ _);
         refine wpList_store_sec rfl (.tmp 9) (.tmp 65) rfl w20.heap.size rfl 0 0 zer32 rfl 0 0 zer32 (heap_alloc_new w20 _) rfl rfl ?_;
         intro w21 hr21 hl21;
         have X21 := hide ((X20.out.trans (Ext.alloc _ _)).laid hl21 X20.out.size);
         have S21 := hide hr21;
         clear hr21 hl21)
      | (go_at_call 17; (with_reducible refine (KO.out _).mono ?_); rintro e w22 ⟨hx22, v22, rfl, A2, c2, hv2, hc2, hr2⟩; have X22 := hide (X21.out.trans hx22); have S22 := hide (S21.out.ext hx22); rw [HNL.out] at hv2 hc2; subst hv2; obtain ⟨b, off, x', hA2, hx8, hc8⟩ := hr2.at (k := 8) HL8.out; subst hA2; obtain rfl : x = x' := Option.some.inj (HX8.out.symm.trans hx8); clear hx8; clear hx22 hr2 hc2))
    go_wp2_with (first
      | ((with_reducible show wpList _ _ _ (⟨some 94, .load _ _, _, _, _, _⟩ :: _) _ _); refine wpList_load_sec rfl (.tmp 9) rfl _ rfl 0 0 zer32 S22.out rfl ?_)
      | ((with_reducible show wpList _ _ _ (⟨some 95, .build _ _, _, _, _, _⟩ :: _) _ _); refine wpList_build_sec0 rfl rfl ?_)
      | ((with_reducible show wpList _ _ _ (⟨some 96, .binOp _ _ _ _ _, _, _, _, _⟩ :: _) _ _); refine wpList_eql_sec1 rfl (.tmp 94) (.tmp 95) rfl 0 0 zer32 rfl rfl rfl ?_))
    go_ret
    exact Ret.mk X22.out rfl
set_option maxRecDepth 20000 in
set_option maxHeartbeats 6400000 in
theorem texts_high (a r : Int) (d : List UInt8) (t : ByteArray) (w : World) (hsm : t.size ≤ 2000) (ha : 0 ≤ a ∧ a < 18446744073709551616) (hd : d.length = 32) (ht : Tab w) (l : List UInt8) (hq : readB t.data.toList = some l) (hl : l.length = 41) (hc0 : ¬ (l.getD 8 0).toNat < 1) (hc : 64 < (l.getD 8 0).toNat) :
    Calls Tryd.prog 5 #[.agg (sec a r d).toArray, .string t] w (Ret w (Is (.bool true))) := by
  have KA := hide fun W (h : Ext w W) => awake_any W (ht.ext h)
  have hbi : ¬ (2000 : Int) < (t.size : Int) := by omega
  have HD := hide hd
  have e1 : rdS (readB t.data.toList) = none := by rw [hq]; exact if_neg (fun h => by have := of_decide_eq_true (show decide (1 ≤ ((l.getD 8 0).toNat : Int) ∧ ((l.getD 8 0).toNat : Int) ≤ 64) = true from h.2); omega)
  have KR := hide fun W => (show Calls Tryd.prog 15 #[.string t] W (Ret W (Is (.tuple #[.agg (sec 0 0 zer32).toArray, .int .i64 3]))) from (by
    have h3 := read_any t W (by omega)
    rw [e1] at h3
    exact h3))
  have KO := hide fun W => (show Calls Tryd.prog 17 #[.string t] W (RdBP W (some l)) from (by
    have h3 := rreadBase_any t W (by omega)
    rw [hq] at h3
    exact h3))
  obtain ⟨n, HNL⟩ : ∃ n, Hid (l.length = n) := ⟨_, hide rfl⟩
  obtain rfl : n = 41 := by have := HNL.out; omega
  obtain ⟨x, HX⟩ : ∃ x, Hid (l.getD 8 0 = x) := ⟨_, hide rfl⟩
  have HX8 : Hid (l[8]? = some x) := hide (by rw [← HX.out, List.getD_eq_getElem?_getD, List.getElem?_eq_getElem (by omega)]; rfl)
  have HL8 : Hid (8 < l.length) := hide (by omega)
  rw [HX.out] at hc hc0
  have hx8i := x.toNat_lt
  have hci0 : ¬ (x.toNat : Int) < 1 := by omega
  have hci : (64 : Int) < (x.toNat : Int) := by omega
  obtain ⟨W0, hX0, hR0, hgg⟩ : ∃ W0, Ext w W0 ∧ Rw W0 w.heap.size 26 (sec a r d) ∧ w.alloc (.cells (sec a r d).toArray 26) = W0 := ⟨_, Ext.alloc _ _, Rw.new w 26 _, rfl⟩
  have X0 := hide hX0
  have R0 := hide hR0
  have HTX : Hid (∃ tx : ByteArray, tx.size ≤ 1000 ∧ (okR r = true → (⟨(baseB (secB a r d)).toArray⟩ : ByteArray) = tx)) := hide ⟨⟨(baseB (secB a r d)).toArray⟩, by
    show (baseB (secB a r d)).toArray.size ≤ 1000
    rw [List.size_toArray, baseB_len, secB_len a r d hd]
    decide, fun _ => rfl⟩
  clear hX0 hR0 ht hq e1 hl hc hc0
  by_cases h1 : r < 1 ∨ 64 < r
  · have hk : okR r = false := decide_eq_false (by omega)
    have KW := hide fun W => write_no a r d W hk
    rcases Classical.em (r < 1) with h2 | h2
    · clear h1 hk hd
      go_enter Tryd.func5, Tryd.ntmps5
      go_upto_region 1 with fail
      clear hgg
      go_upto_region 4 with (first
        | (go_at_call 8; (with_reducible refine (KA.out _ X0.out).mono ?_); rintro e w1 ⟨v1, rfl, hx1, rfl⟩; have X1 := hide (X0.out.trans hx1); have R1 := hide (R0.out.ext hx1); clear hx1)
        | ((with_reducible show wpList _ _ _ (⟨some 22, .load _ _, _, _, _, _⟩ :: _) _ _); refine wpList_load_sec rfl (.tmp 2) rfl _ rfl a r d R1.out HD.out ?_)
        | (go_at_call 14; (with_reducible refine (KW.out _).mono ?_); rintro e w2 ⟨v2, rfl, hx2, rfl⟩; have X10 := hide (X1.out.trans hx2); have R2 := hide (R1.out.ext hx2); have c1 := R2.out.cell (i := 1) rfl; clear hx2))
      go_upto_region 10 with fail
      clear c1 R2
      go_upto_region 12 with (first
        | (go_at_call 15; (with_reducible refine (KR.out _).mono ?_); rintro e w20 ⟨v20, rfl, hx20, rfl⟩; have X20 := hide (X10.out.trans hx20); clear hx20)
        | ((with_reducible show wpList _ _ _ (⟨none, .store _ (.tmp 9) _, _, _, _, _⟩ :: _) _ _);
           refine wpList_store_sec rfl (.tmp 9) (.tmp 65) rfl w20.heap.size rfl 0 0 zer32 rfl 0 0 zer32 (heap_alloc_new w20 _) rfl rfl ?_;
           intro w21 hr21 hl21;
           have X21 := hide ((X20.out.trans (Ext.alloc _ _)).laid hl21 X20.out.size);
           have S21 := hide hr21;
           clear hr21 hl21)
        | (go_at_call 17; (with_reducible refine (KO.out _).mono ?_); rintro e w22 ⟨hx22, v22, rfl, A2, c2, hv2, hc2, hr2⟩; have X22 := hide (X21.out.trans hx22); have S22 := hide (S21.out.ext hx22); rw [HNL.out] at hv2 hc2; subst hv2; obtain ⟨b, off, x', hA2, hx8, hc8⟩ := hr2.at (k := 8) HL8.out; subst hA2; obtain rfl : x = x' := Option.some.inj (HX8.out.symm.trans hx8); clear hx8; clear hx22 hr2 hc2))
      go_wp2_with (first
        | ((with_reducible show wpList _ _ _ (⟨some 94, .load _ _, _, _, _, _⟩ :: _) _ _); refine wpList_load_sec rfl (.tmp 9) rfl _ rfl 0 0 zer32 S22.out rfl ?_)
        | ((with_reducible show wpList _ _ _ (⟨some 95, .build _ _, _, _, _, _⟩ :: _) _ _); refine wpList_build_sec0 rfl rfl ?_)
        | ((with_reducible show wpList _ _ _ (⟨some 96, .binOp _ _ _ _ _, _, _, _, _⟩ :: _) _ _); refine wpList_eql_sec1 rfl (.tmp 94) (.tmp 95) rfl 0 0 zer32 rfl rfl rfl ?_))
      go_ret
      exact Ret.mk X22.out rfl
    · have h3 : 64 < r := by omega
      clear h1 hk hd
      go_enter Tryd.func5, Tryd.ntmps5
      go_upto_region 1 with fail
      clear hgg
      go_upto_region 4 with (first
        | (go_at_call 8; (with_reducible refine (KA.out _ X0.out).mono ?_); rintro e w1 ⟨v1, rfl, hx1, rfl⟩; have X1 := hide (X0.out.trans hx1); have R1 := hide (R0.out.ext hx1); clear hx1)
        | ((with_reducible show wpList _ _ _ (⟨some 22, .load _ _, _, _, _, _⟩ :: _) _ _); refine wpList_load_sec rfl (.tmp 2) rfl _ rfl a r d R1.out HD.out ?_)
        | (go_at_call 14; (with_reducible refine (KW.out _).mono ?_); rintro e w2 ⟨v2, rfl, hx2, rfl⟩; have X10 := hide (X1.out.trans hx2); have R2 := hide (R1.out.ext hx2); have c1 := R2.out.cell (i := 1) rfl; clear hx2))
      go_upto_region 10 with fail
      clear c1 R2
      go_upto_region 12 with (first
        | (go_at_call 15; (with_reducible refine (KR.out _).mono ?_); rintro e w20 ⟨v20, rfl, hx20, rfl⟩; have X20 := hide (X10.out.trans hx20); clear hx20)
        | ((with_reducible show wpList _ _ _ (⟨none, .store _ (.tmp 9) _, _, _, _, _⟩ :: _) _ _);
           refine wpList_store_sec rfl (.tmp 9) (.tmp 65) rfl w20.heap.size rfl 0 0 zer32 rfl 0 0 zer32 (heap_alloc_new w20 _) rfl rfl ?_;
           intro w21 hr21 hl21;
           have X21 := hide ((X20.out.trans (Ext.alloc _ _)).laid hl21 X20.out.size);
           have S21 := hide hr21;
           clear hr21 hl21)
        | (go_at_call 17; (with_reducible refine (KO.out _).mono ?_); rintro e w22 ⟨hx22, v22, rfl, A2, c2, hv2, hc2, hr2⟩; have X22 := hide (X21.out.trans hx22); have S22 := hide (S21.out.ext hx22); rw [HNL.out] at hv2 hc2; subst hv2; obtain ⟨b, off, x', hA2, hx8, hc8⟩ := hr2.at (k := 8) HL8.out; subst hA2; obtain rfl : x = x' := Option.some.inj (HX8.out.symm.trans hx8); clear hx8; clear hx22 hr2 hc2))
      go_wp2_with (first
        | ((with_reducible show wpList _ _ _ (⟨some 94, .load _ _, _, _, _, _⟩ :: _) _ _); refine wpList_load_sec rfl (.tmp 9) rfl _ rfl 0 0 zer32 S22.out rfl ?_)
        | ((with_reducible show wpList _ _ _ (⟨some 95, .build _ _, _, _, _, _⟩ :: _) _ _); refine wpList_build_sec0 rfl rfl ?_)
        | ((with_reducible show wpList _ _ _ (⟨some 96, .binOp _ _ _ _ _, _, _, _, _⟩ :: _) _ _); refine wpList_eql_sec1 rfl (.tmp 94) (.tmp 95) rfl 0 0 zer32 rfl rfl rfl ?_))
      go_ret
      exact Ret.mk X22.out rfl
  · have hk : okR r = true := decide_eq_true (by omega)
    have h2 : ¬ r < 1 := by omega
    have h3 : ¬ 64 < r := by omega
    obtain ⟨tx, htz, htx⟩ := HTX.out
    have htx := htx hk
    have KW := hide fun W => (show Calls Tryd.prog 14 #[.agg (sec a r d).toArray] W (Ret W (Is (.tuple #[.string tx, .int .i64 0]))) from (by
      have h3 := write_yes a r d W ha hd hk
      rw [htx] at h3
      exact h3))
    have KX := hide fun W => (show Calls Tryd.prog 16 #[.agg (sec a r d).toArray] W (Ret W (Is (.string tx))) from (by
      have h3 := text_any a r d W ha hd hk
      rw [htx] at h3
      exact h3))
    have KR2 := hide fun W => (show Calls Tryd.prog 15 #[.string tx] W (Ret W (Is (.tuple #[.agg (sec a r d).toArray, .int .i64 0]))) from (by
      have h3 := read_any tx W (by omega)
      have e : rdS (readB tx.data.toList) = some (a, r, d) := by
        rw [← htx]
        show rdS (readB (baseB (secB a r d))) = _
        rw [read_base]
        exact rdS_back ha hk hd
      rw [e] at h3
      exact h3))
    clear h1 hk hd htx htz
    go_enter Tryd.func5, Tryd.ntmps5
    go_upto_region 1 with fail
    clear hgg
    go_upto_region 7 with (first
      | (go_at_call 8; (with_reducible refine (KA.out _ X0.out).mono ?_); rintro e w1 ⟨v1, rfl, hx1, rfl⟩; have X1 := hide (X0.out.trans hx1); have R1 := hide (R0.out.ext hx1); clear hx1)
      | ((with_reducible show wpList _ _ _ (⟨some 22, .load _ _, _, _, _, _⟩ :: _) _ _); refine wpList_load_sec rfl (.tmp 2) rfl _ rfl a r d R1.out HD.out ?_)
      | (go_at_call 14; (with_reducible refine (KW.out _).mono ?_); rintro e w2 ⟨v2, rfl, hx2, rfl⟩; have X2 := hide (X1.out.trans hx2); have R2 := hide (R1.out.ext hx2); have c1 := R2.out.cell (i := 1) rfl; clear hx2))
    clear c1
    go_upto_region 10 with (first
      | (go_at_call 15; (with_reducible refine (KR2.out _).mono ?_); rintro e w3 ⟨v3, rfl, hx3, rfl⟩; have X3 := hide (X2.out.trans hx3); have R3 := hide (R2.out.ext hx3); clear hx3)
      | ((with_reducible show wpList _ _ _ (⟨none, .store _ (.tmp 7) _, _, _, _, _⟩ :: _) _ _);
         refine wpList_store_sec rfl (.tmp 7) (.tmp 43) rfl w3.heap.size rfl a r d rfl 0 0 zer32 (heap_alloc_new w3 _) HD.out rfl ?_;
         intro w4 hr4 hl4;
         have X4 := hide ((X3.out.trans (Ext.alloc _ _)).laid hl4 X3.out.size);
         have S4 := hide hr4;
         have R4 := hide ((R3.out.alloc _).other hl4 (Nat.ne_of_lt R3.out.lt));
         clear hr4 hl4)
      | ((with_reducible show wpList _ _ _ (⟨some 49, .load _ _, _, _, _, _⟩ :: _) _ _); refine wpList_load_sec rfl (.tmp 2) rfl _ rfl a r d R4.out HD.out ?_)
      | (go_at_call 16; (with_reducible refine (KX.out _).mono ?_); rintro e w5 ⟨v5, rfl, hx5, rfl⟩; have X10 := hide (X4.out.trans hx5); have S5 := hide (S4.out.ext hx5); have R5 := hide (R4.out.ext hx5); clear hx5)
      | ((with_reducible show wpList _ _ _ (⟨some 58, .load _ _, _, _, _, _⟩ :: _) _ _); refine wpList_load_sec rfl (.tmp 7) rfl _ rfl a r d S5.out HD.out ?_)
      | ((with_reducible show wpList _ _ _ (⟨some 59, .load _ _, _, _, _, _⟩ :: _) _ _); refine wpList_load_sec rfl (.tmp 2) rfl _ rfl a r d R5.out HD.out ?_)
      | ((with_reducible show wpList _ _ _ (⟨some 60, .binOp _ _ _ _ _, _, _, _, _⟩ :: _) _ _); refine wpList_neq_sec1 rfl (.tmp 58) (.tmp 59) rfl a r d rfl rfl HD.out ?_))
    go_upto_region 12 with (first
      | (go_at_call 15; (with_reducible refine (KR.out _).mono ?_); rintro e w20 ⟨v20, rfl, hx20, rfl⟩; have X20 := hide (X10.out.trans hx20); clear hx20)
      | ((with_reducible show wpList _ _ _ (⟨none, .store _ (.tmp 9) _, _, _, _, _⟩ :: _) _ _);
         refine wpList_store_sec rfl (.tmp 9) (.tmp 65) rfl w20.heap.size rfl 0 0 zer32 rfl 0 0 zer32 (heap_alloc_new w20 _) rfl rfl ?_;
         intro w21 hr21 hl21;
         have X21 := hide ((X20.out.trans (Ext.alloc _ _)).laid hl21 X20.out.size);
         have S21 := hide hr21;
         clear hr21 hl21)
      | (go_at_call 17; (with_reducible refine (KO.out _).mono ?_); rintro e w22 ⟨hx22, v22, rfl, A2, c2, hv2, hc2, hr2⟩; have X22 := hide (X21.out.trans hx22); have S22 := hide (S21.out.ext hx22); rw [HNL.out] at hv2 hc2; subst hv2; obtain ⟨b, off, x', hA2, hx8, hc8⟩ := hr2.at (k := 8) HL8.out; subst hA2; obtain rfl : x = x' := Option.some.inj (HX8.out.symm.trans hx8); clear hx8; clear hx22 hr2 hc2))
    go_wp2_with (first
      | ((with_reducible show wpList _ _ _ (⟨some 94, .load _ _, _, _, _, _⟩ :: _) _ _); refine wpList_load_sec rfl (.tmp 9) rfl _ rfl 0 0 zer32 S22.out rfl ?_)
      | ((with_reducible show wpList _ _ _ (⟨some 95, .build _ _, _, _, _, _⟩ :: _) _ _); refine wpList_build_sec0 rfl rfl ?_)
      | ((with_reducible show wpList _ _ _ (⟨some 96, .binOp _ _ _ _ _, _, _, _, _⟩ :: _) _ _); refine wpList_eql_sec1 rfl (.tmp 94) (.tmp 95) rfl 0 0 zer32 rfl rfl rfl ?_))
    go_ret
    exact Ret.mk X22.out rfl
set_option maxRecDepth 20000 in
set_option maxHeartbeats 6400000 in
theorem texts_good (a r : Int) (d : List UInt8) (t : ByteArray) (w : World) (hsm : t.size ≤ 2000) (ha : 0 ≤ a ∧ a < 18446744073709551616) (hd : d.length = 32) (ht : Tab w) (l : List UInt8) (hq : readB t.data.toList = some l) (hl : l.length = 41) (hc0 : ¬ (l.getD 8 0).toNat < 1) (hc : ¬ 64 < (l.getD 8 0).toNat) :
    Calls Tryd.prog 5 #[.agg (sec a r d).toArray, .string t] w (Ret w (Is (.bool true))) := by
  have KA := hide fun W (h : Ext w W) => awake_any W (ht.ext h)
  have hbi : ¬ (2000 : Int) < (t.size : Int) := by omega
  have HD := hide hd
  obtain ⟨m, xr, d2, e1⟩ : ∃ m xr d2, rdS (readB t.data.toList) = some (m, xr, d2) ∧ xr = ((l.getD 8 0).toNat : Int) := ⟨_, _, _, by rw [hq]; exact if_pos ⟨hl, decide_eq_true (by omega)⟩, rfl⟩
  obtain ⟨e1, hxr⟩ := e1
  obtain ⟨hm, hxk, hd2, hqe⟩ := rdS_ok e1
  have HD2 := hide (show d2.length = 32 from hd2)
  have KR := hide fun W => (show Calls Tryd.prog 15 #[.string t] W (Ret W (Is (.tuple #[.agg (sec m xr d2).toArray, .int .i64 0]))) from (by
    have h3 := read_any t W (by omega)
    rw [e1] at h3
    exact h3))
  have hbt : (⟨(baseB (secB m xr d2)).toArray⟩ : ByteArray) = t := by
    have h := base_read _ _ hqe
    rw [show baseB (secB m xr d2) = t.data.toList from h]
  have KY := hide fun W => (show Calls Tryd.prog 16 #[.agg (sec m xr d2).toArray] W (Ret W (Is (.string t))) from (by
    have h3 := text_any m xr d2 W hm hd2 hxk
    rw [hbt] at h3
    exact h3))
  have KO := hide fun W => (show Calls Tryd.prog 17 #[.string t] W (RdBP W (some l)) from (by
    have h3 := rreadBase_any t W (by omega)
    rw [hq] at h3
    exact h3))
  obtain ⟨n, HNL⟩ : ∃ n, Hid (l.length = n) := ⟨_, hide rfl⟩
  obtain rfl : n = 41 := by have := HNL.out; omega
  obtain ⟨x, HX⟩ : ∃ x, Hid (l.getD 8 0 = x) := ⟨_, hide rfl⟩
  have HX8 : Hid (l[8]? = some x) := hide (by rw [← HX.out, List.getD_eq_getElem?_getD, List.getElem?_eq_getElem (by omega)]; rfl)
  have HL8 : Hid (8 < l.length) := hide (by omega)
  rw [HX.out] at hc hc0
  have hx8i := x.toNat_lt
  have hci0 : ¬ (x.toNat : Int) < 1 := by omega
  have hci : ¬ (64 : Int) < (x.toNat : Int) := by omega
  obtain ⟨W0, hX0, hR0, hgg⟩ : ∃ W0, Ext w W0 ∧ Rw W0 w.heap.size 26 (sec a r d) ∧ w.alloc (.cells (sec a r d).toArray 26) = W0 := ⟨_, Ext.alloc _ _, Rw.new w 26 _, rfl⟩
  have X0 := hide hX0
  have R0 := hide hR0
  have HTX : Hid (∃ tx : ByteArray, tx.size ≤ 1000 ∧ (okR r = true → (⟨(baseB (secB a r d)).toArray⟩ : ByteArray) = tx)) := hide ⟨⟨(baseB (secB a r d)).toArray⟩, by
    show (baseB (secB a r d)).toArray.size ≤ 1000
    rw [List.size_toArray, baseB_len, secB_len a r d hd]
    decide, fun _ => rfl⟩
  clear hX0 hR0 ht hq e1 hl hc hc0 hm hxk hd2 hqe hbt hxr
  by_cases h1 : r < 1 ∨ 64 < r
  · have hk : okR r = false := decide_eq_false (by omega)
    have KW := hide fun W => write_no a r d W hk
    rcases Classical.em (r < 1) with h2 | h2
    · clear h1 hk hd
      go_enter Tryd.func5, Tryd.ntmps5
      go_upto_region 1 with fail
      clear hgg
      go_upto_region 4 with (first
        | (go_at_call 8; (with_reducible refine (KA.out _ X0.out).mono ?_); rintro e w1 ⟨v1, rfl, hx1, rfl⟩; have X1 := hide (X0.out.trans hx1); have R1 := hide (R0.out.ext hx1); clear hx1)
        | ((with_reducible show wpList _ _ _ (⟨some 22, .load _ _, _, _, _, _⟩ :: _) _ _); refine wpList_load_sec rfl (.tmp 2) rfl _ rfl a r d R1.out HD.out ?_)
        | (go_at_call 14; (with_reducible refine (KW.out _).mono ?_); rintro e w2 ⟨v2, rfl, hx2, rfl⟩; have X10 := hide (X1.out.trans hx2); have R2 := hide (R1.out.ext hx2); have c1 := R2.out.cell (i := 1) rfl; clear hx2))
      go_upto_region 10 with fail
      clear c1 R2
      go_upto_region 12 with (first
        | (go_at_call 15; (with_reducible refine (KR.out _).mono ?_); rintro e w20 ⟨v20, rfl, hx20, rfl⟩; have X20 := hide (X10.out.trans hx20); clear hx20)
        | ((with_reducible show wpList _ _ _ (⟨none, .store _ (.tmp 9) _, _, _, _, _⟩ :: _) _ _);
           refine wpList_store_sec rfl (.tmp 9) (.tmp 65) rfl w20.heap.size rfl m xr d2 rfl 0 0 zer32 (heap_alloc_new w20 _) HD2.out rfl ?_;
           intro w21 hr21 hl21;
           have X21 := hide ((X20.out.trans (Ext.alloc _ _)).laid hl21 X20.out.size);
           have S21 := hide hr21;
           clear hr21 hl21)
        | (go_at_call 17; (with_reducible refine (KO.out _).mono ?_); rintro e w22 ⟨hx22, v22, rfl, A2, c2, hv2, hc2, hr2⟩; have X22 := hide (X21.out.trans hx22); have S22 := hide (S21.out.ext hx22); rw [HNL.out] at hv2 hc2; subst hv2; obtain ⟨b, off, x', hA2, hx8, hc8⟩ := hr2.at (k := 8) HL8.out; subst hA2; obtain rfl : x = x' := Option.some.inj (HX8.out.symm.trans hx8); clear hx8; clear hx22 hr2 hc2))
      go_wp2_with (first
        | ((with_reducible show wpList _ _ _ (⟨some 101, .load _ _, _, _, _, _⟩ :: _) _ _); refine wpList_load_sec rfl (.tmp 9) rfl _ rfl m xr d2 S22.out HD2.out ?_)
        | (go_at_call 16; (with_reducible refine (KY.out _).mono ?_); rintro e w23 ⟨v23, rfl, hx23, rfl⟩; have X23 := hide (X22.out.trans hx23); clear hx23))
      go_ret
      exact Ret.mk X23.out rfl
    · have h3 : 64 < r := by omega
      clear h1 hk hd
      go_enter Tryd.func5, Tryd.ntmps5
      go_upto_region 1 with fail
      clear hgg
      go_upto_region 4 with (first
        | (go_at_call 8; (with_reducible refine (KA.out _ X0.out).mono ?_); rintro e w1 ⟨v1, rfl, hx1, rfl⟩; have X1 := hide (X0.out.trans hx1); have R1 := hide (R0.out.ext hx1); clear hx1)
        | ((with_reducible show wpList _ _ _ (⟨some 22, .load _ _, _, _, _, _⟩ :: _) _ _); refine wpList_load_sec rfl (.tmp 2) rfl _ rfl a r d R1.out HD.out ?_)
        | (go_at_call 14; (with_reducible refine (KW.out _).mono ?_); rintro e w2 ⟨v2, rfl, hx2, rfl⟩; have X10 := hide (X1.out.trans hx2); have R2 := hide (R1.out.ext hx2); have c1 := R2.out.cell (i := 1) rfl; clear hx2))
      go_upto_region 10 with fail
      clear c1 R2
      go_upto_region 12 with (first
        | (go_at_call 15; (with_reducible refine (KR.out _).mono ?_); rintro e w20 ⟨v20, rfl, hx20, rfl⟩; have X20 := hide (X10.out.trans hx20); clear hx20)
        | ((with_reducible show wpList _ _ _ (⟨none, .store _ (.tmp 9) _, _, _, _, _⟩ :: _) _ _);
           refine wpList_store_sec rfl (.tmp 9) (.tmp 65) rfl w20.heap.size rfl m xr d2 rfl 0 0 zer32 (heap_alloc_new w20 _) HD2.out rfl ?_;
           intro w21 hr21 hl21;
           have X21 := hide ((X20.out.trans (Ext.alloc _ _)).laid hl21 X20.out.size);
           have S21 := hide hr21;
           clear hr21 hl21)
        | (go_at_call 17; (with_reducible refine (KO.out _).mono ?_); rintro e w22 ⟨hx22, v22, rfl, A2, c2, hv2, hc2, hr2⟩; have X22 := hide (X21.out.trans hx22); have S22 := hide (S21.out.ext hx22); rw [HNL.out] at hv2 hc2; subst hv2; obtain ⟨b, off, x', hA2, hx8, hc8⟩ := hr2.at (k := 8) HL8.out; subst hA2; obtain rfl : x = x' := Option.some.inj (HX8.out.symm.trans hx8); clear hx8; clear hx22 hr2 hc2))
      go_wp2_with (first
        | ((with_reducible show wpList _ _ _ (⟨some 101, .load _ _, _, _, _, _⟩ :: _) _ _); refine wpList_load_sec rfl (.tmp 9) rfl _ rfl m xr d2 S22.out HD2.out ?_)
        | (go_at_call 16; (with_reducible refine (KY.out _).mono ?_); rintro e w23 ⟨v23, rfl, hx23, rfl⟩; have X23 := hide (X22.out.trans hx23); clear hx23))
      go_ret
      exact Ret.mk X23.out rfl
  · have hk : okR r = true := decide_eq_true (by omega)
    have h2 : ¬ r < 1 := by omega
    have h3 : ¬ 64 < r := by omega
    obtain ⟨tx, htz, htx⟩ := HTX.out
    have htx := htx hk
    have KW := hide fun W => (show Calls Tryd.prog 14 #[.agg (sec a r d).toArray] W (Ret W (Is (.tuple #[.string tx, .int .i64 0]))) from (by
      have h3 := write_yes a r d W ha hd hk
      rw [htx] at h3
      exact h3))
    have KX := hide fun W => (show Calls Tryd.prog 16 #[.agg (sec a r d).toArray] W (Ret W (Is (.string tx))) from (by
      have h3 := text_any a r d W ha hd hk
      rw [htx] at h3
      exact h3))
    have KR2 := hide fun W => (show Calls Tryd.prog 15 #[.string tx] W (Ret W (Is (.tuple #[.agg (sec a r d).toArray, .int .i64 0]))) from (by
      have h3 := read_any tx W (by omega)
      have e : rdS (readB tx.data.toList) = some (a, r, d) := by
        rw [← htx]
        show rdS (readB (baseB (secB a r d))) = _
        rw [read_base]
        exact rdS_back ha hk hd
      rw [e] at h3
      exact h3))
    clear h1 hk hd htx htz
    go_enter Tryd.func5, Tryd.ntmps5
    go_upto_region 1 with fail
    clear hgg
    go_upto_region 7 with (first
      | (go_at_call 8; (with_reducible refine (KA.out _ X0.out).mono ?_); rintro e w1 ⟨v1, rfl, hx1, rfl⟩; have X1 := hide (X0.out.trans hx1); have R1 := hide (R0.out.ext hx1); clear hx1)
      | ((with_reducible show wpList _ _ _ (⟨some 22, .load _ _, _, _, _, _⟩ :: _) _ _); refine wpList_load_sec rfl (.tmp 2) rfl _ rfl a r d R1.out HD.out ?_)
      | (go_at_call 14; (with_reducible refine (KW.out _).mono ?_); rintro e w2 ⟨v2, rfl, hx2, rfl⟩; have X2 := hide (X1.out.trans hx2); have R2 := hide (R1.out.ext hx2); have c1 := R2.out.cell (i := 1) rfl; clear hx2))
    clear c1
    go_upto_region 10 with (first
      | (go_at_call 15; (with_reducible refine (KR2.out _).mono ?_); rintro e w3 ⟨v3, rfl, hx3, rfl⟩; have X3 := hide (X2.out.trans hx3); have R3 := hide (R2.out.ext hx3); clear hx3)
      | ((with_reducible show wpList _ _ _ (⟨none, .store _ (.tmp 7) _, _, _, _, _⟩ :: _) _ _);
         refine wpList_store_sec rfl (.tmp 7) (.tmp 43) rfl w3.heap.size rfl a r d rfl 0 0 zer32 (heap_alloc_new w3 _) HD.out rfl ?_;
         intro w4 hr4 hl4;
         have X4 := hide ((X3.out.trans (Ext.alloc _ _)).laid hl4 X3.out.size);
         have S4 := hide hr4;
         have R4 := hide ((R3.out.alloc _).other hl4 (Nat.ne_of_lt R3.out.lt));
         clear hr4 hl4)
      | ((with_reducible show wpList _ _ _ (⟨some 49, .load _ _, _, _, _, _⟩ :: _) _ _); refine wpList_load_sec rfl (.tmp 2) rfl _ rfl a r d R4.out HD.out ?_)
      | (go_at_call 16; (with_reducible refine (KX.out _).mono ?_); rintro e w5 ⟨v5, rfl, hx5, rfl⟩; have X10 := hide (X4.out.trans hx5); have S5 := hide (S4.out.ext hx5); have R5 := hide (R4.out.ext hx5); clear hx5)
      | ((with_reducible show wpList _ _ _ (⟨some 58, .load _ _, _, _, _, _⟩ :: _) _ _); refine wpList_load_sec rfl (.tmp 7) rfl _ rfl a r d S5.out HD.out ?_)
      | ((with_reducible show wpList _ _ _ (⟨some 59, .load _ _, _, _, _, _⟩ :: _) _ _); refine wpList_load_sec rfl (.tmp 2) rfl _ rfl a r d R5.out HD.out ?_)
      | ((with_reducible show wpList _ _ _ (⟨some 60, .binOp _ _ _ _ _, _, _, _, _⟩ :: _) _ _); refine wpList_neq_sec1 rfl (.tmp 58) (.tmp 59) rfl a r d rfl rfl HD.out ?_))
    go_upto_region 12 with (first
      | (go_at_call 15; (with_reducible refine (KR.out _).mono ?_); rintro e w20 ⟨v20, rfl, hx20, rfl⟩; have X20 := hide (X10.out.trans hx20); clear hx20)
      | ((with_reducible show wpList _ _ _ (⟨none, .store _ (.tmp 9) _, _, _, _, _⟩ :: _) _ _);
         refine wpList_store_sec rfl (.tmp 9) (.tmp 65) rfl w20.heap.size rfl m xr d2 rfl 0 0 zer32 (heap_alloc_new w20 _) HD2.out rfl ?_;
         intro w21 hr21 hl21;
         have X21 := hide ((X20.out.trans (Ext.alloc _ _)).laid hl21 X20.out.size);
         have S21 := hide hr21;
         clear hr21 hl21)
      | (go_at_call 17; (with_reducible refine (KO.out _).mono ?_); rintro e w22 ⟨hx22, v22, rfl, A2, c2, hv2, hc2, hr2⟩; have X22 := hide (X21.out.trans hx22); have S22 := hide (S21.out.ext hx22); rw [HNL.out] at hv2 hc2; subst hv2; obtain ⟨b, off, x', hA2, hx8, hc8⟩ := hr2.at (k := 8) HL8.out; subst hA2; obtain rfl : x = x' := Option.some.inj (HX8.out.symm.trans hx8); clear hx8; clear hx22 hr2 hc2))
    go_wp2_with (first
      | ((with_reducible show wpList _ _ _ (⟨some 101, .load _ _, _, _, _, _⟩ :: _) _ _); refine wpList_load_sec rfl (.tmp 9) rfl _ rfl m xr d2 S22.out HD2.out ?_)
      | (go_at_call 16; (with_reducible refine (KY.out _).mono ?_); rintro e w23 ⟨v23, rfl, hx23, rfl⟩; have X23 := hide (X22.out.trans hx23); clear hx23))
    go_ret
    exact Ret.mk X23.out rfl
theorem passTexts_walk (a r : Int) (d : List UInt8) (t : ByteArray) (w : World) (hp : t.size ≤ 140737488351232) (ha : 0 ≤ a ∧ a < 18446744073709551616) (hd : d.length = 32) (ht : Tab w) :
    Calls Tryd.prog 5 #[.agg (sec a r d).toArray, .string t] w (Ret w (Is (.bool true))) := by
  by_cases hbig : 2000 < t.size
  · exact texts_big a r d t w hbig hp ht
  · cases hq : readB t.data.toList with
    | none => exact texts_none a r d t w (by omega) ha hd ht hq
    | some l =>
      by_cases hl : l.length = 41
      · by_cases h1 : (l.getD 8 0).toNat < 1
        · exact texts_low a r d t w (by omega) ha hd ht l hq hl h1
        · by_cases h2 : 64 < (l.getD 8 0).toNat
          · exact texts_high a r d t w (by omega) ha hd ht l hq hl h1 h2
          · exact texts_good a r d t w (by omega) ha hd ht l hq hl h1 h2
      · exact texts_len a r d t w (by omega) ha hd ht l hq hl
end Go.Proofs.YtdllppaichlnaaaDoor
