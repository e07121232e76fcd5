/-
  A region that draws its order, whose operations that turn memory lie in one forced chain: what holds at each place of the chain.
-/
import Derived.Test.YtmabminjmcjafaaChn
namespace Go.Proofs.Ytmabminjmcjafaa
open Go.RowKit

section
variable {P : Program} {ops : Array Oper} {Q : Exit → Act → World → Prop} {S : Nat → World → Value → Prop} {J : Nat → World → Prop} {R : World → World → Prop} {ch : List Nat} {a0 : Act}

structure IInv (ops : Array Oper) (S : Nat → World → Value → Prop) (J : Nat → World → Prop) (ch : List Nat) (a0 : Act) (listed : Array Bool) (a : Act) (w : World) : Prop where
  size : listed.size = ops.size
  defers : a.defers = a0.defers
  tmps : a.tmps.size = a0.tmps.size
  closed : ∀ (i : Nat) (o : Oper), ops[i]? = some o → listed[i]? = some true → ∀ e ∈ o.after, Region.binds .any e = true → listed[e.on]? = some true
  vals : ∀ (i : Nat) (o : Oper) (d : Nat), ops[i]? = some o → listed[i]? = some true → o.dst = some d → ∃ v, a.tmps[d]? = some v ∧ S i w v
  same : ∀ t, (∀ (i : Nat) (o : Oper), ops[i]? = some o → o.dst = some t → listed[i]? = some false) → a.tmps[t]? = a0.tmps[t]?
  place : ∃ j, j ≤ ch.length ∧ J j w ∧ ∀ (t k : Nat), ch[t]? = some k → (listed[k]? = some true ↔ t < j)

/-- What one operation owes. -/
def IPays (P : Program) (ops : Array Oper) (S : Nat → World → Value → Prop) (J : Nat → World → Prop) (R : World → World → Prop) (ch : List Nat) (a0 : Act) (i : Nat) (o : Oper) : Prop :=
  ∀ (a : Act) (w : World), (∀ t, keepsB ops i t = true → a.tmps[t]? = a0.tmps[t]?) →
    (∀ j, (o.after.toList.any fun e => e.on == j && Region.binds .any e) = true → ∀ (o' : Oper), ops[j]? = some o' → ∀ (d : Nat), o'.dst = some d → ∃ v, a.tmps[d]? = some v ∧ S j w v) →
    if ch.contains i then ∀ j, ch[j]? = some i → J j w → Region.wanted o (yielded ops a.tmps) = true ∧ gives P o a w fun v w' => S i w' v ∧ J (j + 1) w' ∧ R w w'
    else ∀ j, j ≤ bd ops ch i → J j w → (Region.wanted o (yielded ops a.tmps) = true ∧ gives P o a w fun v w' => S i w v ∧ w' = w) ∨ (Region.wanted o (yielded ops a.tmps) = false ∧ S i w undef)

theorem wpAny_chainI (hok : regOk ops a0.tmps.size = true) (hup : ∀ i w w' v, S i w v → R w w' → S i w' v) (hcok : chainOk ops ch = true) (hstep : ∀ (i : Nat) (o : Oper), ops[i]? = some o → IPays P ops S J R ch a0 i o)
    (hend : ∀ (a : Act) (w : World), J ch.length w → a.defers = a0.defers → a.tmps.size = a0.tmps.size → (∀ (i : Nat) (o : Oper) (d : Nat), ops[i]? = some o → o.dst = some d → ∃ v, a.tmps[d]? = some v ∧ S i w v) →
      (∀ t, (∀ (i : Nat) (o : Oper), ops[i]? = some o → o.dst ≠ some t) → a.tmps[t]? = a0.tmps[t]?) → Q .normal a w) :
    ∀ (fuel : Nat) (listed : Array Bool) (a : Act) (w : World), IInv ops S J ch a0 listed a w → listed.toList.count true + fuel = ops.size → wpAny P .any ops Q fuel listed a w := by
  have getb : ∀ (l : Array Bool) (i : Nat) (b : Bool), l.getD i b = (l[i]?).getD b := fun l i b => by simp
  have allTrue : ∀ (l : Array Bool), l.toList.count true = l.size → ∀ i, i < l.size → l[i]? = some true := fun l h i hi => by
    have : ∀ x ∈ l.toList, true = x := by
      rw [← List.count_eq_length]; simpa using h
    rw [Array.getElem?_eq_getElem hi]
    congr 1
    exact (this _ (by simp)).symm
  have hlt : ∀ {i : Nat} {o : Oper}, ops[i]? = some o → i < ops.size := fun {i o} ho => by
    rcases Nat.lt_or_ge i ops.size with hlt | hge
    · exact hlt
    · rw [Array.getElem?_eq_none hge] at ho; cases ho
  have fin : ∀ (listed : Array Bool) (a : Act) (w : World), IInv ops S J ch a0 listed a w → (∀ i, i < ops.size → listed[i]? = some true) → Q .normal a w := by
    intro listed a w I h
    obtain ⟨j, hj, hw, hch⟩ := I.place
    have hjm : j = ch.length := by
      rcases Nat.lt_or_ge j ch.length with h1 | h1
      · have hk := List.getElem?_eq_getElem h1
        have := (hch j _ hk).1 (h _ (chainOk_at hcok hk).1)
        omega
      · omega
    subst hjm
    exact hend a w hw I.defers I.tmps (fun i o d ho hd => I.vals i o d ho (h i (hlt ho)) hd) (fun t ht => I.same t fun i o ho hd => absurd hd (ht i o ho))
  have step : ∀ (listed : Array Bool) (a : Act) (w : World) (i : Nat) (K : Act → World → Prop), IInv ops S J ch a0 listed a w → i ∈ Region.ready .any ops listed →
      (∀ a' w', IInv ops S J ch a0 (listed.setIfInBounds i true) a' w' → K a' w') → wpOp P ops Q i K a w := by
    intro listed a w i K I hr hK
    obtain ⟨hun, o, ho, hall⟩ := mem_ready.1 hr
    have hi : i < listed.size := by rw [I.size]; exact hlt ho
    have hfalse : listed[i]? = some false := by
      rw [getb, Array.getElem?_eq_getElem hi] at hun
      rw [Array.getElem?_eq_getElem hi]; simpa using hun
    have hpre : ∀ e ∈ o.after, Region.binds .any e = true → listed[e.on]? = some true := fun e he hb => by
      have h1 := hall e he hb
      rw [getb] at h1
      cases h2 : listed[e.on]? with
      | none => rw [h2] at h1; simp at h1
      | some b => rw [h2] at h1; simp at h1; rw [h1]
    have hset : ∀ (k : Nat), (listed.setIfInBounds i true)[k]? = if i = k then some true else listed[k]? := fun k => by
      rw [Array.getElem?_setIfInBounds]
      by_cases h : i = k
      · subst h; simp [hi]
      · simp [h]
    obtain ⟨j, hj, hw, hch⟩ := I.place
    have next : ∀ v j' w', S i w' v → J j' w' → (w' = w ∨ R w w') → (j' ≤ ch.length ∧ ∀ (t k : Nat), ch[t]? = some k → ((listed.setIfInBounds i true)[k]? = some true ↔ t < j')) → IInv ops S J ch a0 (listed.setIfInBounds i true) (a.put o.dst v) w' := by
      intro v j' w' hv hJ hR hpl
      refine ⟨by simpa using I.size, ?_, ?_, ?_, ?_, ?_, j', hpl.1, hJ, hpl.2⟩
      · cases hd : o.dst <;> simpa [Act.put] using I.defers
      · cases hd : o.dst <;> simpa [Act.put] using I.tmps
      · intro k ok hk hl e he hb
        rw [hset] at hl ⊢
        by_cases hki : i = k
        · subst hki
          rw [ho] at hk; cases hk
          split
          · rfl
          · exact hpre e he hb
        · rw [if_neg hki] at hl
          split
          · rfl
          · exact I.closed k ok hk hl e he hb
      · intro k ok d hk hl hd
        rw [hset] at hl
        by_cases hki : i = k
        · subst hki
          rw [ho] at hk; cases hk
          refine ⟨v, ?_, hv⟩
          rw [hd]
          have := regOk_lt hok ho hd
          simp only [Act.put, Array.getElem?_setIfInBounds]
          simp [I.tmps, this]
        · rw [if_neg hki] at hl
          obtain ⟨u, hu, hSu⟩ := I.vals k ok d hk hl hd
          refine ⟨u, ?_, by rcases hR with rfl | hR; exact hSu; exact hup _ _ _ _ hSu hR⟩
          cases hod : o.dst with
          | none => simpa [Act.put] using hu
          | some d' =>
            have hne : d' ≠ d := fun e => hki (regOk_one hok ho hk (by rw [hod, e]) hd)
            simp only [Act.put, Array.getElem?_setIfInBounds_ne hne]
            exact hu
      · intro t ht
        have hit : o.dst ≠ some t := fun hd => by
          have := ht i o ho hd
          rw [hset, if_pos rfl] at this; cases this
        have := I.same t fun k ok hk hd => by
          have h2 := ht k ok hk hd
          rw [hset] at h2
          split at h2
          · cases h2
          · exact h2
        rw [← this]
        cases hod : o.dst with
        | none => rfl
        | some d' =>
          have hne : d' ≠ t := fun e => hit (by rw [hod, e])
          simp only [Act.put, Array.getElem?_setIfInBounds_ne hne]
    have hs := hstep i o ho a w ?_ ?_
    · unfold wpOp
      simp only [ho]
      by_cases hc : ch.contains i = true
      · rw [if_pos hc] at hs
        have hpl : ∀ t, ch[t]? = some i → t = j := fun t ht => by
          have h1 : ¬ t < j := fun h => by
            have := (hch t i ht).2 h
            rw [hfalse] at this; cases this
          rcases Nat.eq_zero_or_pos t with h0 | h0
          · omega
          · obtain ⟨i', hi', hwt⟩ := (chainOk_at hcok ht).2 h0
            obtain ⟨o', ho', e, he, hb, hon⟩ := waits_edge hwt
            rw [ho] at ho'; cases ho'
            have h2 := hpre e he hb
            rw [hon] at h2
            have := (hch (t - 1) i' hi').1 h2
            omega
        obtain ⟨t, ht⟩ := List.getElem?_of_mem (List.contains_iff_mem.1 hc)
        obtain rfl := hpl t ht
        obtain ⟨hwn, hg⟩ := hs t ht hw
        rw [if_pos hwn]
        refine .inl (wp_of_gives hg fun v w' ⟨hv, hJ', hR'⟩ => ?_)
        refine hK _ _ (next v (t + 1) w' hv hJ' (.inr hR') ⟨(List.getElem?_eq_some_iff.1 ht).1, fun t' k hk => ?_⟩)
        rw [hset]
        by_cases hik : i = k
        · subst hik
          have := hpl t' hk
          rw [if_pos rfl]
          exact ⟨fun _ => by omega, fun _ => rfl⟩
        · rw [if_neg hik, hch t' k hk]
          refine ⟨fun h => by omega, fun h => ?_⟩
          rcases Nat.lt_or_ge t' t with h' | h'
          · exact h'
          · have : t' = t := by omega
            subst this
            rw [ht] at hk
            injection hk with hk
            exact absurd hk hik
      · rw [if_neg hc] at hs
        have hjb : j ≤ bd ops ch i := by
          rcases Nat.lt_or_ge (bd ops ch i) j with h | h
          · exfalso
            have hlen : bd ops ch i < ch.length := by omega
            have hwt : waits ops ch[bd ops ch i] i = true := List.findIdx_getElem (w := hlen)
            obtain ⟨o', ho', e, he, hb, hon⟩ := waits_edge hwt
            have hl := (hch _ _ (List.getElem?_eq_getElem hlen)).2 h
            have := I.closed _ o' ho' hl e he hb
            rw [hon, hfalse] at this; cases this
          · exact h
        have hpl : ∀ (t k : Nat), ch[t]? = some k → ((listed.setIfInBounds i true)[k]? = some true ↔ t < j) := fun t k hk => by
          have hik : i ≠ k := fun e => hc (List.contains_iff_mem.2 (by rw [e]; exact List.mem_of_getElem? hk))
          rw [hset, if_neg hik]
          exact hch t k hk
        rcases hs j hjb hw with ⟨hwn, hg⟩ | ⟨hwn, hv⟩
        · rw [if_pos hwn]
          refine .inl (wp_of_gives hg fun v w' ⟨hv, hw'⟩ => ?_)
          subst hw'
          exact hK _ _ (next v j _ hv hw (.inl rfl) ⟨hj, hpl⟩)
        · rw [if_neg (by rw [hwn]; exact Bool.false_ne_true)]
          exact hK _ _ (next _ j _ hv hw (.inl rfl) ⟨hj, hpl⟩)
    · intro t ht
      refine I.same t fun k ok hk hd => ?_
      simp only [keepsB, List.all_eq_true] at ht
      have hm : ok ∈ ops.toList := by simpa using Array.mem_of_getElem? hk
      have := ht ok hm
      simp only [hd, bne_self_eq_false, Bool.false_or, List.any_eq_true, Array.mem_toList_iff] at this
      obtain ⟨e, he, hb⟩ := this
      simp only [Bool.and_eq_true, beq_iff_eq] at hb
      have hkl : k < listed.size := by rw [I.size]; exact hlt hk
      cases hv : listed[k]? with
      | none => rw [Array.getElem?_eq_getElem hkl] at hv; cases hv
      | some b =>
        cases b with
        | false => rfl
        | true =>
          have := I.closed k ok hk hv e he hb.2
          rw [hb.1, hfalse] at this; cases this
    · intro j' hj' o' ho' d hd
      simp only [List.any_eq_true, Array.mem_toList_iff] at hj'
      obtain ⟨e, he, hb⟩ := hj'
      simp only [Bool.and_eq_true, beq_iff_eq] at hb
      obtain ⟨rfl, hb⟩ := hb
      exact I.vals e.on o' d ho' (hpre e he hb) hd
  have full : ∀ (listed : Array Bool) (a : Act) (w : World), IInv ops S J ch a0 listed a w → Region.ready .any ops listed = [] → ∀ i, i < ops.size → listed[i]? = some true := by
    intro listed a w I hr i
    induction i using Nat.strongRecOn with
    | ind i ih =>
      intro hi
      cases hv : listed[i]? with
      | none => rw [Array.getElem?_eq_none_iff, I.size] at hv; omega
      | some b =>
        cases b with
        | true => rfl
        | false =>
          exfalso
          have hmem : i ∈ Region.ready .any ops listed := by
            refine mem_ready.2 ⟨by rw [getb, hv]; rfl, ops[i], Array.getElem?_eq_getElem hi, fun e he hb => ?_⟩
            have hlt := regOk_back hok (Array.getElem?_eq_getElem hi) he hb
            rw [getb, ih e.on hlt (by omega)]; rfl
          rw [hr] at hmem; cases hmem
  intro fuel
  induction fuel with
  | zero =>
    intro listed a w I hc
    have hall := allTrue listed (by rw [I.size]; omega)
    rw [I.size] at hall
    refine ⟨?_, fin listed a w I hall⟩
    cases hr : Region.ready .any ops listed with
    | nil => rfl
    | cons i rest =>
      exfalso
      have hm : i ∈ Region.ready .any ops listed := by rw [hr]; simp
      obtain ⟨hun, o, ho, _⟩ := mem_ready.1 hm
      rw [getb, hall i (hlt ho)] at hun; cases hun
  | succ fuel ih =>
    intro listed a w I hc
    refine ⟨fun hr => fin listed a w I (full listed a w I hr), fun i hi => step listed a w i _ I hi fun a' w' I' => ih _ a' w' I' ?_⟩
    obtain ⟨hun, o, ho, _⟩ := mem_ready.1 hi
    have hlt := hlt ho
    rw [count_set (by rw [getb, Array.getElem?_eq_getElem (by rw [I.size]; exact hlt)] at hun; rw [Array.getElem?_eq_getElem (by rw [I.size]; exact hlt)]; simpa using hun)]
    omega
end


/-- THE REGION. -/
theorem wp_region_chainI {P : Program} {ops : List Oper} {Q : Exit → Act → World → Prop} {a0 : Act} {w0 : World} {id : Nat} (S : Nat → World → Value → Prop) (J : Nat → World → Prop) (R : World → World → Prop) (ch : List Nat) (hm : P.follows .mixedOrders = true)
    (hok : regOk ops.toArray a0.tmps.size = true) (hcok : chainOk ops.toArray ch = true) (hup : ∀ i w w' v, S i w v → R w w' → S i w' v) (hJ0 : J 0 w0.drew)
    (hstep : PaysFrom (IPays P ops.toArray S J R ch a0) 0 ops)
    (hend : ∀ (a : Act) (w : World), J ch.length w → a.defers = a0.defers → a.tmps.size = a0.tmps.size → (∀ (i : Nat) (o : Oper) (d : Nat), ops[i]? = some o → o.dst = some d → ∃ v, a.tmps[d]? = some v ∧ S i w v) →
      (∀ t, (∀ (i : Nat) (o : Oper), ops[i]? = some o → o.dst ≠ some t) → a.tmps[t]? = a0.tmps[t]?) → Q .normal a w) :
    (Code.region id ops.toArray true).wp P Q a0 w0 := by
  refine wp_region_any hm (wpAny_chainI (S := S) (J := J) (R := R) (ch := ch) (a0 := a0) hok hup hcok ?_ ?_ _ _ a0 _ ?_ ?_)
  · intro i o ho
    have h := paysFrom_all ops 0 hstep i o (by simpa using ho)
    rwa [Nat.zero_add] at h
  · intro a w hJ hd hs hv hsame
    exact hend a w hJ hd hs (fun i o d ho hod => hv i o d (by simpa using ho) hod) (fun t ht => hsame t fun i o ho hod => ht i o (by simpa using ho) hod)
  · refine ⟨by simp, rfl, rfl, ?_, ?_, fun _ _ => rfl, 0, Nat.zero_le _, hJ0, ?_⟩
    · intro i o ho hl
      rw [Array.getElem?_replicate] at hl
      split at hl <;> simp at hl
    · intro i o d ho hl
      rw [Array.getElem?_replicate] at hl
      split at hl <;> simp at hl
    · intro t k _
      rw [Array.getElem?_replicate]
      split <;> simp
  · have : (Array.replicate ops.toArray.size false).toList.count true = 0 := by simp [List.count_replicate]
    omega
end Go.Proofs.Ytmabminjmcjafaa
