/-
  A REGION THAT DRAWS ITS ORDER AND WHOSE LAST OPERATION (a store, a copy) WAITS FOR ALL THE OTHERS: all but the last only make memory or read; the last may write.
-/
import Derived.Test.YtmabminjmcjafaaGrow
namespace Go.Proofs.Ytmabminjmcjafaa
open Go.RowKit

/-- Operation k waits, directly, for every other. -/
def lastOk (ops : Array Oper) (k : Nat) : Bool :=
  match ops[k]? with
  | some o => (List.range ops.size).all fun i => i == k || o.after.toList.any fun e => e.on == i && Region.binds .any e
  | none => false
theorem lastOk_edge {ops : Array Oper} {k : Nat} {last : Oper} (h : lastOk ops k = true) (hk : ops[k]? = some last) {i : Nat} (hi : i < ops.size) (hne : i ≠ k) : ∃ e ∈ last.after, Region.binds .any e = true ∧ e.on = i := by
  unfold lastOk at h
  rw [hk] at h
  simp only [List.all_eq_true, List.mem_range] at h
  have := h i hi
  simp only [Bool.or_eq_true, beq_iff_eq, hne, false_or, List.any_eq_true, Array.mem_toList_iff, Bool.and_eq_true] at this
  obtain ⟨e, he, h1, h2⟩ := this
  exact ⟨e, he, h2, h1⟩

section
variable {P : Program} {ops : Array Oper} {Q : Exit → Act → World → Prop} {S : Nat → World → Value → Prop} {a0 : Act} {w0 : World} {B : Nat}
theorem wpAny_last {k : Nat} {last : Oper} (hk : ops[k]? = some last) (hlast : lastOk ops k = true) (hok : regOk ops a0.tmps.size = true) (hup : ∀ i w w' v, S i w v → Grw B w w' → S i w' v)
    (hstep : ∀ (i : Nat) (o : Oper), i ≠ k → ops[i]? = some o → StepOk B P ops S a0 w0 i o)
    (hend : ∀ (a : Act) (w : World), Grw B w0 w → a.defers = a0.defers → a.tmps.size = a0.tmps.size → (∀ (i : Nat) (o : Oper) (d : Nat), i ≠ k → ops[i]? = some o → o.dst = some d → ∃ v, a.tmps[d]? = some v ∧ S i w v) →
      (∀ t, (∀ (i : Nat) (o : Oper), i ≠ k → ops[i]? = some o → o.dst ≠ some t) → a.tmps[t]? = a0.tmps[t]?) → Region.wanted last (yielded ops a.tmps) = true ∧ gives P last a w fun v w' => Q .normal (a.put last.dst v) w') :
    ∀ (fuel : Nat) (listed : Array Bool) (a : Act) (w : World), RInv B ops S a0 w0 listed a w → listed[k]? = some false → listed.toList.count true + fuel = ops.size → wpAny P .any ops Q fuel listed a w := by
  have getb : ∀ (l : Array Bool) (i : Nat) (b : Bool), l.getD i b = (l[i]?).getD b := fun l i b => by simp
  have allTrue : ∀ (l : Array Bool), l.toList.count true = l.size → ∀ i, i < l.size → l[i]? = some true := fun l h i hi => by
    have : ∀ x ∈ l.toList, true = x := by
      rw [← List.count_eq_length]; simpa using h
    rw [Array.getElem?_eq_getElem hi]
    congr 1
    exact (this _ (by simp)).symm
  have hklt : k < ops.size := by
    rcases Nat.lt_or_ge k ops.size with hlt | hge
    · exact hlt
    · rw [Array.getElem?_eq_none hge] at hk; cases hk
  have step : ∀ (listed : Array Bool) (a : Act) (w : World) (i : Nat) (K : Act → World → Prop), i ≠ k → RInv B ops S a0 w0 listed a w → i ∈ Region.ready .any ops listed →
      (∀ a' w', RInv B ops S a0 w0 (listed.setIfInBounds i true) a' w' → K a' w') → wpOp P ops Q i K a w := by
    intro listed a w i K hik I hr hK
    obtain ⟨hun, o, ho, hall⟩ := mem_ready.1 hr
    have hi : i < listed.size := by
      rw [I.size]
      rcases Nat.lt_or_ge i ops.size with hlt | hge
      · exact hlt
      · rw [Array.getElem?_eq_none hge] at ho; cases ho
    have hfalse : listed[i]? = some false := by
      rw [getb, Array.getElem?_eq_getElem hi] at hun
      rw [Array.getElem?_eq_getElem hi]; simpa using hun
    have hpre : ∀ e ∈ o.after, Region.binds .any e = true → listed[e.on]? = some true := fun e he hb => by
      have h1 := hall e he hb
      rw [getb] at h1
      cases h2 : listed[e.on]? with
      | none => rw [h2] at h1; simp at h1
      | some b => rw [h2] at h1; simp at h1; rw [h1]
    have hset : ∀ (k : Nat), (listed.setIfInBounds i true)[k]? = if i = k then some true else listed[k]? := fun k => by
      rw [Array.getElem?_setIfInBounds]
      by_cases h : i = k
      · subst h; simp [hi]
      · simp [h]
    have next : ∀ v w', Grw B w w' → S i w' v → RInv B ops S a0 w0 (listed.setIfInBounds i true) (a.put o.dst v) w' := by
      intro v w' hx hS
      refine ⟨by simpa using I.size, I.ext.trans hx, ?_, ?_, ?_, ?_, ?_⟩
      · cases hd : o.dst <;> simpa [Act.put] using I.defers
      · cases hd : o.dst <;> simpa [Act.put] using I.tmps
      · intro k ok hk hl e he hb
        rw [hset] at hl ⊢
        by_cases hki : i = k
        · subst hki
          rw [ho] at hk; cases hk
          split
          · rfl
          · exact hpre e he hb
        · rw [if_neg hki] at hl
          split
          · rfl
          · exact I.closed k ok hk hl e he hb
      · intro k ok d hk hl hd
        rw [hset] at hl
        by_cases hki : i = k
        · subst hki
          rw [ho] at hk; cases hk
          refine ⟨v, ?_, hS⟩
          rw [hd]
          have := regOk_lt hok ho hd
          simp only [Act.put, Array.getElem?_setIfInBounds]
          simp [I.tmps, this]
        · rw [if_neg hki] at hl
          obtain ⟨u, hu, hSu⟩ := I.vals k ok d hk hl hd
          refine ⟨u, ?_, hup _ _ _ _ hSu hx⟩
          cases hod : o.dst with
          | none => simpa [Act.put] using hu
          | some d' =>
            have hne : d' ≠ d := fun e => hki (regOk_one hok ho hk (by rw [hod, e]) hd)
            simp only [Act.put, Array.getElem?_setIfInBounds_ne hne]
            exact hu
      · intro t ht
        have hit : o.dst ≠ some t := fun hd => by
          have := ht i o ho hd
          rw [hset, if_pos rfl] at this; cases this
        have := I.same t fun k ok hk hd => by
          have h2 := ht k ok hk hd
          rw [hset] at h2
          split at h2
          · cases h2
          · exact h2
        rw [← this]
        cases hod : o.dst with
        | none => rfl
        | some d' =>
          have hne : d' ≠ t := fun e => hit (by rw [hod, e])
          simp only [Act.put, Array.getElem?_setIfInBounds_ne hne]
    have hs := hstep i o hik ho a w I.ext I.defers ?_ ?_
    · unfold wpOp
      simp only [ho]
      rcases hs with ⟨hw, hg⟩ | ⟨hw, hS⟩
      · rw [if_pos hw]
        exact .inl (wp_of_gives hg fun v w' ⟨hx, hS⟩ => hK _ _ (next v w' hx hS))
      · rw [if_neg (by rw [hw]; exact Bool.false_ne_true)]
        exact hK _ _ (next _ _ (Grw.refl _ _) hS)
    · intro t ht
      refine I.same t fun k ok hk hd => ?_
      simp only [keepsB, List.all_eq_true] at ht
      have hm : ok ∈ ops.toList := by simpa using Array.mem_of_getElem? hk
      have := ht ok hm
      simp only [hd, bne_self_eq_false, Bool.false_or, List.any_eq_true, Array.mem_toList_iff] at this
      obtain ⟨e, he, hb⟩ := this
      simp only [Bool.and_eq_true, beq_iff_eq] at hb
      have hkl : k < listed.size := by
        rw [I.size]
        rcases Nat.lt_or_ge k ops.size with hlt | hge
        · exact hlt
        · rw [Array.getElem?_eq_none hge] at hk; cases hk
      cases hv : listed[k]? with
      | none => rw [Array.getElem?_eq_getElem hkl] at hv; cases hv
      | some b =>
        cases b with
        | false => rfl
        | true =>
          have := I.closed k ok hk hv e he hb.2
          rw [hb.1, hfalse] at this; cases this
    · intro e he hb o' ho' d hd
      exact I.vals e.on o' d ho' (hpre e he hb) hd
  have full : ∀ (listed : Array Bool) (a : Act) (w : World), RInv B ops S a0 w0 listed a w → Region.ready .any ops listed = [] → ∀ i, i < ops.size → listed[i]? = some true := by
    intro listed a w I hr i
    induction i using Nat.strongRecOn with
    | ind i ih =>
      intro hi
      cases hv : listed[i]? with
      | none => rw [Array.getElem?_eq_none_iff, I.size] at hv; omega
      | some b =>
        cases b with
        | true => rfl
        | false =>
          exfalso
          have hmem : i ∈ Region.ready .any ops listed := by
            refine mem_ready.2 ⟨by rw [getb, hv]; rfl, ops[i], Array.getElem?_eq_getElem hi, fun e he hb => ?_⟩
            have hlt := regOk_back hok (Array.getElem?_eq_getElem hi) he hb
            rw [getb, ih e.on hlt (by omega)]; rfl
          rw [hr] at hmem; cases hmem
  have step_k : ∀ (listed : Array Bool) (a : Act) (w : World) (K : Act → World → Prop), RInv B ops S a0 w0 listed a w → listed[k]? = some false → k ∈ Region.ready .any ops listed →
      (∀ i, i < ops.size → i ≠ k → listed[i]? = some true) ∧ ((∀ v w', Q .normal (a.put last.dst v) w' → K (a.put last.dst v) w') → wpOp P ops Q k K a w) := by
    intro listed a w K I hkf hr
    obtain ⟨hun, o, ho, hall⟩ := mem_ready.1 hr
    rw [hk] at ho
    cases ho
    have hothers : ∀ i, i < ops.size → i ≠ k → listed[i]? = some true := by
      intro i hi hne
      have h1 := lastOk_edge hlast hk hi hne
      obtain ⟨e, he, hb, rfl⟩ := h1
      have h2 := hall e he hb
      rw [getb] at h2
      cases h3 : listed[e.on]? with
      | none => rw [h3] at h2; simp at h2
      | some b => rw [h3] at h2; simp at h2; rw [h2]
    refine ⟨hothers, fun hK => ?_⟩
    have hlt : ∀ {i : Nat} {o : Oper}, ops[i]? = some o → i < ops.size := fun {i o} ho => by
      rcases Nat.lt_or_ge i ops.size with hlt | hge
      · exact hlt
      · rw [Array.getElem?_eq_none hge] at ho; cases ho
    obtain ⟨hw, hg⟩ := hend a w I.ext I.defers I.tmps (fun i o d hne ho hd => I.vals i o d ho (hothers i (hlt ho) hne) hd) (fun t ht => I.same t fun i o ho hd => by
      by_cases hne : i = k
      · subst hne; exact hkf
      · exact absurd hd (ht i o hne ho))
    unfold wpOp
    simp only [hk]
    rw [if_pos hw]
    exact .inl (wp_of_gives hg fun v w' h => hK v w' h)
  intro fuel
  induction fuel with
  | zero =>
    intro listed a w I hkf hc
    have hall := allTrue listed (by rw [I.size]; omega)
    rw [I.size] at hall
    rw [hall k hklt] at hkf
    cases hkf
  | succ fuel ih =>
    intro listed a w I hkf hc
    refine ⟨fun hr => ?_, fun i hi => ?_⟩
    · have := full listed a w I hr k hklt
      rw [hkf] at this; cases this
    · have hcount : ∀ (l : Array Bool), True := fun _ => trivial
      obtain ⟨hun, o, ho, _⟩ := mem_ready.1 hi
      have hlt : i < listed.size := by
        rw [I.size]
        rcases Nat.lt_or_ge i ops.size with hlt | hge
        · exact hlt
        · rw [Array.getElem?_eq_none hge] at ho; cases ho
      have hif : listed[i]? = some false := by rw [getb, Array.getElem?_eq_getElem hlt] at hun; rw [Array.getElem?_eq_getElem hlt]; simpa using hun
      have hcs := count_set hif
      by_cases hik : i = k
      · subst hik
        rw [hk] at ho
        cases ho
        have hothers := (step_k listed a w (fun _ _ => True) I hkf hi).1
        refine (step_k listed a w _ I hkf hi).2 fun v w' hQ => ?_
        have hall2 : ∀ j, j < ops.size → (listed.setIfInBounds i true)[j]? = some true := fun j hj => by
          rw [Array.getElem?_setIfInBounds]
          by_cases h : i = j
          · subst h; simp [hlt]
          · simp only [h, if_false]; exact hothers j hj (fun e => h e.symm)
        have hfu : fuel = 0 := by
          have : (listed.setIfInBounds i true).toList.count true = ops.size := by
            have hsz : (listed.setIfInBounds i true).toList.length = ops.size := by simpa using I.size
            rw [← hsz, List.count_eq_length]
            intro x hx
            obtain ⟨j, hj, rfl⟩ := List.mem_iff_getElem.1 hx
            have h1 := hall2 j (by rw [← hsz]; exact hj)
            rw [Array.getElem?_eq_getElem (by simpa using hj)] at h1
            simp only [Option.some.injEq] at h1
            rw [Array.getElem_toList]
            exact h1.symm
          omega
        subst hfu
        refine ⟨?_, hQ⟩
        cases hr : Region.ready .any ops (listed.setIfInBounds i true) with
        | nil => rfl
        | cons j rest =>
          exfalso
          have hm : j ∈ Region.ready .any ops (listed.setIfInBounds i true) := by rw [hr]; simp
          obtain ⟨hun2, o2, ho2, _⟩ := mem_ready.1 hm
          have hj2 : j < ops.size := by
            rcases Nat.lt_or_ge j ops.size with hlt | hge
            · exact hlt
            · rw [Array.getElem?_eq_none hge] at ho2; cases ho2
          rw [getb, hall2 j hj2] at hun2; cases hun2
      · refine step listed a w i _ hik I hi fun a' w' I' => ih _ a' w' I' ?_ (by omega)
        rw [Array.getElem?_setIfInBounds]
        simp only [hik, if_false]
        exact hkf

end

/-- THE REGION, its last operation at place k. -/
theorem wp_region_last {B : Nat} {P : Program} {ops : List Oper} {Q : Exit → Act → World → Prop} {a0 : Act} {w0 : World} {id : Nat} (hB : B ≤ w0.heap.size) (L : List Sp) (k : Nat) (last : Oper) (hk : ops.toArray[k]? = some last) (hlast : lastOk ops.toArray k = true)
    (hm : P.follows .mixedOrders = true) (hok : regOk ops.toArray a0.tmps.size = true)
    (hstep : PaysFrom (fun i o => i = k ∨ Pays B P ops.toArray L a0 w0 i o) 0 ops)
    (hend : ∀ (a : Act) (w : World), Grw B w0 w → a.defers = a0.defers → a.tmps.size = a0.tmps.size → (∀ (i : Nat) (o : Oper) (d : Nat), i ≠ k → ops.toArray[i]? = some o → o.dst = some d → ∃ v, a.tmps[d]? = some v ∧ (L.getD i Sp.any).p w v) →
      (∀ t, (∀ (i : Nat) (o : Oper), i ≠ k → ops.toArray[i]? = some o → o.dst ≠ some t) → a.tmps[t]? = a0.tmps[t]?) → Region.wanted last (yielded ops.toArray a.tmps) = true ∧ gives P last a w fun v w' => Q .normal (a.put last.dst v) w') :
    (Code.region id ops.toArray true).wp P Q a0 w0 := by
  refine wp_region_any hm (wpAny_last (S := fun i => (L.getD i Sp.any).p) (w0 := w0) (a0 := a0) (B := B) hk hlast hok (fun i w w' v h hx => (L.getD i Sp.any).up w w' v h hx.keeps) ?_ hend _ _ a0 _ ?_ ?_ ?_)
  · intro i o hne ho a w hx hd hk' H
    have h := paysFrom_all ops 0 hstep i o (by simpa using ho)
    rw [Nat.zero_add] at h
    rcases h with h | h
    · exact absurd h hne
    refine h a w hx (Nat.le_trans hB hx.size) hk' fun j hj o' ho' d hd' => ?_
    simp only [List.any_eq_true, Array.mem_toList_iff] at hj
    obtain ⟨e, he, hb⟩ := hj
    simp only [Bool.and_eq_true, beq_iff_eq] at hb
    obtain ⟨rfl, hb⟩ := hb
    exact H e he hb o' ho' d hd'
  · refine ⟨by simp, Grw.drewn _ _ _, rfl, rfl, ?_, ?_, fun _ _ => rfl⟩
    · intro i o ho hl
      rw [Array.getElem?_replicate] at hl
      split at hl <;> simp at hl
    · intro i o d ho hl
      rw [Array.getElem?_replicate] at hl
      split at hl <;> simp at hl
  · have hklt : k < ops.toArray.size := by
      rcases Nat.lt_or_ge k ops.toArray.size with hlt | hge
      · exact hlt
      · rw [Array.getElem?_eq_none hge] at hk; cases hk
    rw [Array.getElem?_replicate, if_pos hklt]
  · have : (Array.replicate ops.toArray.size false).toList.count true = 0 := by simp [List.count_replicate]
    omega

/-- A frame, told slot by slot. -/
theorem tmps_sets {t : Array Value} : ∀ (ps : List (Nat × Value)) (a0 : Array Value), t.size = a0.size → (∀ p ∈ ps, t[p.1]? = some p.2) → (∀ i, (∀ p ∈ ps, p.1 ≠ i) → t[i]? = a0[i]?) → t = ps.foldl (fun t p => t.setIfInBounds p.1 p.2) a0
  | [], a0, hs, _, h => Array.ext_getElem? (fun i => h i (fun _ h => by cases h))
  | p :: ps, a0, hs, hp, h => by
    refine tmps_sets ps (a0.setIfInBounds p.1 p.2) (by simpa using hs) (fun q hq => hp q (List.mem_cons_of_mem _ hq)) (fun i hi => ?_)
    rw [Array.getElem?_setIfInBounds]
    by_cases he : p.1 = i
    · subst he
      have h1 := hp p (List.mem_cons_self)
      have hlt : p.1 < t.size := by
        rcases Nat.lt_or_ge p.1 t.size with h' | h'
        · exact h'
        · rw [Array.getElem?_eq_none h'] at h1; cases h1
      rw [if_pos rfl, if_pos (by omega), h1]
    · rw [if_neg he]
      exact h i (fun q hq => by
        rcases List.mem_cons.1 hq with rfl | hq
        · exact he
        · exact hi q hq)
/-- The slots that the operations other than k write are these. -/
def dstsIn (ops : List Oper) (k : Nat) (ds : List Nat) : Bool := ops.zipIdx.all fun x => x.2 == k || (match x.1.dst with | some d => ds.contains d | none => true)
theorem frame_last {ops : List Oper} {k : Nat} {a0 t : Array Value} (ps : List (Nat × Value)) (hs : t.size = a0.size) (hd : dstsIn ops k (ps.map (·.1)) = true) (hp : ∀ p ∈ ps, t[p.1]? = some p.2)
    (hsame : ∀ t', (∀ (i : Nat) (o : Oper), i ≠ k → ops.toArray[i]? = some o → o.dst ≠ some t') → t[t']? = a0[t']?) : t = ps.foldl (fun t p => t.setIfInBounds p.1 p.2) a0 := by
  refine tmps_sets ps a0 hs hp fun i hi => hsame i fun j o hj ho hdst => ?_
  have hm : (o, j) ∈ ops.zipIdx := by rw [List.mem_zipIdx_iff_getElem?]; simpa using ho
  have := List.all_eq_true.1 hd (o, j) hm
  simp only [hdst, Bool.or_eq_true, beq_iff_eq, hj, false_or, List.contains_iff_mem] at this
  obtain ⟨p, hp1, hp2⟩ := List.mem_map.1 this
  exact hi p hp1 hp2
end Go.Proofs.Ytmabminjmcjafaa
