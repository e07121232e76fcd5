/-
  A REGION THAT DRAWS ITS ORDER AND WHOSE LAST OPERATION (a store, a copy) WAITS FOR ALL THE OTHERS: all but the last only make memory or read; the last may write.
  A region that draws its order, whose operations on memory lie in one forced chain: whatever the order, it comes to one frame and one world.
  A block of bytes that the call itself made and writes into in place.
  More of what single operations give in a region that draws its order.
  A block of cells that the call itself made: read and written whole and cell by cell; words in such a block.
  A disk: plain, and how it lies in memory; arrays and structs within a block, read and written whole.
  The disk's small functions: contracts.
  The disk's Read: contract.
-/
import Derived.Laws.CopyOwn
import Derived.WalkLawsBesides
import Derived.Deep.WholeRow
import Derived.Deep.Cut
import Derived.Deep.CutRange
import Derived.Test.YtnkcneccolbbdaaGreatDoorPkPlAl0
set_option linter.unusedVariables false
set_option linter.unusedSimpArgs false

namespace Go.Proofs.YtnkcneccolbbdaaGreatDoor
open Go.RowKit

/-- Operation k waits, directly, for every other. -/
def lastOk (ops : Array Oper) (k : Nat) : Bool :=
  match ops[k]? with
  | some o => (List.range ops.size).all fun i => i == k || o.after.toList.any fun e => e.on == i && Region.binds .any e
  | none => false
theorem lastOk_edge {ops : Array Oper} {k : Nat} {last : Oper} (h : lastOk ops k = true) (hk : ops[k]? = some last) {i : Nat} (hi : i < ops.size) (hne : i ≠ k) : ∃ e ∈ last.after, Region.binds .any e = true ∧ e.on = i := by
  unfold lastOk at h
  rw [hk] at h
  simp only [List.all_eq_true, List.mem_range] at h
  have := h i hi
  simp only [Bool.or_eq_true, beq_iff_eq, hne, false_or, List.any_eq_true, Array.mem_toList_iff, Bool.and_eq_true] at this
  obtain ⟨e, he, h1, h2⟩ := this
  exact ⟨e, he, h2, h1⟩

section
variable {P : Program} {ops : Array Oper} {Q : Exit → Act → World → Prop} {S : Nat → World → Value → Prop} {a0 : Act} {w0 : World} {B : Nat}
theorem wpAny_last {k : Nat} {last : Oper} (hk : ops[k]? = some last) (hlast : lastOk ops k = true) (hok : regOk ops a0.tmps.size = true) (hup : ∀ i w w' v, S i w v → Grw B w w' → S i w' v)
    (hstep : ∀ (i : Nat) (o : Oper), i ≠ k → ops[i]? = some o → StepOk B P ops S a0 w0 i o)
    (hend : ∀ (a : Act) (w : World), Grw B w0 w → a.defers = a0.defers → a.tmps.size = a0.tmps.size → (∀ (i : Nat) (o : Oper) (d : Nat), i ≠ k → ops[i]? = some o → o.dst = some d → ∃ v, a.tmps[d]? = some v ∧ S i w v) →
      (∀ t, (∀ (i : Nat) (o : Oper), i ≠ k → ops[i]? = some o → o.dst ≠ some t) → a.tmps[t]? = a0.tmps[t]?) → Region.wanted last (yielded ops a.tmps) = true ∧ gives P last a w fun v w' => Q .normal (a.put last.dst v) w') :
    ∀ (fuel : Nat) (listed : Array Bool) (a : Act) (w : World), RInv B ops S a0 w0 listed a w → listed[k]? = some false → listed.toList.count true + fuel = ops.size → wpAny P .any ops Q fuel listed a w := by
  have getb : ∀ (l : Array Bool) (i : Nat) (b : Bool), l.getD i b = (l[i]?).getD b := fun l i b => by simp
  have allTrue : ∀ (l : Array Bool), l.toList.count true = l.size → ∀ i, i < l.size → l[i]? = some true := fun l h i hi => by
    have : ∀ x ∈ l.toList, true = x := by
      rw [← List.count_eq_length]; simpa using h
    rw [Array.getElem?_eq_getElem hi]
    congr 1
    exact (this _ (by simp)).symm
  have hklt : k < ops.size := by
    rcases Nat.lt_or_ge k ops.size with hlt | hge
    · exact hlt
    · rw [Array.getElem?_eq_none hge] at hk; cases hk
  have step : ∀ (listed : Array Bool) (a : Act) (w : World) (i : Nat) (K : Act → World → Prop), i ≠ k → RInv B ops S a0 w0 listed a w → i ∈ Region.ready .any ops listed →
      (∀ a' w', RInv B ops S a0 w0 (listed.setIfInBounds i true) a' w' → K a' w') → wpOp P ops Q i K a w := by
    intro listed a w i K hik I hr hK
    obtain ⟨hun, o, ho, hall⟩ := mem_ready.1 hr
    have hi : i < listed.size := by
      rw [I.size]
      rcases Nat.lt_or_ge i ops.size with hlt | hge
      · exact hlt
      · rw [Array.getElem?_eq_none hge] at ho; cases ho
    have hfalse : listed[i]? = some false := by
      rw [getb, Array.getElem?_eq_getElem hi] at hun
      rw [Array.getElem?_eq_getElem hi]; simpa using hun
    have hpre : ∀ e ∈ o.after, Region.binds .any e = true → listed[e.on]? = some true := fun e he hb => by
      have h1 := hall e he hb
      rw [getb] at h1
      cases h2 : listed[e.on]? with
      | none => rw [h2] at h1; simp at h1
      | some b => rw [h2] at h1; simp at h1; rw [h1]
    have hset : ∀ (k : Nat), (listed.setIfInBounds i true)[k]? = if i = k then some true else listed[k]? := fun k => by
      rw [Array.getElem?_setIfInBounds]
      by_cases h : i = k
      · subst h; simp [hi]
      · simp [h]
    have next : ∀ v w', Grw B w w' → S i w' v → RInv B ops S a0 w0 (listed.setIfInBounds i true) (a.put o.dst v) w' := by
      intro v w' hx hS
      refine ⟨by simpa using I.size, I.ext.trans hx, ?_, ?_, ?_, ?_, ?_⟩
      · cases hd : o.dst <;> simpa [Act.put] using I.defers
      · cases hd : o.dst <;> simpa [Act.put] using I.tmps
      · intro k ok hk hl e he hb
        rw [hset] at hl ⊢
        by_cases hki : i = k
        · subst hki
          rw [ho] at hk; cases hk
          split
          · rfl
          · exact hpre e he hb
        · rw [if_neg hki] at hl
          split
          · rfl
          · exact I.closed k ok hk hl e he hb
      · intro k ok d hk hl hd
        rw [hset] at hl
        by_cases hki : i = k
        · subst hki
          rw [ho] at hk; cases hk
          refine ⟨v, ?_, hS⟩
          rw [hd]
          have := regOk_lt hok ho hd
          simp only [Act.put, Array.getElem?_setIfInBounds]
          simp [I.tmps, this]
        · rw [if_neg hki] at hl
          obtain ⟨u, hu, hSu⟩ := I.vals k ok d hk hl hd
          refine ⟨u, ?_, hup _ _ _ _ hSu hx⟩
          cases hod : o.dst with
          | none => simpa [Act.put] using hu
          | some d' =>
            have hne : d' ≠ d := fun e => hki (regOk_one hok ho hk (by rw [hod, e]) hd)
            simp only [Act.put, Array.getElem?_setIfInBounds_ne hne]
            exact hu
      · intro t ht
        have hit : o.dst ≠ some t := fun hd => by
          have := ht i o ho hd
          rw [hset, if_pos rfl] at this; cases this
        have := I.same t fun k ok hk hd => by
          have h2 := ht k ok hk hd
          rw [hset] at h2
          split at h2
          · cases h2
          · exact h2
        rw [← this]
        cases hod : o.dst with
        | none => rfl
        | some d' =>
          have hne : d' ≠ t := fun e => hit (by rw [hod, e])
          simp only [Act.put, Array.getElem?_setIfInBounds_ne hne]
    have hs := hstep i o hik ho a w I.ext I.defers ?_ ?_
    · unfold wpOp
      simp only [ho]
      rcases hs with ⟨hw, hg⟩ | ⟨hw, hS⟩
      · rw [if_pos hw]
        exact .inl (wp_of_gives hg fun v w' ⟨hx, hS⟩ => hK _ _ (next v w' hx hS))
      · rw [if_neg (by rw [hw]; exact Bool.false_ne_true)]
        exact hK _ _ (next _ _ (Grw.refl _ _) hS)
    · intro t ht
      refine I.same t fun k ok hk hd => ?_
      simp only [keepsB, List.all_eq_true] at ht
      have hm : ok ∈ ops.toList := by simpa using Array.mem_of_getElem? hk
      have := ht ok hm
      simp only [hd, bne_self_eq_false, Bool.false_or, List.any_eq_true, Array.mem_toList_iff] at this
      obtain ⟨e, he, hb⟩ := this
      simp only [Bool.and_eq_true, beq_iff_eq] at hb
      have hkl : k < listed.size := by
        rw [I.size]
        rcases Nat.lt_or_ge k ops.size with hlt | hge
        · exact hlt
        · rw [Array.getElem?_eq_none hge] at hk; cases hk
      cases hv : listed[k]? with
      | none => rw [Array.getElem?_eq_getElem hkl] at hv; cases hv
      | some b =>
        cases b with
        | false => rfl
        | true =>
          have := I.closed k ok hk hv e he hb.2
          rw [hb.1, hfalse] at this; cases this
    · intro e he hb o' ho' d hd
      exact I.vals e.on o' d ho' (hpre e he hb) hd
  have full : ∀ (listed : Array Bool) (a : Act) (w : World), RInv B ops S a0 w0 listed a w → Region.ready .any ops listed = [] → ∀ i, i < ops.size → listed[i]? = some true := by
    intro listed a w I hr i
    induction i using Nat.strongRecOn with
    | ind i ih =>
      intro hi
      cases hv : listed[i]? with
      | none => rw [Array.getElem?_eq_none_iff, I.size] at hv; omega
      | some b =>
        cases b with
        | true => rfl
        | false =>
          exfalso
          have hmem : i ∈ Region.ready .any ops listed := by
            refine mem_ready.2 ⟨by rw [getb, hv]; rfl, ops[i], Array.getElem?_eq_getElem hi, fun e he hb => ?_⟩
            have hlt := regOk_back hok (Array.getElem?_eq_getElem hi) he hb
            rw [getb, ih e.on hlt (by omega)]; rfl
          rw [hr] at hmem; cases hmem
  have step_k : ∀ (listed : Array Bool) (a : Act) (w : World) (K : Act → World → Prop), RInv B ops S a0 w0 listed a w → listed[k]? = some false → k ∈ Region.ready .any ops listed →
      (∀ i, i < ops.size → i ≠ k → listed[i]? = some true) ∧ ((∀ v w', Q .normal (a.put last.dst v) w' → K (a.put last.dst v) w') → wpOp P ops Q k K a w) := by
    intro listed a w K I hkf hr
    obtain ⟨hun, o, ho, hall⟩ := mem_ready.1 hr
    rw [hk] at ho
    cases ho
    have hothers : ∀ i, i < ops.size → i ≠ k → listed[i]? = some true := by
      intro i hi hne
      have h1 := lastOk_edge hlast hk hi hne
      obtain ⟨e, he, hb, rfl⟩ := h1
      have h2 := hall e he hb
      rw [getb] at h2
      cases h3 : listed[e.on]? with
      | none => rw [h3] at h2; simp at h2
      | some b => rw [h3] at h2; simp at h2; rw [h2]
    refine ⟨hothers, fun hK => ?_⟩
    have hlt : ∀ {i : Nat} {o : Oper}, ops[i]? = some o → i < ops.size := fun {i o} ho => by
      rcases Nat.lt_or_ge i ops.size with hlt | hge
      · exact hlt
      · rw [Array.getElem?_eq_none hge] at ho; cases ho
    obtain ⟨hw, hg⟩ := hend a w I.ext I.defers I.tmps (fun i o d hne ho hd => I.vals i o d ho (hothers i (hlt ho) hne) hd) (fun t ht => I.same t fun i o ho hd => by
      by_cases hne : i = k
      · subst hne; exact hkf
      · exact absurd hd (ht i o hne ho))
    unfold wpOp
    simp only [hk]
    rw [if_pos hw]
    exact .inl (wp_of_gives hg fun v w' h => hK v w' h)
  intro fuel
  induction fuel with
  | zero =>
    intro listed a w I hkf hc
    have hall := allTrue listed (by rw [I.size]; omega)
    rw [I.size] at hall
    rw [hall k hklt] at hkf
    cases hkf
  | succ fuel ih =>
    intro listed a w I hkf hc
    refine ⟨fun hr => ?_, fun i hi => ?_⟩
    · have := full listed a w I hr k hklt
      rw [hkf] at this; cases this
    · have hcount : ∀ (l : Array Bool), True := fun _ => trivial
      obtain ⟨hun, o, ho, _⟩ := mem_ready.1 hi
      have hlt : i < listed.size := by
        rw [I.size]
        rcases Nat.lt_or_ge i ops.size with hlt | hge
        · exact hlt
        · rw [Array.getElem?_eq_none hge] at ho; cases ho
      have hif : listed[i]? = some false := by rw [getb, Array.getElem?_eq_getElem hlt] at hun; rw [Array.getElem?_eq_getElem hlt]; simpa using hun
      have hcs := count_set hif
      by_cases hik : i = k
      · subst hik
        rw [hk] at ho
        cases ho
        have hothers := (step_k listed a w (fun _ _ => True) I hkf hi).1
        refine (step_k listed a w _ I hkf hi).2 fun v w' hQ => ?_
        have hall2 : ∀ j, j < ops.size → (listed.setIfInBounds i true)[j]? = some true := fun j hj => by
          rw [Array.getElem?_setIfInBounds]
          by_cases h : i = j
          · subst h; simp [hlt]
          · simp only [h, if_false]; exact hothers j hj (fun e => h e.symm)
        have hfu : fuel = 0 := by
          have : (listed.setIfInBounds i true).toList.count true = ops.size := by
            have hsz : (listed.setIfInBounds i true).toList.length = ops.size := by simpa using I.size
            rw [← hsz, List.count_eq_length]
            intro x hx
            obtain ⟨j, hj, rfl⟩ := List.mem_iff_getElem.1 hx
            have h1 := hall2 j (by rw [← hsz]; exact hj)
            rw [Array.getElem?_eq_getElem (by simpa using hj)] at h1
            simp only [Option.some.injEq] at h1
            rw [Array.getElem_toList]
            exact h1.symm
          omega
        subst hfu
        refine ⟨?_, hQ⟩
        cases hr : Region.ready .any ops (listed.setIfInBounds i true) with
        | nil => rfl
        | cons j rest =>
          exfalso
          have hm : j ∈ Region.ready .any ops (listed.setIfInBounds i true) := by rw [hr]; simp
          obtain ⟨hun2, o2, ho2, _⟩ := mem_ready.1 hm
          have hj2 : j < ops.size := by
            rcases Nat.lt_or_ge j ops.size with hlt | hge
            · exact hlt
            · rw [Array.getElem?_eq_none hge] at ho2; cases ho2
          rw [getb, hall2 j hj2] at hun2; cases hun2
      · refine step listed a w i _ hik I hi fun a' w' I' => ih _ a' w' I' ?_ (by omega)
        rw [Array.getElem?_setIfInBounds]
        simp only [hik, if_false]
        exact hkf

end

/-- THE REGION, its last operation at place k. -/
theorem wp_region_last {B : Nat} {P : Program} {ops : List Oper} {Q : Exit → Act → World → Prop} {a0 : Act} {w0 : World} {id : Nat} (hB : B ≤ w0.heap.size) (L : List Sp) (k : Nat) (last : Oper) (hk : ops.toArray[k]? = some last) (hlast : lastOk ops.toArray k = true)
    (hm : P.follows .mixedOrders = true) (hok : regOk ops.toArray a0.tmps.size = true)
    (hstep : PaysFrom (fun i o => i = k ∨ Pays B P ops.toArray L a0 w0 i o) 0 ops)
    (hend : ∀ (a : Act) (w : World), Grw B w0 w → a.defers = a0.defers → a.tmps.size = a0.tmps.size → (∀ (i : Nat) (o : Oper) (d : Nat), i ≠ k → ops.toArray[i]? = some o → o.dst = some d → ∃ v, a.tmps[d]? = some v ∧ (L.getD i Sp.any).p w v) →
      (∀ t, (∀ (i : Nat) (o : Oper), i ≠ k → ops.toArray[i]? = some o → o.dst ≠ some t) → a.tmps[t]? = a0.tmps[t]?) → Region.wanted last (yielded ops.toArray a.tmps) = true ∧ gives P last a w fun v w' => Q .normal (a.put last.dst v) w') :
    (Code.region id ops.toArray true).wp P Q a0 w0 := by
  refine wp_region_any hm (wpAny_last (S := fun i => (L.getD i Sp.any).p) (w0 := w0) (a0 := a0) (B := B) hk hlast hok (fun i w w' v h hx => (L.getD i Sp.any).up w w' v h hx.keeps) ?_ hend _ _ a0 _ ?_ ?_ ?_)
  · intro i o hne ho a w hx hd hk' H
    have h := paysFrom_all ops 0 hstep i o (by simpa using ho)
    rw [Nat.zero_add] at h
    rcases h with h | h
    · exact absurd h hne
    refine h a w hx (Nat.le_trans hB hx.size) hk' fun j hj o' ho' d hd' => ?_
    simp only [List.any_eq_true, Array.mem_toList_iff] at hj
    obtain ⟨e, he, hb⟩ := hj
    simp only [Bool.and_eq_true, beq_iff_eq] at hb
    obtain ⟨rfl, hb⟩ := hb
    exact H e he hb o' ho' d hd'
  · refine ⟨by simp, Grw.drewn _ _ _, rfl, rfl, ?_, ?_, fun _ _ => rfl⟩
    · intro i o ho hl
      rw [Array.getElem?_replicate] at hl
      split at hl <;> simp at hl
    · intro i o d ho hl
      rw [Array.getElem?_replicate] at hl
      split at hl <;> simp at hl
  · have hklt : k < ops.toArray.size := by
      rcases Nat.lt_or_ge k ops.toArray.size with hlt | hge
      · exact hlt
      · rw [Array.getElem?_eq_none hge] at hk; cases hk
    rw [Array.getElem?_replicate, if_pos hklt]
  · have : (Array.replicate ops.toArray.size false).toList.count true = 0 := by simp [List.count_replicate]
    omega

/-- A frame, told slot by slot. -/
theorem tmps_sets {t : Array Value} : ∀ (ps : List (Nat × Value)) (a0 : Array Value), t.size = a0.size → (∀ p ∈ ps, t[p.1]? = some p.2) → (∀ i, (∀ p ∈ ps, p.1 ≠ i) → t[i]? = a0[i]?) → t = ps.foldl (fun t p => t.setIfInBounds p.1 p.2) a0
  | [], a0, hs, _, h => Array.ext_getElem? (fun i => h i (fun _ h => by cases h))
  | p :: ps, a0, hs, hp, h => by
    refine tmps_sets ps (a0.setIfInBounds p.1 p.2) (by simpa using hs) (fun q hq => hp q (List.mem_cons_of_mem _ hq)) (fun i hi => ?_)
    rw [Array.getElem?_setIfInBounds]
    by_cases he : p.1 = i
    · subst he
      have h1 := hp p (List.mem_cons_self)
      have hlt : p.1 < t.size := by
        rcases Nat.lt_or_ge p.1 t.size with h' | h'
        · exact h'
        · rw [Array.getElem?_eq_none h'] at h1; cases h1
      rw [if_pos rfl, if_pos (by omega), h1]
    · rw [if_neg he]
      exact h i (fun q hq => by
        rcases List.mem_cons.1 hq with rfl | hq
        · exact he
        · exact hi q hq)
/-- The slots that the operations other than k write are these. -/
def dstsIn (ops : List Oper) (k : Nat) (ds : List Nat) : Bool := ops.zipIdx.all fun x => x.2 == k || (match x.1.dst with | some d => ds.contains d | none => true)
theorem frame_last {ops : List Oper} {k : Nat} {a0 t : Array Value} (ps : List (Nat × Value)) (hs : t.size = a0.size) (hd : dstsIn ops k (ps.map (·.1)) = true) (hp : ∀ p ∈ ps, t[p.1]? = some p.2)
    (hsame : ∀ t', (∀ (i : Nat) (o : Oper), i ≠ k → ops.toArray[i]? = some o → o.dst ≠ some t') → t[t']? = a0[t']?) : t = ps.foldl (fun t p => t.setIfInBounds p.1 p.2) a0 := by
  refine tmps_sets ps a0 hs hp fun i hi => hsame i fun j o hj ho hdst => ?_
  have hm : (o, j) ∈ ops.zipIdx := by rw [List.mem_zipIdx_iff_getElem?]; simpa using ho
  have := List.all_eq_true.1 hd (o, j) hm
  simp only [hdst, Bool.or_eq_true, beq_iff_eq, hj, false_or, List.contains_iff_mem] at this
  obtain ⟨p, hp1, hp2⟩ := List.mem_map.1 this
  exact hi p hp1 hp2
end Go.Proofs.YtnkcneccolbbdaaGreatDoor
namespace Go.Proofs.YtnkcneccolbbdaaGreatDoor
open Go.RowKit

/-- Operation k waits for operation i. -/
def waits (ops : Array Oper) (k i : Nat) : Bool := match ops[k]? with
  | some o => o.after.toList.any fun e => e.on == i && Region.binds .any e
  | none => false
theorem waits_edge {ops : Array Oper} {k i : Nat} (h : waits ops k i = true) : ∃ o, ops[k]? = some o ∧ ∃ e ∈ o.after, Region.binds .any e = true ∧ e.on = i := by
  unfold waits at h
  split at h
  · rename_i o ho
    obtain ⟨e, he, hb⟩ := List.any_eq_true.1 h
    simp only [Bool.and_eq_true, beq_iff_eq] at hb
    exact ⟨o, ho, e, by simpa using he, hb.2, hb.1⟩
  · cases h
/-- The chain: each operation waits for the one ahead of it. -/
def chainOk (ops : Array Oper) (ch : List Nat) : Bool := (List.range ch.length).all fun t => decide (ch.getD t 0 < ops.size) && (t == 0 || waits ops (ch.getD t 0) (ch.getD (t - 1) 0))
theorem chainOk_at {ops : Array Oper} {ch : List Nat} (h : chainOk ops ch = true) {t k : Nat} (hk : ch[t]? = some k) : k < ops.size ∧ (0 < t → ∃ i, ch[t - 1]? = some i ∧ waits ops k i = true) := by
  have hlt := (List.getElem?_eq_some_iff.1 hk).1
  have h1 := List.all_eq_true.1 h t (List.mem_range.2 hlt)
  simp only [Bool.and_eq_true, decide_eq_true_eq, Bool.or_eq_true, beq_iff_eq, List.getD_eq_getElem?_getD, hk, Option.getD_some] at h1
  refine ⟨h1.1, fun h0 => ?_⟩
  have hlt' : t - 1 < ch.length := by omega
  refine ⟨ch[t - 1], List.getElem?_eq_getElem hlt', ?_⟩
  rcases h1.2 with h2 | h2
  · omega
  · rw [List.getElem?_eq_getElem hlt'] at h2
    exact h2
/-- Ahead of which place of the chain an operation must come. -/
def bd (ops : Array Oper) (ch : List Nat) (i : Nat) : Nat := ch.findIdx fun k => waits ops k i

section
variable {P : Program} {ops : Array Oper} {Q : Exit → Act → World → Prop} {V : Nat → Value} {W : Nat → World} {ch : List Nat} {a0 : Act}

structure CInv (ops : Array Oper) (V : Nat → Value) (W : Nat → World) (ch : List Nat) (a0 : Act) (listed : Array Bool) (a : Act) (w : World) : Prop where
  size : listed.size = ops.size
  defers : a.defers = a0.defers
  tmps : a.tmps.size = a0.tmps.size
  closed : ∀ (i : Nat) (o : Oper), ops[i]? = some o → listed[i]? = some true → ∀ e ∈ o.after, Region.binds .any e = true → listed[e.on]? = some true
  vals : ∀ (i : Nat) (o : Oper) (d : Nat), ops[i]? = some o → listed[i]? = some true → o.dst = some d → a.tmps[d]? = some (V i)
  same : ∀ t, (∀ (i : Nat) (o : Oper), ops[i]? = some o → o.dst = some t → listed[i]? = some false) → a.tmps[t]? = a0.tmps[t]?
  place : ∃ j, j ≤ ch.length ∧ w = W j ∧ ∀ (t k : Nat), ch[t]? = some k → (listed[k]? = some true ↔ t < j)

/-- What one operation owes. -/
def CPays (P : Program) (ops : Array Oper) (V : Nat → Value) (W : Nat → World) (ch : List Nat) (a0 : Act) (i : Nat) (o : Oper) : Prop :=
  ∀ (a : Act), (∀ t, keepsB ops i t = true → a.tmps[t]? = a0.tmps[t]?) →
    (∀ j, (o.after.toList.any fun e => e.on == j && Region.binds .any e) = true → ∀ (o' : Oper), ops[j]? = some o' → ∀ (d : Nat), o'.dst = some d → a.tmps[d]? = some (V j)) →
    if ch.contains i then ∀ j, ch[j]? = some i → Region.wanted o (yielded ops a.tmps) = true ∧ gives P o a (W j) fun v w' => v = V i ∧ w' = W (j + 1)
    else ∀ j, j ≤ bd ops ch i → (Region.wanted o (yielded ops a.tmps) = true ∧ gives P o a (W j) fun v w' => v = V i ∧ w' = W j) ∨ (Region.wanted o (yielded ops a.tmps) = false ∧ V i = undef)

theorem wpAny_chain (hok : regOk ops a0.tmps.size = true) (hcok : chainOk ops ch = true) (hstep : ∀ (i : Nat) (o : Oper), ops[i]? = some o → CPays P ops V W ch a0 i o)
    (hend : ∀ (a : Act), a.defers = a0.defers → a.tmps.size = a0.tmps.size → (∀ (i : Nat) (o : Oper) (d : Nat), ops[i]? = some o → o.dst = some d → a.tmps[d]? = some (V i)) →
      (∀ t, (∀ (i : Nat) (o : Oper), ops[i]? = some o → o.dst ≠ some t) → a.tmps[t]? = a0.tmps[t]?) → Q .normal a (W ch.length)) :
    ∀ (fuel : Nat) (listed : Array Bool) (a : Act) (w : World), CInv ops V W ch a0 listed a w → listed.toList.count true + fuel = ops.size → wpAny P .any ops Q fuel listed a w := by
  have getb : ∀ (l : Array Bool) (i : Nat) (b : Bool), l.getD i b = (l[i]?).getD b := fun l i b => by simp
  have allTrue : ∀ (l : Array Bool), l.toList.count true = l.size → ∀ i, i < l.size → l[i]? = some true := fun l h i hi => by
    have : ∀ x ∈ l.toList, true = x := by
      rw [← List.count_eq_length]; simpa using h
    rw [Array.getElem?_eq_getElem hi]
    congr 1
    exact (this _ (by simp)).symm
  have hlt : ∀ {i : Nat} {o : Oper}, ops[i]? = some o → i < ops.size := fun {i o} ho => by
    rcases Nat.lt_or_ge i ops.size with hlt | hge
    · exact hlt
    · rw [Array.getElem?_eq_none hge] at ho; cases ho
  have fin : ∀ (listed : Array Bool) (a : Act) (w : World), CInv ops V W ch a0 listed a w → (∀ i, i < ops.size → listed[i]? = some true) → Q .normal a w := by
    intro listed a w I h
    obtain ⟨j, hj, hw, hch⟩ := I.place
    have hjm : j = ch.length := by
      rcases Nat.lt_or_ge j ch.length with h1 | h1
      · have hk := List.getElem?_eq_getElem h1
        have := (hch j _ hk).1 (h _ (chainOk_at hcok hk).1)
        omega
      · omega
    subst hw hjm
    exact hend a I.defers I.tmps (fun i o d ho hd => I.vals i o d ho (h i (hlt ho)) hd) (fun t ht => I.same t fun i o ho hd => absurd hd (ht i o ho))
  have step : ∀ (listed : Array Bool) (a : Act) (w : World) (i : Nat) (K : Act → World → Prop), CInv ops V W ch a0 listed a w → i ∈ Region.ready .any ops listed →
      (∀ a' w', CInv ops V W ch a0 (listed.setIfInBounds i true) a' w' → K a' w') → wpOp P ops Q i K a w := by
    intro listed a w i K I hr hK
    obtain ⟨hun, o, ho, hall⟩ := mem_ready.1 hr
    have hi : i < listed.size := by rw [I.size]; exact hlt ho
    have hfalse : listed[i]? = some false := by
      rw [getb, Array.getElem?_eq_getElem hi] at hun
      rw [Array.getElem?_eq_getElem hi]; simpa using hun
    have hpre : ∀ e ∈ o.after, Region.binds .any e = true → listed[e.on]? = some true := fun e he hb => by
      have h1 := hall e he hb
      rw [getb] at h1
      cases h2 : listed[e.on]? with
      | none => rw [h2] at h1; simp at h1
      | some b => rw [h2] at h1; simp at h1; rw [h1]
    have hset : ∀ (k : Nat), (listed.setIfInBounds i true)[k]? = if i = k then some true else listed[k]? := fun k => by
      rw [Array.getElem?_setIfInBounds]
      by_cases h : i = k
      · subst h; simp [hi]
      · simp [h]
    obtain ⟨j, hj, hw, hch⟩ := I.place
    subst hw
    have next : ∀ v j', v = V i → (j' ≤ ch.length ∧ ∀ (t k : Nat), ch[t]? = some k → ((listed.setIfInBounds i true)[k]? = some true ↔ t < j')) → CInv ops V W ch a0 (listed.setIfInBounds i true) (a.put o.dst v) (W j') := by
      intro v j' hv hpl
      refine ⟨by simpa using I.size, ?_, ?_, ?_, ?_, ?_, j', hpl.1, rfl, hpl.2⟩
      · cases hd : o.dst <;> simpa [Act.put] using I.defers
      · cases hd : o.dst <;> simpa [Act.put] using I.tmps
      · intro k ok hk hl e he hb
        rw [hset] at hl ⊢
        by_cases hki : i = k
        · subst hki
          rw [ho] at hk; cases hk
          split
          · rfl
          · exact hpre e he hb
        · rw [if_neg hki] at hl
          split
          · rfl
          · exact I.closed k ok hk hl e he hb
      · intro k ok d hk hl hd
        rw [hset] at hl
        by_cases hki : i = k
        · subst hki
          rw [ho] at hk; cases hk
          rw [hd, hv]
          have := regOk_lt hok ho hd
          simp only [Act.put, Array.getElem?_setIfInBounds]
          simp [I.tmps, this]
        · rw [if_neg hki] at hl
          have hu := I.vals k ok d hk hl hd
          cases hod : o.dst with
          | none => simpa [Act.put] using hu
          | some d' =>
            have hne : d' ≠ d := fun e => hki (regOk_one hok ho hk (by rw [hod, e]) hd)
            simp only [Act.put, Array.getElem?_setIfInBounds_ne hne]
            exact hu
      · intro t ht
        have hit : o.dst ≠ some t := fun hd => by
          have := ht i o ho hd
          rw [hset, if_pos rfl] at this; cases this
        have := I.same t fun k ok hk hd => by
          have h2 := ht k ok hk hd
          rw [hset] at h2
          split at h2
          · cases h2
          · exact h2
        rw [← this]
        cases hod : o.dst with
        | none => rfl
        | some d' =>
          have hne : d' ≠ t := fun e => hit (by rw [hod, e])
          simp only [Act.put, Array.getElem?_setIfInBounds_ne hne]
    have hs := hstep i o ho a ?_ ?_
    · unfold wpOp
      simp only [ho]
      by_cases hc : ch.contains i = true
      · rw [if_pos hc] at hs
        have hpl : ∀ t, ch[t]? = some i → t = j := fun t ht => by
          have h1 : ¬ t < j := fun h => by
            have := (hch t i ht).2 h
            rw [hfalse] at this; cases this
          rcases Nat.eq_zero_or_pos t with h0 | h0
          · omega
          · obtain ⟨i', hi', hwt⟩ := (chainOk_at hcok ht).2 h0
            obtain ⟨o', ho', e, he, hb, hon⟩ := waits_edge hwt
            rw [ho] at ho'; cases ho'
            have h2 := hpre e he hb
            rw [hon] at h2
            have := (hch (t - 1) i' hi').1 h2
            omega
        obtain ⟨t, ht⟩ := List.getElem?_of_mem (List.contains_iff_mem.1 hc)
        obtain rfl := hpl t ht
        obtain ⟨hwn, hg⟩ := hs t ht
        rw [if_pos hwn]
        refine .inl (wp_of_gives hg fun v w' ⟨hv, hw'⟩ => ?_)
        subst hw'
        refine hK _ _ (next v (t + 1) hv ⟨(List.getElem?_eq_some_iff.1 ht).1, fun t' k hk => ?_⟩)
        rw [hset]
        by_cases hik : i = k
        · subst hik
          have := hpl t' hk
          rw [if_pos rfl]
          exact ⟨fun _ => by omega, fun _ => rfl⟩
        · rw [if_neg hik, hch t' k hk]
          refine ⟨fun h => by omega, fun h => ?_⟩
          rcases Nat.lt_or_ge t' t with h' | h'
          · exact h'
          · have : t' = t := by omega
            subst this
            rw [ht] at hk
            injection hk with hk
            exact absurd hk hik
      · rw [if_neg hc] at hs
        have hjb : j ≤ bd ops ch i := by
          rcases Nat.lt_or_ge (bd ops ch i) j with h | h
          · exfalso
            have hlen : bd ops ch i < ch.length := by omega
            have hwt : waits ops ch[bd ops ch i] i = true := List.findIdx_getElem (w := hlen)
            obtain ⟨o', ho', e, he, hb, hon⟩ := waits_edge hwt
            have hl := (hch _ _ (List.getElem?_eq_getElem hlen)).2 h
            have := I.closed _ o' ho' hl e he hb
            rw [hon, hfalse] at this; cases this
          · exact h
        have hpl : ∀ (t k : Nat), ch[t]? = some k → ((listed.setIfInBounds i true)[k]? = some true ↔ t < j) := fun t k hk => by
          have hik : i ≠ k := fun e => hc (List.contains_iff_mem.2 (by rw [e]; exact List.mem_of_getElem? hk))
          rw [hset, if_neg hik]
          exact hch t k hk
        rcases hs j hjb with ⟨hwn, hg⟩ | ⟨hwn, hv⟩
        · rw [if_pos hwn]
          refine .inl (wp_of_gives hg fun v w' ⟨hv, hw'⟩ => ?_)
          subst hw'
          exact hK _ _ (next v j hv ⟨hj, hpl⟩)
        · rw [if_neg (by rw [hwn]; exact Bool.false_ne_true)]
          exact hK _ _ (next _ j hv.symm ⟨hj, hpl⟩)
    · intro t ht
      refine I.same t fun k ok hk hd => ?_
      simp only [keepsB, List.all_eq_true] at ht
      have hm : ok ∈ ops.toList := by simpa using Array.mem_of_getElem? hk
      have := ht ok hm
      simp only [hd, bne_self_eq_false, Bool.false_or, List.any_eq_true, Array.mem_toList_iff] at this
      obtain ⟨e, he, hb⟩ := this
      simp only [Bool.and_eq_true, beq_iff_eq] at hb
      have hkl : k < listed.size := by rw [I.size]; exact hlt hk
      cases hv : listed[k]? with
      | none => rw [Array.getElem?_eq_getElem hkl] at hv; cases hv
      | some b =>
        cases b with
        | false => rfl
        | true =>
          have := I.closed k ok hk hv e he hb.2
          rw [hb.1, hfalse] at this; cases this
    · intro j' hj' o' ho' d hd
      simp only [List.any_eq_true, Array.mem_toList_iff] at hj'
      obtain ⟨e, he, hb⟩ := hj'
      simp only [Bool.and_eq_true, beq_iff_eq] at hb
      obtain ⟨rfl, hb⟩ := hb
      exact I.vals e.on o' d ho' (hpre e he hb) hd
  have full : ∀ (listed : Array Bool) (a : Act) (w : World), CInv ops V W ch a0 listed a w → Region.ready .any ops listed = [] → ∀ i, i < ops.size → listed[i]? = some true := by
    intro listed a w I hr i
    induction i using Nat.strongRecOn with
    | ind i ih =>
      intro hi
      cases hv : listed[i]? with
      | none => rw [Array.getElem?_eq_none_iff, I.size] at hv; omega
      | some b =>
        cases b with
        | true => rfl
        | false =>
          exfalso
          have hmem : i ∈ Region.ready .any ops listed := by
            refine mem_ready.2 ⟨by rw [getb, hv]; rfl, ops[i], Array.getElem?_eq_getElem hi, fun e he hb => ?_⟩
            have hlt := regOk_back hok (Array.getElem?_eq_getElem hi) he hb
            rw [getb, ih e.on hlt (by omega)]; rfl
          rw [hr] at hmem; cases hmem
  intro fuel
  induction fuel with
  | zero =>
    intro listed a w I hc
    have hall := allTrue listed (by rw [I.size]; omega)
    rw [I.size] at hall
    refine ⟨?_, fin listed a w I hall⟩
    cases hr : Region.ready .any ops listed with
    | nil => rfl
    | cons i rest =>
      exfalso
      have hm : i ∈ Region.ready .any ops listed := by rw [hr]; simp
      obtain ⟨hun, o, ho, _⟩ := mem_ready.1 hm
      rw [getb, hall i (hlt ho)] at hun; cases hun
  | succ fuel ih =>
    intro listed a w I hc
    refine ⟨fun hr => fin listed a w I (full listed a w I hr), fun i hi => step listed a w i _ I hi fun a' w' I' => ih _ a' w' I' ?_⟩
    obtain ⟨hun, o, ho, _⟩ := mem_ready.1 hi
    have hlt := hlt ho
    rw [count_set (by rw [getb, Array.getElem?_eq_getElem (by rw [I.size]; exact hlt)] at hun; rw [Array.getElem?_eq_getElem (by rw [I.size]; exact hlt)]; simpa using hun)]
    omega
end

/-- What the operations leave in their slots. -/
def setsOf (ops : List Oper) (V : Nat → Value) : List (Nat × Value) := ops.zipIdx.filterMap fun x => x.1.dst.map fun d => (d, V x.2)
/-- THE REGION. -/
theorem wp_region_chain {P : Program} {ops : List Oper} {Q : Exit → Act → World → Prop} {a0 : Act} {w0 : World} {id : Nat} (V : List Value) (Ws : List World) (ch : List Nat) (hm : P.follows .mixedOrders = true)
    (hok : regOk ops.toArray a0.tmps.size = true) (hcok : chainOk ops.toArray ch = true) (hW0 : Ws.getD 0 w0 = w0.drew)
    (hstep : PaysFrom (CPays P ops.toArray (fun i => V.getD i undef) (fun j => Ws.getD j w0) ch a0) 0 ops)
    (hend : Q .normal ⟨(setsOf ops fun i => V.getD i undef).foldl (fun t p => t.setIfInBounds p.1 p.2) a0.tmps, a0.defers⟩ (Ws.getD ch.length w0)) :
    (Code.region id ops.toArray true).wp P Q a0 w0 := by
  refine wp_region_any hm (wpAny_chain (V := fun i => V.getD i undef) (W := fun j => Ws.getD j w0) (ch := ch) (a0 := a0) hok hcok ?_ ?_ _ _ a0 _ ?_ ?_)
  · intro i o ho
    have h := paysFrom_all ops 0 hstep i o (by simpa using ho)
    rwa [Nat.zero_add] at h
  · intro a hd hs hv hsame
    have hmem : ∀ p, p ∈ setsOf ops (fun i => V.getD i undef) ↔ ∃ (i : Nat) (o : Oper) (d : Nat), ops[i]? = some o ∧ o.dst = some d ∧ p = (d, V.getD i undef) := fun p => by
      unfold setsOf
      rw [List.mem_filterMap]
      constructor
      · rintro ⟨⟨o, i⟩, hm, hp⟩
        rw [List.mem_zipIdx_iff_getElem?] at hm
        cases hod : o.dst with
        | none => rw [hod] at hp; cases hp
        | some d => rw [hod] at hp; injection hp with hp; exact ⟨i, o, d, hm, hod, hp.symm⟩
      · rintro ⟨i, o, d, ho, hod, rfl⟩
        exact ⟨(o, i), by rw [List.mem_zipIdx_iff_getElem?]; exact ho, by simp [hod]⟩
    have ht := tmps_sets (setsOf ops fun i => V.getD i undef) a0.tmps hs (fun p hp => by
      obtain ⟨i, o, d, ho, hod, rfl⟩ := (hmem p).1 hp
      exact hv i o d (by simpa using ho) hod) (fun t ht => hsame t fun i o ho hod => ht _ ((hmem _).2 ⟨i, o, t, by simpa using ho, hod, rfl⟩) rfl)
    obtain ⟨tm, df⟩ := a
    simp only at ht hd
    subst ht hd
    exact hend
  · refine ⟨by simp, rfl, rfl, ?_, ?_, fun _ _ => rfl, 0, Nat.zero_le _, hW0.symm, ?_⟩
    · intro i o ho hl
      rw [Array.getElem?_replicate] at hl
      split at hl <;> simp at hl
    · intro i o d ho hl
      rw [Array.getElem?_replicate] at hl
      split at hl <;> simp at hl
    · intro t k _
      rw [Array.getElem?_replicate]
      split <;> simp
  · have : (Array.replicate ops.toArray.size false).toList.count true = 0 := by simp [List.count_replicate]
    omega
end Go.Proofs.YtnkcneccolbbdaaGreatDoor
namespace Go.Proofs.YtnkcneccolbbdaaGreatDoor
open Go.RowKit

/-- Block g is just the bytes l. -/
def Blk (w : World) (g : Nat) (l : List UInt8) : Prop := w.heap[g]? = some (.cells (bs l).toArray 5 (0, 0))

theorem madeCells_zero (n : Nat) : madeCells #[.int .u8 0] n = (bs (List.replicate n 0)).toArray := by
  apply Array.ext'
  apply List.ext_getElem?
  intro i
  simp [madeCells, bs]
  by_cases h : i < n
  · simp [h, Nat.mod_one]
  · simp [h]
theorem info_size : (Tryz.prog.info? 5).map (·.size) = some 1 := by kernel_rfl

section
variable {w w' : World} {g : Nat} {l : List UInt8}
theorem Blk.made (w : World) (n : Nat) : Blk (w.alloc (.cells (madeCells #[.int .u8 0] n) 5)) w.heap.size (List.replicate n 0) := by
  unfold Blk
  rw [madeCells_zero]
  exact heap_alloc_new w _
theorem Blk.lt (h : Blk w g l) : g < w.heap.size := by
  rcases Nat.lt_or_ge g w.heap.size with h' | h'
  · exact h'
  · unfold Blk at h; rw [Array.getElem?_eq_none h'] at h; cases h
theorem Blk.cell (h : Blk w g l) {i : Nat} {x : UInt8} (hx : l[i]? = some x) : w.cell? ⟨g, i, none⟩ = some (.int .u8 (x.toNat : Int)) := by
  rw [cell_of_row w g i _ _ (0, 0) h, List.getElem?_toArray, bs_get, hx]
  rfl
theorem Blk.frozen (h : Blk w g l) (i : Nat) : w.frozen? ⟨g, i, none⟩ = false := by
  unfold Blk at h
  simp [World.frozen?, h]
theorem Blk.set (h : Blk w g l) (i : Nat) (n : Int) (h0 : 0 ≤ n) (h1 : n < 256) : Blk (w.setCell ⟨g, i, none⟩ (.int .u8 n)) g (l.set i (b8 n)) := by
  unfold Blk at h ⊢
  have e : (bs (l.set i (b8 n))).toArray = (bs l).toArray.setIfInBounds i (.int .u8 n) := by
    rw [List.setIfInBounds_toArray]
    congr 1
    unfold bs
    rw [List.map_set, b8_toNat h0 h1]
  rw [e]
  simp [World.setCell, Array.getElem?_modify, h]
theorem Blk.alloc (h : Blk w g l) (o : Obj) : Blk (w.alloc o) g l := (Below.heap_alloc w o g h.lt).trans h
theorem Blk.ext (h : Blk w g l) (hx : Ext w w') : Blk w' g l := (Below.block hx g h.lt).trans h
theorem Blk.below {B : Nat} (h : Blk w g l) (hb : Below B w w') (hg : g < B) : Blk w' g l := (hb.block g hg).trans h
theorem Blk.far (h : Blk w g l) {p : Addr} (hp : g ≠ p.block) (u : Value) : Blk (w.setCell p u) g l := (Below.heap_setCell w p u g hp).trans h
theorem Blk.rd (h : Blk w g l) : Rd w (some ⟨g, 0, none⟩) l := fun _ => ⟨g, 0, rfl, fun j u hu => by rw [Nat.zero_add]; exact h.cell hu⟩
theorem Blk.bytes (h : Blk w g l) {n c : Nat} (hn : n = l.length) (hc : n ≤ c) : Bytes l w (.slice (some ⟨g, 0, none⟩) n c) := by
  subst hn
  exact ⟨_, _, rfl, hc, h.rd⟩
/-- What stands at the block's cells, from a place on. -/
theorem Blk.rdAt (h : Blk w g l) (k : Nat) : Rd w (some ⟨g, k, none⟩) (l.drop k) := fun _ => ⟨g, k, rfl, fun j u hu => by rw [List.getElem?_drop] at hu; exact h.cell hu⟩
end

theorem run_make_bytes (n : Nat) (hn : n ≤ 281474976710656) (W : World) : (Instr.makeSlice 32 (.int .i64 (n : Int)) (.int .i64 (n : Int))).run Tryz.prog W =
    .ok (.slice (some ⟨W.heap.size, 0, none⟩) n n) (W.alloc (.cells (madeCells #[.int .u8 0] n) 5)) := by
  obtain ⟨i0, hi, hz0, hz1, hz2⟩ := info_parts info_u8
  have h := run_make (P := Tryz.prog) W 32 5 i0 (.int .u8 0) Tryz.underlying32 hi hz0 .i64 .i64 (n : Int) (n : Int) (by omega) (by omega) (by rw [hz2]; omega) (by omega)
  simpa [hz1, Value.cells] using h

/-- m laid over l from a place on. -/
def over (l : List UInt8) (off : Nat) (m : List UInt8) : List UInt8 := l.take off ++ (m ++ l.drop (off + m.length))
theorem over_length (l : List UInt8) (off : Nat) (m : List UInt8) (h : off + m.length ≤ l.length) : (over l off m).length = l.length := by simp [over]; omega

/-- 'copy(d, s)', d within a block of the call's own. -/
theorem wpList_copy {w : World} {ops : Array Oper} {rest : List Oper} {o : Oper} {a : Act} {Q : Exit → Act → World → Prop} (hgd : o.guard = none) (d s : Operand)
    (ho : o.op = .call { callee := .builtin .copy, args := #[d, s], argTypes := #[32, 32] })
    (g off dLen dCap : Nat) (A : Option Addr) (n c : Nat) (hd : a.eval d = .slice (some ⟨g, off, none⟩) dLen dCap) (hs : a.eval s = .slice A n c) (l m : List UInt8) (hn : n = m.length)
    (hg : Blk w g l) (hr : Rd w A m) (hfit : off + min m.length dLen ≤ l.length) (B : Nat) (hBg : B ≤ g)
    (h : ∀ w', Blk w' g (over l off (m.take dLen)) → Below B w w' → wpList Tryz.prog ops Q rest (a.put o.dst (goInt ((min m.length dLen : Nat) : Int))) w') : wpList Tryz.prog ops Q (o :: rest) a w := by
  subst hn
  have hlen : (bs (m.take dLen)).length = Nat.min m.length dLen := by rw [bs_length, List.length_take, Nat.min_comm]
  have e : goInt (bs (m.take dLen)).length = goInt ((min m.length dLen : Nat) : Int) := by rw [hlen]
  refine wpList_copy_splice hgd d s 32 32 ho 5 Tryz.underlying32 info_size (some ⟨g, off, none⟩) A dLen dCap m.length c hd hs g off (bs l) 5 hg (bs (m.take dLen)) hlen ?_ ?_ (bs_one _) B w (Below.refl _ _) hBg ?_
  · intro hp
    refine ⟨rfl, ?_⟩
    have hne : m.take dLen ≠ [] := by intro e; rw [e] at hp; simp [bs] at hp
    obtain ⟨b, o2, hA, hc⟩ := (hr.take dLen) hne
    exact ⟨_, hA, (hr.take dLen).cells hA hne⟩
  · rw [hlen, bs_length]; exact hfit
  · intro w' hw' hb'
    rw [e]
    refine h w' ?_ hb'
    have hw := hw'.out
    have e2 : splice (bs l) off (bs (m.take dLen)) = bs (over l off (m.take dLen)) := by
      unfold splice over bs
      simp only [List.map_append, List.map_take, List.map_drop, List.length_map, List.length_take]
    rw [e2] at hw
    exact hw
end Go.Proofs.YtnkcneccolbbdaaGreatDoor
namespace Go.Proofs.YtnkcneccolbbdaaGreatDoor
open Go.RowKit

theorem Ext.drewN {w W : World} (h : Ext w W) (n : Nat) : Ext w (W.drewN n) := ⟨h.os, h.tape, h.output, h.size, h.block⟩

theorem Rd.drewN {w : World} {A : Option Addr} {l : List UInt8} (h : Rd w A l) (n : Nat) : Rd (w.drewN n) A l := h.ext ((Ext.refl w).drewN n)

section
variable {P : Program} {ops : Array Oper} {o : Oper} {a : Act} {w : World} {R : Value → World → Prop}
theorem gives_lss_int {xt yt : Nat} {x y : Operand} {k : IntKind} (m n : Int) (h : o.op = .binOp .lss xt x y yt) (hx : a.eval x = .int k m) (hy : a.eval y = .int k n) (hR : R (.bool (decide (m < n))) w) : gives P o a w R :=
  gives_bin h hx hy (by simp [go_sem]) (by simp [go_sem]) hR
theorem gives_lss_str {xt yt : Nat} {x y : Operand} (l m : List UInt8) (h : o.op = .binOp .lss xt x y yt) (hx : a.eval x = .string ⟨l.toArray⟩) (hy : a.eval y = .string ⟨m.toArray⟩) (hR : R (.bool (Op.bytesLess l m)) w) : gives P o a w R :=
  gives_bin h hx hy (by simp [go_sem]) (by simp [go_sem]) hR
theorem gives_geq_int {xt yt : Nat} {x y : Operand} {k : IntKind} (m n : Int) (h : o.op = .binOp .geq xt x y yt) (hx : a.eval x = .int k m) (hy : a.eval y = .int k n) (hR : R (.bool (decide (n ≤ m))) w) : gives P o a w R :=
  gives_bin h hx hy (by simp [go_sem]) (by simp [go_sem]) hR
theorem gives_gtr_int {xt yt : Nat} {x y : Operand} {k : IntKind} (m n : Int) (h : o.op = .binOp .gtr xt x y yt) (hx : a.eval x = .int k m) (hy : a.eval y = .int k n) (hR : R (.bool (decide (n < m))) w) : gives P o a w R :=
  gives_bin h hx hy (by simp [go_sem]) (by simp [go_sem]) hR
theorem gives_eql_bool {xt yt : Nat} {x y : Operand} (p q : Bool) (hu : P.underlying xt = some .bool) (h : o.op = .binOp .eql xt x y yt) (hx : a.eval x = .bool p) (hy : a.eval y = .bool q) (hR : R (.bool (p == q)) w) : gives P o a w R :=
  gives_bin h hx hy (by simp [go_sem]) (by simp [go_sem, hu]) hR
theorem gives_not {xt : Nat} {x : Operand} (p : Bool) (h : o.op = .unOp .not xt x) (hx : a.eval x = .bool p) (hR : R (.bool !p) w) : gives P o a w R := by
  refine gives_of_run (w' := w) (v := .bool !p) ?_ hR
  have e : (execOp a.eval o).run P w = ((Op.unary .not (a.eval x)).run P w).andThen fun v w' => .ok (.value v) w' := by simp [execOp, h]
  rw [e, hx]
  simp [go_sem]
theorem gives_len {x : Operand} {t : Nat} {A : Option Addr} {n c : Nat} (h : o.op = .call { callee := .builtin .len, args := #[x], argTypes := #[t] }) (ht : ∃ e, P.underlying t = some (.slice e)) (hx : a.eval x = .slice A n c) (hR : R (.int .i64 (n : Int)) w) : gives P o a w R := by
  obtain ⟨e, ht⟩ := ht
  have hlen : (Builtin.len_ #[t] o.type #[.slice A n c]).run P w = .ok (.int .i64 (n : Int)) w := by simp [go_sem, ht]
  refine gives_of_run (w' := w) (v := .int .i64 (n : Int)) ?_ hR
  unfold execOp
  simp only [h, resolve, invoke, builtin, Sem.run_bind, Sem.run_pure, Result.andThen_ok, List.map_toArray, List.map_cons, List.map_nil, hx, hlen]
theorem gives_cut {x y : Operand} {t e : Nat} {A : Option Addr} {n m c : Nat} (h : o.op = .slice t x none (some y) none) (ht : P.underlying t = some (.slice e)) (he : (P.info? e).isSome = true) (hx : a.eval x = .slice A n c) (hy : a.eval y = .int .i64 (m : Int)) (hm : m ≤ c)
    (hR : R (.slice A m c) w) : gives P o a w R := by
  obtain ⟨i, hi⟩ := Option.isSome_iff_exists.1 he
  have hcut : (Instr.slice t (.slice A n c) none (some (.int .i64 (m : Int))) none).run P w = .ok (.slice A m c) w := by
    simp [Instr.slice, run_underlying ht, Instr.sliceBounds, Instr.sliceBound, asIntOf, hm, sizeOf, typeInfo, hi]
    cases A with
    | none => simp
    | some ad => simp [Addr.add]
  have hcut2 : (Instr.sliceAt t (.slice A n c) none (some (.int .i64 (m : Int))) none).run P w = .ok (.slice A m c) w := by simp [Instr.sliceAt, run_underlying ht, hcut]
  refine gives_of_run (w' := w) (v := .slice A m c) ?_ hR
  unfold execOp
  simp only [h, Option.map_some, Option.map_none, hx, hy, Sem.run_bind, hcut2, Result.andThen_ok, Sem.run_pure]
end
end Go.Proofs.YtnkcneccolbbdaaGreatDoor
namespace Go.Proofs.YtnkcneccolbbdaaGreatDoor
open Go.RowKit

/-- Block g, laid for the type t, is just these cells. -/
def Rw (w : World) (g : Nat) (t : TypeId) (vs : List Value) : Prop := w.heap[g]? = some (.cells vs.toArray t (0, 0))
section
variable {w w' : World} {g : Nat} {t : TypeId} {vs : List Value}
theorem Rw.new (w : World) (t : TypeId) (vs : List Value) : Rw (w.alloc (.cells vs.toArray t)) w.heap.size t vs := heap_alloc_new w _
theorem Rw.lt (h : Rw w g t vs) : g < w.heap.size := by
  rcases Nat.lt_or_ge g w.heap.size with h' | h'
  · exact h'
  · unfold Rw at h; rw [Array.getElem?_eq_none h'] at h; cases h
theorem Rw.cell (h : Rw w g t vs) {i : Nat} {v : Value} (hx : vs[i]? = some v) : w.cell? ⟨g, i, none⟩ = some v := by
  rw [cell_of_row w g i _ _ (0, 0) h, List.getElem?_toArray, hx]
theorem Rw.frozen (h : Rw w g t vs) (i : Nat) : w.frozen? ⟨g, i, none⟩ = false := by
  unfold Rw at h
  simp [World.frozen?, h]
theorem Rw.set (h : Rw w g t vs) (i : Nat) (v : Value) : Rw (w.setCell ⟨g, i, none⟩ v) g t (vs.set i v) := by
  unfold Rw at h ⊢
  have e : (vs.set i v).toArray = vs.toArray.setIfInBounds i v := by rw [List.setIfInBounds_toArray]
  rw [e]
  simp [World.setCell, Array.getElem?_modify, h]
theorem Rw.ext (h : Rw w g t vs) (hx : Ext w w') : Rw w' g t vs := (Below.block hx g h.lt).trans h
theorem Rw.below {B : Nat} (h : Rw w g t vs) (hb : Below B w w') (hg : g < B) : Rw w' g t vs := (hb.block g hg).trans h
theorem Rw.alloc (h : Rw w g t vs) (o : Obj) : Rw (w.alloc o) g t vs := (Below.heap_alloc w o g h.lt).trans h
theorem Rw.far (h : Rw w g t vs) {p : Addr} (hp : g ≠ p.block) (u : Value) : Rw (w.setCell p u) g t vs := (Below.heap_setCell w p u g hp).trans h
/-- What a whole store leaves: block g turned, all else as it was. -/
structure Laid1 (g : Nat) (w w' : World) : Prop where
  below : Below g w w'
  other : ∀ k, k ≠ g → w'.heap[k]? = w.heap[k]?
theorem Rw.other {k : Nat} (h : Rw w k t vs) (hl : Laid1 g w w') (hk : k ≠ g) : Rw w' k t vs := (hl.other k hk).trans h
theorem Laid1.of_row (w : World) (g : Nat) (cs : Array Value) : Laid1 g w (w.setRow g cs) := ⟨⟨rfl, rfl, rfl, by simp [World.setRow], fun k hk => setRow_other w g k cs (by omega)⟩, fun k hk => setRow_other w g k cs hk⟩
theorem Laid1.of_cell (w : World) (g i : Nat) (u : Value) : Laid1 g w (w.setCell ⟨g, i, none⟩ u) := ⟨Below.setCell (p := ⟨g, i, none⟩) (Below.refl g w) (Nat.le_refl g) u, fun k hk => Below.heap_setCell w _ u k hk⟩
end
/-- Writing above B: nothing below has turned. -/
theorem Below.set {B : Nat} {w w' : World} (h : Below B w w') {p : Addr} (hp : B ≤ p.block) (u : Value) : Below B w (w'.setCell p u) := Below.setCell h hp u
theorem Ext.laid {w w' w'' : World} {g : Nat} (h : Ext w w') (hl : Laid1 g w' w'') (hg : w.heap.size ≤ g) : Ext w w'' := Below.trans h (Below.mono hl.below hg)

section
variable {P : Program} {ops : Array Oper} {rest : List Oper} {o : Oper} {a : Act} {w : World} {Q : Exit → Act → World → Prop} {R : Value → World → Prop}
/-- A whole array read. -/
theorem wpList_load_rw (hgd : o.guard = none) (ty : TypeId) (x : Operand) (ho : o.op = .load ty x) (g : Nat) (hx : a.eval x = .pointer (some ⟨g, 0, none⟩)) (t : TypeId) (vs : List Value) (hr : Rw w g t vs)
    (n : Nat) (e : TypeId) (hu : P.underlying ty = some (.array n e)) (hi : (P.info? ty).map (·.size) = some n) (hn : n = vs.length)
    (h : wpList P ops Q rest (a.put o.dst (.agg vs.toArray)) w) : wpList P ops Q (o :: rest) a w :=
  wpList_load_row hgd ty x ho g hx t vs.toArray (0, 0) _ hr hu rfl (by rw [hi, hn]; simp) h
/-- A whole array laid. -/
theorem wpList_store_rw (hgd : o.guard = none) (ty : TypeId) (x y : Operand) (ho : o.op = .store ty x y) (g : Nat) (hx : a.eval x = .pointer (some ⟨g, 0, none⟩)) (us : List Value) (hy : a.eval y = .agg us.toArray)
    (t : TypeId) (vs : List Value) (hr : Rw w g t vs) (n : Nat) (hi : (P.info? ty).map (·.size) = some n) (hn : n = us.length) (hm : vs.length = us.length) (h1 : us.all (·.oneCell') = true)
    (h : ∀ w', Rw w' g t us → Laid1 g w w' → wpList P ops Q rest (a.put o.dst undef) w') : wpList P ops Q (o :: rest) a w :=
  wpList_store_row hgd ty x y ho g us.toArray hx hy t vs.toArray hr (by rw [hi, hn]; simp) (by simpa using hm) (by simpa using h1) (h _ (setRow_heap w g _ _ t _ hr) (Laid1.of_row w g _))
theorem gives_load_rw (ty : TypeId) (x : Operand) (ho : o.op = .load ty x) (g : Nat) (hx : a.eval x = .pointer (some ⟨g, 0, none⟩)) (t : TypeId) (vs : List Value) (hr : Rw w g t vs)
    (n : Nat) (e : TypeId) (hu : P.underlying ty = some (.array n e)) (hi : (P.info? ty).map (·.size) = some n) (hn : n = vs.length) (hR : R (.agg vs.toArray) w) : gives P o a w R := by
  unfold gives execOp
  simp only [ho, hx, Instr.loadAt, Instr.sureAddr, Sem.run_bind, Sem.run_pure, Result.andThen_ok, run_loadVar_row w g t ty vs.toArray (0, 0) _ hr hu rfl (by rw [hi, hn]; simp)]
  exact hR
theorem gives_store_rw (ty : TypeId) (x y : Operand) (ho : o.op = .store ty x y) (g : Nat) (hx : a.eval x = .pointer (some ⟨g, 0, none⟩)) (us : List Value) (hy : a.eval y = .agg us.toArray)
    (t : TypeId) (vs : List Value) (hr : Rw w g t vs) (n : Nat) (hi : (P.info? ty).map (·.size) = some n) (hn : n = us.length) (hm : vs.length = us.length) (h1 : us.all (·.oneCell') = true)
    (hR : ∀ w', Rw w' g t us → Laid1 g w w' → R undef w') : gives P o a w R := by
  unfold gives execOp
  simp only [ho, hx, hy, Instr.storeAt, Instr.sureAddr, Sem.run_bind, Sem.run_pure, Result.andThen_ok, run_storeVar_row w g t ty vs.toArray us.toArray hr (by rw [hi, hn]; simp) (by simpa using hm) (by simpa using h1)]
  exact hR _ (setRow_heap w g _ _ t _ hr) (Laid1.of_row w g _)
/-- A result out of its cell. -/
theorem ret_rw {fn : Func} {p : Tmp} {ty : TypeId} {S : Ending → World → Prop} (hf : fn.results = #[.cell p ty]) (hd : a.defers = []) (g : Nat) (hp : a.tmps.getD p undef = .pointer (some ⟨g, 0, none⟩)) (t : TypeId) (vs : List Value) (hr : Rw w g t vs)
    (n : Nat) (e : TypeId) (hu : P.underlying ty = some (.array n e)) (hi : (P.info? ty).map (·.size) = some n) (hn : n = vs.length) (h : S (.returned (.agg vs.toArray)) w) : bodyPost P fn S .ret a w :=
  bodyPost_ret (results_cell_row hf a.tmps w g t vs.toArray (0, 0) _ hp hr hu rfl (by rw [hi, hn]; simp)) hd h
end

/-- Words as values. -/
def us (l : List Nat) : List Value := l.map fun (n : Nat) => .int .u32 (n : Int)
theorem us_length (l : List Nat) : (us l).length = l.length := by simp [us]
theorem us_get (l : List Nat) (i : Nat) : (us l)[i]? = l[i]?.map fun (n : Nat) => .int .u32 (n : Int) := by simp [us]
theorem us_one (l : List Nat) : (us l).all (·.oneCell') = true := by simp [us, Value.oneCell']
/-- Block g, laid for the type t, is just these words. -/
def Wds (w : World) (g : Nat) (t : TypeId) (l : List Nat) : Prop := Rw w g t (us l)
section
variable {w w' : World} {g : Nat} {t : TypeId} {l : List Nat}
theorem Wds.new (w : World) (t : TypeId) (l : List Nat) : Wds (w.alloc (.cells (us l).toArray t)) w.heap.size t l := heap_alloc_new w _
theorem Wds.lt (h : Wds w g t l) : g < w.heap.size := Rw.lt h
theorem Wds.cell (h : Wds w g t l) {i n : Nat} (hx : l[i]? = some n) : w.cell? ⟨g, i, none⟩ = some (.int .u32 (n : Int)) := Rw.cell h (by rw [us_get, hx]; rfl)
theorem Wds.frozen (h : Wds w g t l) (i : Nat) : w.frozen? ⟨g, i, none⟩ = false := Rw.frozen h i
theorem Wds.put (h : Wds w g t l) (i : Nat) {v : Int} (n : Nat) (hv : v = (n : Int)) {m : List Nat} (hm : l.set i n = m) : Wds (w.setCell ⟨g, i, none⟩ (.int .u32 v)) g t m := by
  subst hv hm
  have := Rw.set h i (.int .u32 (n : Int))
  unfold Wds us
  rw [List.map_set]
  exact this
theorem Wds.ext (h : Wds w g t l) (hx : Ext w w') : Wds w' g t l := Rw.ext h hx
theorem Wds.below {B : Nat} (h : Wds w g t l) (hb : Below B w w') (hg : g < B) : Wds w' g t l := Rw.below h hb hg
theorem Wds.far (h : Wds w g t l) {p : Addr} (hp : g ≠ p.block) (u : Value) : Wds (w.setCell p u) g t l := Rw.far h hp u
theorem Wds.other {k : Nat} (h : Wds w k t l) (hl : Laid1 g w w') (hk : k ≠ g) : Wds w' k t l := Rw.other h hl hk
end
theorem set_mid (a : List Nat) (n : Nat) (v : Nat) (k : Nat) (hk : k = a.length) (h : 0 < n) : (a ++ List.replicate n 0).set k v = (a ++ [v]) ++ List.replicate (n - 1) 0 := by
  subst hk
  obtain ⟨m, rfl⟩ : ∃ m, n = m + 1 := ⟨n - 1, by omega⟩
  rw [List.set_append_right _ _ (Nat.le_refl _), Nat.sub_self, List.replicate_succ, List.set_cons_zero]
  simp
end Go.Proofs.YtnkcneccolbbdaaGreatDoor
namespace Go.Proofs.YtnkcneccolbbdaaGreatDoor
open Go.RowKit

/-! ### values of many cells within a block -/
theorem run_loadVar_at {P : Program} (w : World) (g off : Nat) (ty : TypeId) (vs : List Value) (n : Nat) (ha : (isAgg ty).run P w = .ok true w) (hi : (P.info? ty).map (·.size) = some n) (hn : n = vs.length)
    (hc : ∀ j v, vs[j]? = some v → w.cell? ⟨g, off + j, none⟩ = some v) : (loadVar ty ⟨g, off, none⟩).run P w = .ok (.agg vs.toArray) w := by
  have hl : (loadCells ⟨g, off, none⟩ vs.length).run P w = .ok vs.toArray w :=
    run_loadCells_list (P := P) w ⟨g, off, none⟩ vs (fun j v hv => by rw [add_flat]; exact hc j v hv)
  cases hq : P.info? ty with
  | none => simp [hq] at hi
  | some i =>
    have hs : i.size = vs.length := by simp [hq] at hi; omega
    simp [loadVar, Sem.run_bind, ha, sizeOf, typeInfo, hq, hs, hl]
theorem agg_arr {P : Program} {ty m e : Nat} (hu : P.underlying ty = some (.array m e)) (w : World) : (isAgg ty).run P w = .ok true w := by
  unfold isAgg
  rw [Sem.run_bind, run_underlying hu w]
  simp
theorem agg_struct {P : Program} {ty : Nat} {fs : Array Field} (hu : P.underlying ty = some (.struct fs)) (w : World) : (isAgg ty).run P w = .ok true w := by
  unfold isAgg
  rw [Sem.run_bind, run_underlying hu w]
  simp
/-- m laid over l from a place on. -/
def lay (l : List Value) (off : Nat) (m : List Value) : List Value := l.take off ++ m ++ l.drop (off + m.length)
theorem lay_length (l : List Value) (off : Nat) (m : List Value) (h : off + m.length ≤ l.length) : (lay l off m).length = l.length := by simp [lay]; omega
theorem run_storeVar_at {P : Program} (w : World) (g off : Nat) (ty t : TypeId) (us vs : List Value) (hr : Rw w g t vs) (hi : (P.info? ty).map (·.size) = some us.length) (hfit : off + us.length ≤ vs.length) (h1 : ∀ u ∈ us, u.oneCell' = true) :
    (storeVar ty ⟨g, off, none⟩ (.agg us.toArray)).run P w = .ok () (w.setRow g (lay vs off us).toArray) := by
  have h := run_storeCells_at P g off t us 0 vs.toArray w hr (by simpa using hfit) h1
  simp only [Nat.add_zero] at h
  cases hq : P.info? ty with
  | none => simp [hq] at hi
  | some i =>
    have hs : us.length = i.size := by simp [hq] at hi; omega
    unfold lay
    simpa [storeVar, sizeOf, typeInfo, hq, Value.cells, hs] using h
theorem Rw.lay {w : World} {g : Nat} {t : TypeId} {vs : List Value} (h : Rw w g t vs) (off : Nat) (us : List Value) : Rw (w.setRow g (lay vs off us).toArray) g t (Proofs.YtnkcneccolbbdaaGreatDoor.lay vs off us) := setRow_heap w g _ _ t _ h
section
variable {P : Program} {ops : Array Oper} {rest : List Oper} {o : Oper} {a : Act} {w : World} {Q : Exit → Act → World → Prop} {R : Value → World → Prop}
theorem gives_load_at (ty : TypeId) (x : Operand) (ho : o.op = .load ty x) (g off : Nat) (hx : a.eval x = .pointer (some ⟨g, off, none⟩)) (vs : List Value) (n : Nat) (ha : (isAgg ty).run P w = .ok true w) (hi : (P.info? ty).map (·.size) = some n) (hn : n = vs.length)
    (hc : ∀ j v, vs[j]? = some v → w.cell? ⟨g, off + j, none⟩ = some v) (hR : R (.agg vs.toArray) w) : gives P o a w R := by
  unfold gives execOp
  simp only [ho, hx, Instr.loadAt, Instr.sureAddr, Sem.run_bind, Sem.run_pure, Result.andThen_ok, run_loadVar_at w g off ty vs n ha hi hn hc]
  exact hR
theorem gives_store_at (ty : TypeId) (x y : Operand) (ho : o.op = .store ty x y) (g off : Nat) (hx : a.eval x = .pointer (some ⟨g, off, none⟩)) (us : List Value) (hy : a.eval y = .agg us.toArray) (t : TypeId) (vs : List Value) (hr : Rw w g t vs) (hi : (P.info? ty).map (·.size) = some us.length) (hfit : off + us.length ≤ vs.length) (h1 : ∀ u ∈ us, u.oneCell' = true)
    (hR : R undef (w.setRow g (lay vs off us).toArray)) : gives P o a w R := by
  unfold gives execOp
  simp only [ho, hx, hy, Instr.storeAt, Instr.sureAddr, Sem.run_bind, Sem.run_pure, Result.andThen_ok, run_storeVar_at w g off ty t us vs hr hi hfit h1]
  exact hR
theorem wpList_gives {x : Value} {w' : World} (h : gives P o a w fun v w2 => v = x ∧ w2 = w') (hgd : Region.wanted o (yielded ops a.tmps) = true)
    (hK : wpList P ops Q rest (a.put o.dst x) w') : wpList P ops Q (o :: rest) a w :=
  wpList_step fun K hKK => by
    rw [if_pos hgd]
    exact wp_of_gives h fun v w2 ⟨hv, hw⟩ => by subst hv hw; exact hKK _ _ hK
end

/-! ### lists of lists that are of one length -/
theorem flat_len {α : Type} {m : Nat} : ∀ (L : List (List α)), (∀ s ∈ L, s.length = m) → L.flatten.length = L.length * m
  | [], _ => by simp
  | s :: L, h => by
    have h0 := h s (by simp)
    have h1 := flat_len L (fun t ht => h t (by simp [ht]))
    simp only [List.flatten_cons, List.length_append, List.length_cons, Nat.add_mul, h0, h1]
    omega
theorem flat_split {α : Type} {m : Nat} {L : List (List α)} (h : ∀ s ∈ L, s.length = m) {i : Nat} {s : List α} (hi : L[i]? = some s) :
    L.flatten.take (i * m) = (L.take i).flatten ∧ L.flatten.drop (i * m + m) = (L.drop (i + 1)).flatten ∧ L.flatten = (L.take i).flatten ++ (s ++ (L.drop (i + 1)).flatten) := by
  obtain ⟨hlt, hs⟩ := List.getElem?_eq_some_iff.1 hi
  have e : L.flatten = (L.take i).flatten ++ (s ++ (L.drop (i + 1)).flatten) := by
    rw [← List.flatten_cons, ← List.flatten_append]
    congr 1
    rw [← hs, ← List.drop_eq_getElem_cons hlt, List.take_append_drop]
  have hl : (L.take i).flatten.length = i * m := by
    rw [flat_len (m := m) _ (fun t ht => h t (List.mem_of_mem_take ht)), List.length_take, Nat.min_eq_left (by omega)]
  have hsm : s.length = m := h s (List.mem_of_getElem? hi)
  refine ⟨?_, ?_, e⟩
  · rw [e, ← hl, List.take_left]
  · rw [e, ← hl, ← hsm, ← List.append_assoc, ← List.length_append, List.drop_left]
theorem flat_get {α : Type} {m : Nat} {L : List (List α)} (h : ∀ s ∈ L, s.length = m) {i : Nat} {s : List α} (hi : L[i]? = some s) {j : Nat} (hj : j < m) : L.flatten[i * m + j]? = s[j]? := by
  obtain ⟨h1, -, e⟩ := flat_split h hi
  have hsm : s.length = m := h s (List.mem_of_getElem? hi)
  have hl : (L.take i).flatten.length = i * m := by
    rw [flat_len (m := m) _ (fun t ht => h t (List.mem_of_mem_take ht)), List.length_take, Nat.min_eq_left (by have := (List.getElem?_eq_some_iff.1 hi).1; omega)]
  rw [e, List.getElem?_append_right (by omega), hl, Nat.add_sub_cancel_left, List.getElem?_append_left (by omega)]
theorem flat_set {α : Type} {m : Nat} {L : List (List α)} (h : ∀ s ∈ L, s.length = m) {i : Nat} {s t : List α} (hi : L[i]? = some s) (ht : t.length = m) : (L.set i t).flatten = L.flatten.take (i * m) ++ t ++ L.flatten.drop (i * m + m) := by
  obtain ⟨h1, h2, -⟩ := flat_split h hi
  obtain ⟨hlt, -⟩ := List.getElem?_eq_some_iff.1 hi
  rw [h1, h2, List.set_eq_take_append_cons_drop, if_pos hlt]
  simp

/-! ### the disk -/
/-- A disk: its sectors, the writes that are on their way, how many operations there were, the one in which the power goes off, is it off. -/
structure Dk where
  dur : List (List UInt8)
  pen : List (Nat × List UInt8)
  ops : Nat
  arm : Nat
  off : Bool
/-- How many writes there are up to the last one to a sector. -/
def lastP (pen : List (Nat × List UInt8)) (i : Nat) : Nat := pen.zipIdx.foldl (fun acc x => if x.1.1 = i then x.2 + 1 else acc) 0
theorem lastP_nil (i : Nat) : lastP [] i = 0 := rfl
theorem lastP_snoc (pen : List (Nat × List UInt8)) (x : Nat × List UInt8) (i : Nat) : lastP (pen ++ [x]) i = if x.1 = i then pen.length + 1 else lastP pen i := by
  unfold lastP
  rw [List.zipIdx_append, List.foldl_append]
  simp
def newL (n : Nat) (pen : List (Nat × List UInt8)) : List Value := (List.range n).map fun i => .int .i64 (lastP pen i : Int)
theorem newL_get (n : Nat) (pen : List (Nat × List UInt8)) (i : Nat) (h : i < n) : (newL n pen)[i]? = some (.int .i64 (lastP pen i : Int)) := by simp [newL, h]
theorem newL_snoc (n : Nat) (pen : List (Nat × List UInt8)) (x : Nat × List UInt8) (h : x.1 < n) : newL n (pen ++ [x]) = (newL n pen).set x.1 (.int .i64 ((pen.length + 1 : Nat) : Int)) := by
  apply List.ext_getElem?
  intro i
  by_cases hi : i < n
  · rw [newL_get _ _ _ hi, lastP_snoc, List.getElem?_set]
    by_cases he : x.1 = i
    · rw [if_pos he, if_pos he, if_pos (by rw [he]; simp [newL, hi])]
    · rw [if_neg he, if_neg he, newL_get _ _ _ hi]
  · rw [List.getElem?_eq_none (by simp [newL]; omega), List.getElem?_eq_none (by simp [newL]; omega)]
def penC (x : Nat × List UInt8) : List Value := .int .i64 (x.1 : Int) :: bs x.2
def pensC (l : List (Nat × List UInt8)) : List Value := (l.map penC).flatten
theorem penC_length (x : Nat × List UInt8) (h : x.2.length = 512) : (penC x).length = 513 := by simp [penC, bs_length, h]
theorem penC_one (x : Nat × List UInt8) : ∀ u ∈ penC x, u.oneCell' = true := by
  intro u hu
  rcases List.mem_cons.1 hu with rfl | hu
  · rfl
  · exact bs_one _ u hu
theorem pensC_append (l m : List (Nat × List UInt8)) : pensC (l ++ m) = pensC l ++ pensC m := by simp [pensC]
theorem pensC_lens {l : List (Nat × List UInt8)} (h : ∀ x ∈ l, x.2.length = 512) : ∀ s ∈ l.map penC, s.length = 513 := by
  intro s hs
  obtain ⟨x, hx, rfl⟩ := List.mem_map.1 hs
  exact penC_length x (h x hx)
theorem pensC_length {l : List (Nat × List UInt8)} (h : ∀ x ∈ l, x.2.length = 512) : (pensC l).length = l.length * 513 := by
  unfold pensC
  rw [flat_len (m := 513) _ (pensC_lens h), List.length_map]
/-- It is a right one. -/
structure Dk.Ok (D : Dk) : Prop where
  pos : 1 ≤ D.dur.length
  max : D.dur.length ≤ 4096
  dur : ∀ s ∈ D.dur, s.length = 512
  pen : ∀ x ∈ D.pen, x.1 < D.dur.length ∧ x.2.length = 512
theorem Dk.Ok.pens {D : Dk} (h : D.Ok) : ∀ x ∈ D.pen, x.2.length = 512 := fun x hx => (h.pen x hx).2
def diskC (gd gn : Nat) (A : Option Addr) (c : Nat) (D : Dk) : List Value :=
  [.slice (some ⟨gd, 0, none⟩) D.dur.length D.dur.length, .slice A D.pen.length c, .slice (some ⟨gn, 0, none⟩) D.dur.length D.dur.length, .int .i64 (D.ops : Int), .int .i64 (D.arm : Int), .bool D.off]
/-- How it lies. -/
structure DiskAt (B : Nat) (w : World) (g gd gn : Nat) (A : Option Addr) (c : Nat) (D : Dk) : Prop where
  blk : Rw w g 99 (diskC gd gn A c D)
  dur : Rw w gd 107 (bs D.dur.flatten)
  new : Rw w gn 3 (newL D.dur.length D.pen)
  pen : w.ownsRow B 109 513 (.slice A D.pen.length c) D.pen.length (pensC D.pen)
  base : B ≤ g ∧ B ≤ gd ∧ B ≤ gn
theorem Rw.apart {w : World} {g g2 : Nat} {t t2 : TypeId} {vs vs2 : List Value} (h : Rw w g t vs) (h2 : Rw w g2 t2 vs2) (ht : t ≠ t2) : g ≠ g2 := fun e => by
  subst e
  unfold Rw at h h2
  rw [h] at h2
  injection h2 with h2
  injection h2 with _ h3 _
  exact ht h3
theorem Rw.apart_own {w : World} {g B size n c : Nat} {t t2 : TypeId} {vs xs : List Value} {A : Option Addr} (h : Rw w g t vs) (h2 : w.ownsRow B t2 size (.slice A n c) n xs) (ht : t ≠ t2) : ∀ a, A = some a → a.block ≠ g := fun a ha e => by
  rcases h2.2 with ⟨hv, _⟩ | ⟨g2, cap, cur, hv, _, hg, _⟩
  · injection hv with hv; rw [ha] at hv; cases hv
  · injection hv with hv
    rw [ha] at hv
    injection hv with hv
    subst hv
    simp only at e
    subst e
    unfold Rw at h
    rw [hg] at h
    injection h with h
    injection h with _ h3 _
    exact ht h3.symm
section
variable {B g gd gn c : Nat} {w w' : World} {A : Option Addr} {D : Dk}
theorem DiskAt.ne (h : DiskAt B w g gd gn A c D) : g ≠ gd ∧ g ≠ gn ∧ gd ≠ gn ∧ (∀ a, A = some a → a.block ≠ g ∧ a.block ≠ gd ∧ a.block ≠ gn) :=
  ⟨h.blk.apart h.dur (by decide), h.blk.apart h.new (by decide), h.dur.apart h.new (by decide), fun a ha => ⟨h.blk.apart_own h.pen (by decide) a ha, h.dur.apart_own h.pen (by decide) a ha, h.new.apart_own h.pen (by decide) a ha⟩⟩
/-- Nothing but the disk's own blocks has turned, and new ones have come. -/
structure Dfr (g gd gn : Nat) (A : Option Addr) (w w' : World) : Prop where
  os : w'.os = w.os
  tape : w'.tape = w.tape
  output : w'.output = w.output
  size : w.heap.size ≤ w'.heap.size
  other : ∀ k, k < w.heap.size → k ≠ g → k ≠ gd → k ≠ gn → (∀ a, A = some a → a.block ≠ k) → w'.heap[k]? = w.heap[k]?
theorem Dfr.refl (g gd gn : Nat) (A : Option Addr) (w : World) : Dfr g gd gn A w w := ⟨rfl, rfl, rfl, Nat.le_refl _, fun _ _ _ _ _ _ => rfl⟩
/-- The pending writes' block is as it was, or a new one. -/
def Newer (w : World) (A A' : Option Addr) : Prop := ∀ a', A' = some a' → (∃ a, A = some a ∧ a.block = a'.block) ∨ w.heap.size ≤ a'.block
theorem Newer.refl (w : World) (A : Option Addr) : Newer w A A := fun a' h => .inl ⟨a', h, rfl⟩
theorem Newer.trans {A A' A'' : Option Addr} {w w' : World} (h : Newer w A A') (k : Newer w' A' A'') (hs : w.heap.size ≤ w'.heap.size) : Newer w A A'' := fun a ha => by
  rcases k a ha with ⟨b, hb, e⟩ | h2
  · rcases h b hb with ⟨d, hd, e2⟩ | h3
    · exact .inl ⟨d, hd, e2.trans e⟩
    · exact .inr (by omega)
  · exact .inr (by omega)
theorem Dfr.trans {w w' w'' : World} {A A' : Option Addr} (h : Dfr g gd gn A w w') (k : Dfr g gd gn A' w' w'') (hn : Newer w A A') : Dfr g gd gn A w w'' :=
  ⟨k.os.trans h.os, k.tape.trans h.tape, k.output.trans h.output, Nat.le_trans h.size k.size, fun b hb h1 h2 h3 h4 => (k.other b (Nat.lt_of_lt_of_le hb h.size) h1 h2 h3 (fun a ha e => by
    rcases hn a ha with ⟨d, hd, e2⟩ | h5
    · exact h4 d hd (e2.trans e)
    · omega)).trans (h.other b hb h1 h2 h3 h4)⟩
theorem Dfr.ext (hx : Ext w w') : Dfr g gd gn A w w' := ⟨hx.os, hx.tape, hx.output, hx.size, fun k hk _ _ _ _ => Below.block hx k hk⟩
theorem Dfr.cell (i : Nat) (v : Value) : Dfr g gd gn A w (w.setCell ⟨g, i, none⟩ v) := ⟨rfl, rfl, rfl, by simp, fun k _ h1 _ _ _ => Below.heap_setCell w _ v k h1⟩
/-- What a call leaves. -/
def DPost (B g gd gn : Nat) (w : World) (A : Option Addr) (r : Value) (D' : Dk) (e : Ending) (w' : World) : Prop := ∃ A' c', e = .returned r ∧ DiskAt B w' g gd gn A' c' D' ∧ Dfr g gd gn A w w' ∧ Newer w A A'
theorem DiskAt.ext (h : DiskAt B w g gd gn A c D) (hx : Ext w w') : DiskAt B w' g gd gn A c D :=
  ⟨h.blk.ext hx, h.dur.ext hx, h.new.ext hx, by
    refine ⟨h.pen.1, ?_⟩
    rcases h.pen.2 with hn | ⟨g', cap, cur, hv, hb, hg, rest⟩
    · exact .inl hn
    · exact .inr ⟨g', cap, cur, hv, hb, (Below.block hx g' (Array.getElem?_eq_some_iff.1 hg).1).trans hg, rest⟩, h.base⟩
theorem ownsRow_far {w w' : World} {B t size n c : Nat} {A : Option Addr} {xs : List Value} (h : w.ownsRow B t size (.slice A n c) n xs) (hk : ∀ a, A = some a → w'.heap[a.block]? = w.heap[a.block]?) : w'.ownsRow B t size (.slice A n c) n xs := by
  refine ⟨h.1, ?_⟩
  rcases h.2 with hn | ⟨g', cap, cur, hv, hb, hg, rest⟩
  · exact .inl hn
  · refine .inr ⟨g', cap, cur, hv, hb, ?_, rest⟩
    injection hv with hA
    rw [hk _ hA]
    exact hg
/-- A field written. -/
theorem DiskAt.put (h : DiskAt B w g gd gn A c D) (i : Nat) (v : Value) (D' : Dk) (hd : D'.dur = D.dur) (hp : D'.pen = D.pen) (hl : (diskC gd gn A c D).set i v = diskC gd gn A c D') : DiskAt B (w.setCell ⟨g, i, none⟩ v) g gd gn A c D' := by
  obtain ⟨n1, n2, n3, n4⟩ := h.ne
  refine ⟨by rw [← hl]; exact h.blk.set i v, by rw [hd]; exact h.dur.far (fun e => n1 e.symm) v, by rw [hd, hp]; exact h.new.far (fun e => n2 e.symm) v, ?_, h.base⟩
  rw [hp]
  exact ownsRow_far h.pen fun a ha => Below.heap_setCell w ⟨g, i, none⟩ v a.block (n4 a ha).1
end
end Go.Proofs.YtnkcneccolbbdaaGreatDoor
namespace Go.Proofs.YtnkcneccolbbdaaGreatDoor
open Go.RowKit

section
variable {B g gd gn c : Nat} {w : World} {A : Option Addr} {D : Dk}
theorem disk_cells (h : DiskAt B w g gd gn A c D) : w.cell? ⟨g, 0, none⟩ = some (.slice (some ⟨gd, 0, none⟩) D.dur.length D.dur.length) ∧ w.cell? ⟨g, 1, none⟩ = some (.slice A D.pen.length c) ∧ w.cell? ⟨g, 2, none⟩ = some (.slice (some ⟨gn, 0, none⟩) D.dur.length D.dur.length) ∧
    w.cell? ⟨g, 3, none⟩ = some (.int .i64 (D.ops : Int)) ∧ w.cell? ⟨g, 4, none⟩ = some (.int .i64 (D.arm : Int)) ∧ w.cell? ⟨g, 5, none⟩ = some (.bool D.off) :=
  ⟨h.blk.cell (i := 0) rfl, h.blk.cell (i := 1) rfl, h.blk.cell (i := 2) rfl, h.blk.cell (i := 3) rfl, h.blk.cell (i := 4) rfl, h.blk.cell (i := 5) rfl⟩
/-- Nothing has turned. -/
def Same (w : World) (r : Value) (e : Ending) (w' : World) : Prop := e = .returned r ∧ w = w'
set_option maxHeartbeats 800000 in
theorem has_any (h : DiskAt B w g gd gn A c D) (i : Int) : Calls Tryz.prog 57 #[.pointer (some ⟨g, 0, none⟩), .int .i64 i] w (Same w (.bool (decide (0 ≤ i) && decide (i < (D.dur.length : Int))))) := by
  obtain ⟨c0, -⟩ := disk_cells h
  obtain ⟨n, HN⟩ : ∃ n, Hid (D.dur.length = n) := ⟨_, hide rfl⟩
  rw [HN.out] at c0 ⊢
  clear h
  by_cases h0 : 0 ≤ i
  · by_cases h1 : i < (n : Int)
    · go_enter Tryz.func57, Tryz.ntmps57
      go_wp2
      go_ret
      exact ⟨by simp [h0, h1], rfl⟩
    · go_enter Tryz.func57, Tryz.ntmps57
      go_wp2
      go_ret
      exact ⟨by simp [h0, h1], rfl⟩
  · go_enter Tryz.func57, Tryz.ntmps57
    go_wp2
    go_ret
    exact ⟨by simp; omega, rfl⟩
/-- One operation. -/
def Dk.op (D : Dk) : Dk := { D with ops := D.ops + 1, arm := D.arm - 1, off := D.off || decide (D.arm = 1) }
def Dk.opE (D : Dk) : Int := if D.arm = 1 then 8 else 0
set_option maxRecDepth 20000 in
set_option maxHeartbeats 1600000 in
theorem operate_any (h : DiskAt B w g gd gn A c D) (ho : D.ops < 1000000000) (ha : D.arm < 9223372036854775808) : Calls Tryz.prog 61 #[.pointer (some ⟨g, 0, none⟩)] w (DPost B g gd gn w A (.int .i64 D.opE) D.op) := by
  obtain ⟨-, -, -, c3, c4, c5⟩ := disk_cells h
  have f3 := h.blk.frozen 3
  have h1 := h.put 3 (.int .i64 ((D.ops : Int) + 1)) { D with ops := D.ops + 1 } rfl rfl rfl
  have f4 := h1.blk.frozen 4
  obtain ⟨-, -, -, -, d4, d5⟩ := disk_cells h1
  simp only at d4 d5
  by_cases h0 : D.arm = 0
  · have HL : Hid (DiskAt B (w.setCell ⟨g, 3, none⟩ (.int .i64 ((D.ops : Int) + 1))) g gd gn A c D.op) := by
      have e : D.op = { D with ops := D.ops + 1 } := by unfold Dk.op; simp [h0]
      rw [e]; exact h1
    have HE : Hid (D.opE = 0) := by unfold Dk.opE; rw [if_neg (by omega)]; exact hide rfl
    rw [HE.out]
    rw [h0] at d4 c4
    generalize D.op = D' at *
    generalize D.ops = q at *
    have hq : (q : Int) < 1000000000 := by omega
    clear h h1 h0 ha
    go_enter Tryz.func61, Tryz.ntmps61
    go_wp2
    go_ret
    exact ⟨A, c, rfl, HL.out, Dfr.cell 3 _, Newer.refl _ _⟩
  · by_cases h3 : D.arm = 1
    · have h2 := h1.put 4 (.int .i64 0) { D with ops := D.ops + 1, arm := 0 } rfl rfl rfl
      have f5 := h2.blk.frozen 5
      obtain ⟨-, -, -, -, e4, e5⟩ := disk_cells h2
      have h4 := h2.put 5 (.bool true) D.op rfl rfl (by
        unfold Dk.op diskC
        simp [h3])
      have HL := hide h4
      have HE : Hid (D.opE = 8) := by unfold Dk.opE; rw [if_pos h3]; exact hide rfl
      have k4 : w.cell? ⟨g, 4, none⟩ = some (.int .i64 1) := by rw [c4, h3]; rfl
      have l4 : (w.setCell ⟨g, 3, none⟩ (.int .i64 ((D.ops : Int) + 1))).cell? ⟨g, 4, none⟩ = some (.int .i64 1) := by rw [d4, h3]; rfl
      have m4 : ((w.setCell ⟨g, 3, none⟩ (.int .i64 ((D.ops : Int) + 1))).setCell ⟨g, 4, none⟩ (.int .i64 0)).cell? ⟨g, 4, none⟩ = some (.int .i64 0) := e4
      rw [HE.out]
      generalize D.op = D' at *
      generalize D.ops = q at *
      have hq : (q : Int) < 1000000000 := by omega
      clear h h1 h2 h4 h0 h3 ha c4 d4 e4
      go_enter Tryz.func61, Tryz.ntmps61
      go_wp2
      go_ret
      exact ⟨A, c, rfl, HL.out, ((Dfr.cell 3 _).trans (Dfr.cell 4 _) (Newer.refl _ _)).trans (Dfr.cell 5 _) (Newer.refl _ _), Newer.refl _ _⟩
    · have h2 := h1.put 4 (.int .i64 ((D.arm : Int) - 1)) { D with ops := D.ops + 1, arm := D.arm - 1 } rfl rfl (by
        unfold diskC
        simp only [List.set_cons_succ, List.set_cons_zero]
        rw [show ((D.arm - 1 : Nat) : Int) = (D.arm : Int) - 1 by omega])
      have f5 := h2.blk.frozen 5
      obtain ⟨-, -, -, -, e4, e5⟩ := disk_cells h2
      simp only at e4 e5
      rw [show ((D.arm - 1 : Nat) : Int) = (D.arm : Int) - 1 by omega] at e4
      have HL : Hid (DiskAt B ((w.setCell ⟨g, 3, none⟩ (.int .i64 ((D.ops : Int) + 1))).setCell ⟨g, 4, none⟩ (.int .i64 ((D.arm : Int) - 1))) g gd gn A c D.op) := by
        have e : D.op = { D with ops := D.ops + 1, arm := D.arm - 1 } := by unfold Dk.op; simp [h3]
        rw [e]; exact h2
      have HE : Hid (D.opE = 0) := by unfold Dk.opE; rw [if_neg h3]; exact hide rfl
      rw [HE.out]
      generalize D.op = D' at *
      generalize D.ops = q at *
      generalize D.arm = m at *
      have hq : (q : Int) < 1000000000 := by omega
      have hm1 : ((m : Int) == 0) = false := by simpa using h0
      have hm2 : (0 : Int) < (m : Int) - 1 := by omega
      have hm4 : IntKind.i64.wrap ((m : Int) - 1) = (m : Int) - 1 := by rw [IntKind.wrap_i64]; omega
      have hm5 : (2 : Int) ≤ (m : Int) := by omega
      clear h h1 h2 h0 h3 ha
      go_enter Tryz.func61, Tryz.ntmps61
      have HM := hide (show (1 : Int) < (m : Int) by omega)
      go_upto_region 5 with (fail)
      clear hm1 hm2 hm5 hm4 hq ho c4 c3 c5 d5 f3 f4 d4
      have hm2 := HM.out
      go_wp2
      go_ret
      exact ⟨A, c, rfl, HL.out, (Dfr.cell 3 _).trans (Dfr.cell 4 _) (Newer.refl _ _), Newer.refl _ _⟩
end
end Go.Proofs.YtnkcneccolbbdaaGreatDoor
namespace Go.Proofs.YtnkcneccolbbdaaGreatDoor
open Go.RowKit

/-- What a sector reads as. -/
def Dk.at (D : Dk) (i : Nat) : List UInt8 := if lastP D.pen i = 0 then D.dur.getD i [] else (D.pen.getD (lastP D.pen i - 1) (0, [])).2
/-- A new block that holds these bytes, and a number. -/
def RPost (w : World) (l : List UInt8) (e : Ending) (w' : World) : Prop := ∃ h, e = .returned (.tuple #[.slice (some ⟨h, 0, none⟩) 512 512, .int .i64 0]) ∧ Rw w' h 107 (bs l) ∧ w.heap.size ≤ h ∧ Ext w w'
theorem lastP_at : ∀ (n : Nat) (pen : List (Nat × List UInt8)) (i : Nat), pen.length = n → lastP pen i = 0 ∨ ∃ s, pen[lastP pen i - 1]? = some (i, s) ∧ lastP pen i ≤ pen.length ∧ 1 ≤ lastP pen i
  | 0, pen, i, h => by
    have : pen = [] := List.length_eq_zero_iff.1 h
    subst this
    exact .inl rfl
  | n + 1, pen, i, h => by
    rcases List.eq_nil_or_concat pen with rfl | ⟨p, x, rfl⟩
    · cases h
    · rw [List.concat_eq_append] at h ⊢
      simp only [List.length_append, List.length_cons, List.length_nil] at h
      rw [lastP_snoc]
      by_cases hx : x.1 = i
      · rw [if_pos hx]
        right
        obtain ⟨a, s⟩ := x
        simp only at hx
        subst hx
        exact ⟨s, by simp, by simp, by omega⟩
      · rw [if_neg hx]
        rcases lastP_at n p i (by omega) with h0 | ⟨s, h1, h2, h3⟩
        · exact .inl h0
        · exact .inr ⟨s, by rw [List.getElem?_append_left (by omega)]; exact h1, by simp; omega, h3⟩
theorem gives_alloc_z {P : Program} {o : Oper} {a : Act} {w : World} {R : Value → World → Prop} (ty : TypeId) (ho : o.op = .alloc ty) (cs : Array Value) (n : Nat) (hz : (P.info? ty).map (fun i => (i.zero, i.size)) = some (some (.agg cs), n))
    (hR : R (.pointer (some ⟨w.heap.size, 0, none⟩)) (w.alloc (.cells cs ty))) : gives P o a w R := by
  have hz2 := (zero_of_info hz).1 w
  have he : (execOp a.eval o).run P w = .ok (.value (.pointer (some ⟨w.heap.size, 0, none⟩))) (w.alloc (.cells cs ty)) := by simp [execOp, ho, hz2, newVar, newRow, newObj, Value.cells, go_sem]; rfl
  exact gives_of_run he hR
theorem zeroSec : (Tryz.prog.info? 107).map (fun i => (i.zero, i.size)) = some (some (.agg (bs (List.replicate 512 0)).toArray), 512) := by kernel_rfl
theorem sizeSec : (Tryz.prog.info? 107).map (·.size) = some 512 := by kernel_rfl
theorem run_all512 (g off : Nat) (w : World) : (Instr.sliceAt 107 (.pointer (some ⟨g, off, none⟩)) none none none).run Tryz.prog w = .ok (.slice (some ⟨g, off, none⟩) 512 512) w := by
  simp [go_sem, Tryz.underlying107]
theorem gives_cutall {P : Program} {o : Oper} {a : Act} {w : World} {R : Value → World → Prop} {x : Operand} {t : Nat} {u v : Value} (h : o.op = .slice t x none none none) (hx : a.eval x = u) (hrun : (Instr.sliceAt t u none none none).run P w = .ok v w) (hR : R v w) : gives P o a w R := by
  refine gives_of_run (w' := w) (v := v) ?_ hR
  unfold execOp
  simp only [h, Option.map_none, hx, Sem.run_bind, hrun, Result.andThen_ok, Sem.run_pure]
section
variable {B g gd gn c : Nat} {w : World} {A : Option Addr} {D : Dk}
set_option maxRecDepth 20000 in
set_option maxHeartbeats 1600000 in
theorem read_any (h : DiskAt B w g gd gn A c D) (ok : D.Ok) (hoff : D.off = false) (hf : D.pen.length < 1000000000) (k : Nat) (hk : k < D.dur.length) : Calls Tryz.prog 27 #[.pointer (some ⟨g, 0, none⟩), .int .i64 (k : Int)] w (RPost w (D.at k)) := by
  obtain ⟨c0, c1, c2, -, -, c5⟩ := disk_cells h
  rw [hoff] at c5
  have KH := has_any h (k : Int)
  rw [show (decide ((0 : Int) ≤ (k : Int)) && decide ((k : Int) < (D.dur.length : Int))) = true by simp; omega] at KH
  obtain ⟨n, HN⟩ : ∃ n, Hid (D.dur.length = n) := ⟨_, hide rfl⟩
  rw [HN.out] at c0 c2 hk
  have hki : (k : Int) < (n : Int) := by omega
  have hki0 : (0 : Int) ≤ (k : Int) := by omega
  have H := hide h
  have OK := hide ok
  clear h ok hoff
  obtain ⟨s, hs⟩ : ∃ s, D.dur[k]? = some s := ⟨_, List.getElem?_eq_getElem (by rw [HN.out]; exact hk)⟩
  have hsl : s.length = 512 := OK.out.dur s (List.mem_of_getElem? hs)
  have HC : Hid (∀ j v, (bs s)[j]? = some v → w.cell? ⟨gd, k * 512 + j, none⟩ = some v) := hide fun j v hj => by
    refine H.out.dur.cell ?_
    rw [bs_get] at hj ⊢
    rw [flat_get OK.out.dur hs (by
      rcases Nat.lt_or_ge j 512 with h | h
      · exact h
      · rw [List.getElem?_eq_none (by omega)] at hj; cases hj)]
    exact hj
  obtain ⟨q, HQ⟩ : ∃ q, Hid (lastP D.pen k = q) := ⟨_, hide rfl⟩
  have HCN : Hid (w.cell? ⟨gn, k, none⟩ = some (.int .i64 (q : Int))) := hide (H.out.new.cell (by rw [newL_get _ _ _ (by rw [HN.out]; exact hk), HQ.out]))
  have HSL := hide hsl
  have HS := hide hs
  clear hs hsl
  by_cases hq : q = 0
  · have HA : Hid (D.at k = s) := hide (by unfold Dk.at; rw [if_pos (by rw [HQ.out]; exact hq), List.getD_eq_getElem?_getD, HS.out]; rfl)
    rw [HA.out]
    have hqi : ¬ (0 : Int) < (q : Int) := by omega
    clear hq
    go_enter Tryz.func27, Tryz.ntmps27
    go_wp2_with (first
      | (go_at_call 57; refine KH.mono ?_; rintro e w1 ⟨rfl, rfl⟩)
      | ((with_reducible show wpList _ _ _ (⟨some 27, .load _ _, _, _, _, _⟩ :: _) _ _); refine wpList_gives (gives_load_at 107 (.tmp 26) rfl gd (k * 512) rfl (bs s) 512 (agg_arr Tryz.underlying107 _) sizeSec (by rw [bs_length, HSL.out]) HC.out ⟨rfl, rfl⟩) rfl ?_)
      | ((with_reducible show wpList _ _ _ (⟨some 6, .alloc _, _, _, _, _⟩ :: _) _ _); refine wpList_gives (gives_alloc_z 107 rfl _ 512 zeroSec ⟨rfl, rfl⟩) rfl ?_)
      | ((with_reducible show wpList _ _ _ (⟨none, .store _ (.tmp 6) (.tmp 27), _, _, _, _⟩ :: _) _ _);
         refine wpList_store_rw rfl 107 (.tmp 6) (.tmp 27) rfl _ rfl (bs s) rfl 107 (bs (List.replicate 512 0)) (heap_alloc_new w _) 512 sizeSec (by rw [bs_length, HSL.out]) (by rw [bs_length, bs_length, HSL.out]; simp) (List.all_eq_true.2 (bs_one _)) ?_;
         intro w3 hr3 hl3;
         have hx3 : Ext w w3 := (Ext.alloc w _).laid hl3 (Nat.le_refl _);
         have HR3 := hide hr3;
         have k2 := (Ext.keeps hx3).cell c2;
         have kn := (Ext.keeps hx3).cell HCN.out; clear hr3 hl3)
      | ((with_reducible show wpList _ _ _ (⟨some 46, _, _, _, _, _⟩ :: _) _ _); refine wpList_gives (gives_cutall rfl rfl (run_all512 _ _ _) ⟨rfl, rfl⟩) rfl ?_))
    go_ret2
    exact ⟨w.heap.size, rfl, HR3.out, Nat.le_refl _, hx3⟩
  · rcases lastP_at _ D.pen k rfl with h0 | ⟨d, hd, hle, hge⟩
    · rw [HQ.out] at h0; exact absurd h0 hq
    rw [HQ.out] at hd hle hge
    obtain ⟨p, rfl⟩ : ∃ p, q = p + 1 := ⟨q - 1, by omega⟩
    have hdl : d.length = 512 := (OK.out.pen (k, d) (List.mem_of_getElem? hd)).2
    have HA : Hid (D.at k = d) := hide (by unfold Dk.at; rw [if_neg (by rw [HQ.out]; exact hq), HQ.out, List.getD_eq_getElem?_getD, hd]; rfl)
    rw [HA.out]
    obtain ⟨m, HM⟩ : ∃ m, Hid (D.pen.length = m) := ⟨_, hide rfl⟩
    obtain ⟨pb, hpb⟩ : ∃ pb, A = some ⟨pb, 0, none⟩ := by
      rcases H.out.pen.2 with ⟨_, h0⟩ | ⟨g', _, _, hv, _⟩
      · omega
      · injection hv with hv; exact ⟨g', hv⟩
    subst hpb
    have HCP : Hid (∀ j v, (bs d)[j]? = some v → w.cell? ⟨pb, p * 513 + 1 + j, none⟩ = some v) := hide fun j v hj => by
      have h1 := H.out.pen.cells (g := pb) rfl (p * 513 + (1 + j)) v (by
        unfold pensC
        rw [flat_get (m := 513) (pensC_lens OK.out.pens) (i := p) (s := penC (k, d)) (by rw [List.getElem?_map]; simp only [Nat.add_sub_cancel] at hd; rw [hd]; rfl) (by
          have := (List.getElem?_eq_some_iff.1 hj).1
          rw [bs_length, hdl] at this
          omega)]
        unfold penC
        rw [Nat.add_comm 1 j]
        exact hj)
      rw [add_flat, Nat.zero_add, ← Nat.add_assoc] at h1
      exact h1
    rw [HM.out] at c1 hle
    have HCN2 : Hid (w.cell? ⟨gn, k, none⟩ = some (.int .i64 ((p : Int) + 1))) := hide HCN.out
    have hpm : (p : Int) < (m : Int) := by omega
    have hpq : (p : Int) < 1000000000 := by have := HM.out; omega
    have hp0 : (0 : Int) ≤ (p : Int) := by omega
    have hqi : (0 : Int) < (p : Int) + 1 := by omega
    have HDL := hide hdl
    have HP := hide hpm
    clear hq hd hle hge hdl HCN
    go_enter Tryz.func27, Tryz.ntmps27
    go_wp2_with (first
      | (go_at_call 57; refine KH.mono ?_; rintro e w1 ⟨rfl, rfl⟩)
      | ((with_reducible show wpList _ _ _ (⟨some 27, .load _ _, _, _, _, _⟩ :: _) _ _); refine wpList_gives (gives_load_at 107 (.tmp 26) rfl gd (k * 512) rfl (bs s) 512 (agg_arr Tryz.underlying107 _) sizeSec (by rw [bs_length, HSL.out]) HC.out ⟨rfl, rfl⟩) rfl ?_)
      | ((with_reducible show wpList _ _ _ (⟨some 6, .alloc _, _, _, _, _⟩ :: _) _ _); refine wpList_gives (gives_alloc_z 107 rfl _ 512 zeroSec ⟨rfl, rfl⟩) rfl ?_)
      | ((with_reducible show wpList _ _ _ (⟨none, .store _ (.tmp 6) (.tmp 27), _, _, _, _⟩ :: _) _ _);
         refine wpList_store_rw rfl 107 (.tmp 6) (.tmp 27) rfl _ rfl (bs s) rfl 107 (bs (List.replicate 512 0)) (heap_alloc_new w _) 512 sizeSec (by rw [bs_length, HSL.out]) (by rw [bs_length, bs_length, HSL.out]; simp) (List.all_eq_true.2 (bs_one _)) ?_;
         intro w3 hr3 hl3;
         have hx3 : Ext w w3 := (Ext.alloc w _).laid hl3 (Nat.le_refl _);
         have HR3 := hide hr3;
         have k2 := (Ext.keeps hx3).cell c2;
         have k1 := (Ext.keeps hx3).cell c1;
         have kn := (Ext.keeps hx3).cell HCN2.out; clear hr3 hl3)
      | ((with_reducible show wpList _ _ _ (⟨some 45, .load _ _, _, _, _, _⟩ :: _) _ _); refine wpList_gives (gives_load_at 107 (.tmp 44) rfl pb (p * 513 + 1) rfl (bs d) 512 (agg_arr Tryz.underlying107 _) sizeSec (by rw [bs_length, HDL.out]) (fun j v hj => (Ext.keeps hx3).cell (HCP.out j v hj)) ⟨rfl, rfl⟩) rfl ?_)
      | ((with_reducible show wpList _ _ _ (⟨none, .store _ (.tmp 6) (.tmp 45), _, _, _, _⟩ :: _) _ _);
         refine wpList_store_rw rfl 107 (.tmp 6) (.tmp 45) rfl _ rfl (bs d) rfl 107 (bs s) HR3.out 512 sizeSec (by rw [bs_length, HDL.out]) (by rw [bs_length, bs_length, HDL.out, HSL.out]) (List.all_eq_true.2 (bs_one _)) ?_;
         intro w4 hr4 hl4;
         have hx4 : Ext w w4 := hx3.laid hl4 (Nat.le_refl _);
         have HR4 := hide hr4; clear hr4 hl4)
      | ((with_reducible show wpList _ _ _ (⟨some 46, _, _, _, _, _⟩ :: _) _ _); refine wpList_gives (gives_cutall rfl rfl (run_all512 _ _ _) ⟨rfl, rfl⟩) rfl ?_))
    go_ret2
    exact ⟨w.heap.size, rfl, HR4.out, Nat.le_refl _, hx4⟩
theorem read_none (i : Int) : Calls Tryz.prog 27 #[.pointer none, .int .i64 i] w (Same w (.tuple #[.slice none 0 0, .int .i64 6])) := by
  go_enter Tryz.func27, Tryz.ntmps27
  go_wp2
  go_ret2
  exact ⟨rfl, rfl⟩
theorem read_arg (h : DiskAt B w g gd gn A c D) (i : Int) (hi : i < 0 ∨ (D.dur.length : Int) ≤ i) : Calls Tryz.prog 27 #[.pointer (some ⟨g, 0, none⟩), .int .i64 i] w (Same w (.tuple #[.slice none 0 0, .int .i64 1])) := by
  have KH := has_any h i
  rw [show (decide ((0 : Int) ≤ i) && decide (i < (D.dur.length : Int))) = false by simp; omega] at KH
  clear h hi
  go_enter Tryz.func27, Tryz.ntmps27
  go_wp2_with (go_at_call 57; refine KH.mono ?_; rintro e w1 ⟨rfl, rfl⟩)
  go_ret2
  exact ⟨rfl, rfl⟩
theorem read_off (h : DiskAt B w g gd gn A c D) (hoff : D.off = true) (i : Int) (h0 : 0 ≤ i) (hi : i < (D.dur.length : Int)) : Calls Tryz.prog 27 #[.pointer (some ⟨g, 0, none⟩), .int .i64 i] w (Same w (.tuple #[.slice none 0 0, .int .i64 8])) := by
  have KH := has_any h i
  rw [show (decide ((0 : Int) ≤ i) && decide (i < (D.dur.length : Int))) = true by simp; omega] at KH
  obtain ⟨-, -, -, -, -, c5⟩ := disk_cells h
  rw [hoff] at c5
  clear h hoff h0 hi
  go_enter Tryz.func27, Tryz.ntmps27
  go_wp2_with (go_at_call 57; refine KH.mono ?_; rintro e w1 ⟨rfl, rfl⟩)
  go_ret2
  exact ⟨rfl, rfl⟩
end
end Go.Proofs.YtnkcneccolbbdaaGreatDoor
