/-
  The walk of CodecCuts.
  A REGION THAT DRAWS ITS ORDER AND WHOSE LAST OPERATION (a store, a copy) WAITS FOR ALL THE OTHERS: all but the last only make memory or read; the last may write.
  The walk of CodecEncodes.
-/
import Derived.Deep.CutRange
import Derived.RegionTactic
import Derived.Deep.RegionLaw
import Derived.Test.YtpdikmcaihlbaaaDoorPkCdE20
import Derived.Test.YtpdikmcaihlbaaaDoorPkCdE23
import Derived.Test.YtpdikmcaihlbaaaDoorPkCdE25
import Derived.Test.YtpdikmcaihlbaaaDoorPkCdE26
import Derived.Test.YtpdikmcaihlbaaaDoorPkCdE27
import Derived.Test.YtpdikmcaihlbaaaDoorPkCdE28
set_option linter.unusedVariables false
set_option linter.unusedSimpArgs false

namespace Go.Proofs.YtpdikmcaihlbaaaDoor
open Go.RowKit

/-- What Decode tells where there is nothing to read. -/
def DecNo (w : World) (e : Ending) (w' : World) : Prop := Ext w w' ∧ e = .returned (.tuple #[.slice none 0 0, .int .i64 3])
theorem encT_cases (L : List Vl) : (∃ k : Int, encT L = (k, none) ∧ ((k == 0) = false) ∧ ((k != 0) = true)) ∨ (L.length ≤ 12 ∧ L.all vOk = true ∧ encT L = (0, some (encB L))) := by
  unfold encT
  by_cases h : 12 < L.length
  · rw [if_pos h]; exact .inl ⟨2, rfl, rfl, rfl⟩
  · rw [if_neg h]
    by_cases h2 : L.all vOk = true
    · rw [if_pos h2]; exact .inr ⟨by omega, h2, rfl⟩
    · rw [if_neg h2]; exact .inl ⟨3, rfl, rfl, rfl⟩
theorem encB_len (L : List Vl) (h12 : L.length ≤ 12) (hall : L.all vOk = true) (hb : ∀ x ∈ L, VlIn x) : 1 ≤ (encB L).length ∧ (encB L).length ≤ 800 := by
  have h := rowsV_len L hall hb
  unfold encB
  rw [List.length_cons]
  omega
set_option maxRecDepth 20000 in
set_option maxHeartbeats 3200000 in
theorem codecCuts_walk (A : Option Addr) (L : List Vl) (n c : Nat) (cut more : Nat) (w : World) (hr : RdV w A L) (hn : L.length = n) (hnc : n ≤ c) (hl : n ≤ 140737488355328) (hb : ∀ x ∈ L, VlIn x) (hcut : cut < 65536) (hmore : more < 256) (hT : Tabs w) :
    Calls Tryd.prog 5 #[.slice A n c, .int .u16 (cut : Int), .int .u8 (more : Int)] w (RetB w true) := by
  have KA := hide (fun (W : World) (hW : Ext w W) => awake_any W (hT.ext hW))
  have KE := hide (fun (W : World) (hW : Ext w W) => encode_any A L n c W (hr.ext hW) hn hnc hl hb (hT.ext hW))
  rcases encT_cases L with ⟨k, hk, hk0, hk1⟩ | ⟨h12, hall, hE⟩
  · rw [hk] at KE
    clear hr hn hnc hl hb hT hk
    go_enter Tryd.func5, Tryd.ntmps5
    go_wp2_with (first
      | (go_at_call 11; (with_reducible refine (KA.out _ (Ext.refl _)).mono ?_); rintro e w1 ⟨rfl, hx1⟩; have X1 := hide hx1)
      | (go_at_call 14; (with_reducible refine (KE.out _ X1.out).mono ?_); rintro e w2 ⟨hx2, rfl⟩; have X2 := hide (X1.out.trans hx2)))
    go_ret
    exact ⟨rfl, X2.out⟩
  · rw [hE] at KE
    have hlen := encB_len L h12 hall hb
    obtain ⟨FL, HFL⟩ : ∃ l, Hid (encB L = l) := ⟨_, hide rfl⟩
    obtain ⟨NL, HNL⟩ : ∃ n, Hid (FL.length = n) := ⟨_, hide rfl⟩
    rw [HFL.out, HNL.out] at hlen
    rw [HFL.out] at KE
    obtain ⟨J, HJ⟩ : ∃ j, Hid (cut % NL = j) := ⟨_, hide rfl⟩
    have hJ : J < NL := by have := HJ.out; have := Nat.mod_lt cut (show 0 < NL by omega); omega
    have hJI : (cut : Int) % (NL : Int) = (J : Int) := by rw [← Int.natCast_emod, HJ.out]
    have HC : Hid (rowAt (FL.take J) = none) := hide (by rw [← HFL.out]; exact row_cut L h12 hall hb J (by rw [HFL.out, HNL.out]; exact hJ))
    obtain ⟨FM, HFM⟩ : ∃ l, Hid (FL ++ [b8 (more : Int)] = l) := ⟨_, hide rfl⟩
    have HFMl : Hid (FM.length = NL + 1) := hide (by rw [← HFM.out, List.length_append, HNL.out]; rfl)
    have HM : Hid (rowAt FM = none) := hide (by rw [← HFM.out, ← HFL.out]; exact row_more L h12 hall hb _)
    have KD1 := hide (fun (W : World) (hW : Ext w W) (AP : Option Addr) (cp : Nat) (hR : Rd W AP FL) (hc : NL ≤ cp) => (show Calls Tryd.prog 16 #[.slice AP J cp] W (DecNo W) from (decode_any AP (FL.take J) J cp W (hR.take _) (by rw [List.length_take, HNL.out]; omega) (by omega) (by omega) (hT.ext hW)).mono (fun e w' h => by rw [HC.out] at h; exact h)))
    have KD2 := hide (fun (W : World) (hW : Ext w W) (AP : Option Addr) (cp : Nat) (hR : Rd W AP FM) (hc : NL + 1 ≤ cp) => (show Calls Tryd.prog 16 #[.slice AP (NL + 1) cp] W (DecNo W) from (decode_any AP FM (NL + 1) cp W hR HFMl.out hc (by omega) (hT.ext hW)).mono (fun e w' h => by rw [HM.out] at h; exact h)))
    have hcw : IntKind.i64.wrap (cut : Int) = (cut : Int) := by rw [IntKind.wrap_i64]; omega
    have hNz : ((NL : Int) == 0) = false := by simp; omega
    clear hr hn hnc hl hb hT hE hall h12 hJ
    have hJ0 : (0 : Int) ≤ (J : Int) := by omega
    have hJ : J < NL := by have := HJ.out; have := Nat.mod_lt cut (show 0 < NL by omega); omega
    go_enter Tryd.func5, Tryd.ntmps5
    go_upto_region 6 with (first
      | (go_at_call 11; (with_reducible refine (KA.out _ (Ext.refl _)).mono ?_); rintro e w1 ⟨rfl, hx1⟩; have X1 := hide hx1)
      | (go_at_call 14; (with_reducible refine (KE.out _ X1.out).mono ?_); rintro e w2 ⟨hx2, v2, rfl, ho2⟩; obtain ⟨AP, cp, hv2, hcp, hrp⟩ := ho2.bytes; rw [HNL.out] at hv2 hcp; subst hv2; have RP := hide hrp; have HCP := hide hcp; have X2 := hide (X1.out.trans hx2); clear hx2 ho2 hrp hcp))
    have hJc : J ≤ cp := by have := HCP.out; omega
    have hJcI : (J : Int) ≤ (cp : Int) := by omega
    have hnJ : ¬ cp < J := by omega
    have hJT : IntKind.i64.wrap ((cut : Int).tmod (NL : Int)) = (J : Int) := by
      rw [Int.tmod_eq_emod_of_nonneg (by omega), hJI, IntKind.wrap_i64]; omega
    go_upto_region 8 with (go_at_call 16; go_loud (with_reducible refine (KD1.out _ X2.out _ _ RP.out HCP.out).mono ?_); rintro e w3 ⟨hx3, rfl⟩; have X3 := hide (X2.out.trans hx3); have RP3 := hide (RP.out.ext hx3); clear hx3)
    go_upto_region 9 with
      (at_builtin; refine wpList_cat rfl (.tmp 34) (.tmp 35) rfl w3.heap.size (.slice none 0 0) [] FL AP NL cp rfl rfl HNL.out.symm (Own.nil _ _) RP3.out (Nat.le_refl _) (by rw [HNL.out]; simp; omega) ?_; intro vq wq hoq hxq)
    rw [List.nil_append] at hoq
    have OQ := hide hoq
    have XQ : Hid (Ext w3 wq) := hide hxq
    clear hoq hxq KD1 RP3 RP X1
    go_upto_region 10 with
      (at_builtin; refine wpList_push rfl (.tmp 37) (.tmp 39) rfl w3.heap.size _ FL rfl rfl OQ.out (by omega) (by omega) XQ.out.size (by rw [HNL.out]; omega) ?_; intro v5 w5 ho5 hx5; rw [HFM.out] at ho5; obtain ⟨A5, c5, hv5, hc5, hr5⟩ := ho5.bytes; rw [HFMl.out] at hv5 hc5; subst hv5; have R5 := hide hr5; have HC5 := hide hc5; have X5 := hide (X3.out.trans (Below.trans XQ.out hx5)); clear hr5 hc5 ho5)
    go_wp2_with (go_at_call 16; (with_reducible refine (KD2.out _ X5.out _ _ R5.out HC5.out).mono ?_); rintro e w6 ⟨hx6, rfl⟩; have X6 := hide (X5.out.trans hx6))
    go_ret
    exact ⟨rfl, X6.out⟩
theorem codecCuts_walk' (A : Option Addr) (L : List Vl) (n c : Nat) (cut more : Int) (w : World) (hr : RdV w A L) (hn : L.length = n) (hnc : n ≤ c) (hl : n ≤ 140737488355328) (hb : ∀ x ∈ L, VlIn x) (hcut : 0 ≤ cut ∧ cut ≤ 65535) (hmore : 0 ≤ more ∧ more ≤ 255) (hT : Tabs w) :
    Calls Tryd.prog 5 #[.slice A n c, .int .u16 cut, .int .u8 more] w (RetB w true) := by
  obtain ⟨a, rfl⟩ : ∃ a : Nat, cut = (a : Int) := ⟨cut.toNat, by omega⟩
  obtain ⟨b, rfl⟩ : ∃ b : Nat, more = (b : Int) := ⟨more.toNat, by omega⟩
  exact codecCuts_walk A L n c a b w hr hn hnc hl hb (by omega) (by omega) hT
end Go.Proofs.YtpdikmcaihlbaaaDoor
namespace Go.Proofs.YtpdikmcaihlbaaaDoor
open Go.RowKit

/-- Operation k waits, directly, for every other. -/
def lastOk (ops : Array Oper) (k : Nat) : Bool :=
  match ops[k]? with
  | some o => (List.range ops.size).all fun i => i == k || o.after.toList.any fun e => e.on == i && Region.binds .any e
  | none => false
theorem lastOk_edge {ops : Array Oper} {k : Nat} {last : Oper} (h : lastOk ops k = true) (hk : ops[k]? = some last) {i : Nat} (hi : i < ops.size) (hne : i ≠ k) : ∃ e ∈ last.after, Region.binds .any e = true ∧ e.on = i := by
  unfold lastOk at h
  rw [hk] at h
  simp only [List.all_eq_true, List.mem_range] at h
  have := h i hi
  simp only [Bool.or_eq_true, beq_iff_eq, hne, false_or, List.any_eq_true, Array.mem_toList_iff, Bool.and_eq_true] at this
  obtain ⟨e, he, h1, h2⟩ := this
  exact ⟨e, he, h2, h1⟩

section
variable {P : Program} {ops : Array Oper} {Q : Exit → Act → World → Prop} {S : Nat → World → Value → Prop} {a0 : Act} {w0 : World} {B : Nat}
theorem wpAny_last {k : Nat} {last : Oper} (hk : ops[k]? = some last) (hlast : lastOk ops k = true) (hok : regOk ops a0.tmps.size = true) (hup : ∀ i w w' v, S i w v → Grw B w w' → S i w' v)
    (hstep : ∀ (i : Nat) (o : Oper), i ≠ k → ops[i]? = some o → StepOk B P ops S a0 w0 i o)
    (hend : ∀ (a : Act) (w : World), Grw B w0 w → a.defers = a0.defers → a.tmps.size = a0.tmps.size → (∀ (i : Nat) (o : Oper) (d : Nat), i ≠ k → ops[i]? = some o → o.dst = some d → ∃ v, a.tmps[d]? = some v ∧ S i w v) →
      (∀ t, (∀ (i : Nat) (o : Oper), i ≠ k → ops[i]? = some o → o.dst ≠ some t) → a.tmps[t]? = a0.tmps[t]?) → Region.wanted last (yielded ops a.tmps) = true ∧ gives P last a w fun v w' => Q .normal (a.put last.dst v) w') :
    ∀ (fuel : Nat) (listed : Array Bool) (a : Act) (w : World), RInv B ops S a0 w0 listed a w → listed[k]? = some false → listed.toList.count true + fuel = ops.size → wpAny P .any ops Q fuel listed a w := by
  have getb : ∀ (l : Array Bool) (i : Nat) (b : Bool), l.getD i b = (l[i]?).getD b := fun l i b => by simp
  have allTrue : ∀ (l : Array Bool), l.toList.count true = l.size → ∀ i, i < l.size → l[i]? = some true := fun l h i hi => by
    have : ∀ x ∈ l.toList, true = x := by
      rw [← List.count_eq_length]; simpa using h
    rw [Array.getElem?_eq_getElem hi]
    congr 1
    exact (this _ (by simp)).symm
  have hklt : k < ops.size := by
    rcases Nat.lt_or_ge k ops.size with hlt | hge
    · exact hlt
    · rw [Array.getElem?_eq_none hge] at hk; cases hk
  have step : ∀ (listed : Array Bool) (a : Act) (w : World) (i : Nat) (K : Act → World → Prop), i ≠ k → RInv B ops S a0 w0 listed a w → i ∈ Region.ready .any ops listed →
      (∀ a' w', RInv B ops S a0 w0 (listed.setIfInBounds i true) a' w' → K a' w') → wpOp P ops Q i K a w := by
    intro listed a w i K hik I hr hK
    obtain ⟨hun, o, ho, hall⟩ := mem_ready.1 hr
    have hi : i < listed.size := by
      rw [I.size]
      rcases Nat.lt_or_ge i ops.size with hlt | hge
      · exact hlt
      · rw [Array.getElem?_eq_none hge] at ho; cases ho
    have hfalse : listed[i]? = some false := by
      rw [getb, Array.getElem?_eq_getElem hi] at hun
      rw [Array.getElem?_eq_getElem hi]; simpa using hun
    have hpre : ∀ e ∈ o.after, Region.binds .any e = true → listed[e.on]? = some true := fun e he hb => by
      have h1 := hall e he hb
      rw [getb] at h1
      cases h2 : listed[e.on]? with
      | none => rw [h2] at h1; simp at h1
      | some b => rw [h2] at h1; simp at h1; rw [h1]
    have hset : ∀ (k : Nat), (listed.setIfInBounds i true)[k]? = if i = k then some true else listed[k]? := fun k => by
      rw [Array.getElem?_setIfInBounds]
      by_cases h : i = k
      · subst h; simp [hi]
      · simp [h]
    have next : ∀ v w', Grw B w w' → S i w' v → RInv B ops S a0 w0 (listed.setIfInBounds i true) (a.put o.dst v) w' := by
      intro v w' hx hS
      refine ⟨by simpa using I.size, I.ext.trans hx, ?_, ?_, ?_, ?_, ?_⟩
      · cases hd : o.dst <;> simpa [Act.put] using I.defers
      · cases hd : o.dst <;> simpa [Act.put] using I.tmps
      · intro k ok hk hl e he hb
        rw [hset] at hl ⊢
        by_cases hki : i = k
        · subst hki
          rw [ho] at hk; cases hk
          split
          · rfl
          · exact hpre e he hb
        · rw [if_neg hki] at hl
          split
          · rfl
          · exact I.closed k ok hk hl e he hb
      · intro k ok d hk hl hd
        rw [hset] at hl
        by_cases hki : i = k
        · subst hki
          rw [ho] at hk; cases hk
          refine ⟨v, ?_, hS⟩
          rw [hd]
          have := regOk_lt hok ho hd
          simp only [Act.put, Array.getElem?_setIfInBounds]
          simp [I.tmps, this]
        · rw [if_neg hki] at hl
          obtain ⟨u, hu, hSu⟩ := I.vals k ok d hk hl hd
          refine ⟨u, ?_, hup _ _ _ _ hSu hx⟩
          cases hod : o.dst with
          | none => simpa [Act.put] using hu
          | some d' =>
            have hne : d' ≠ d := fun e => hki (regOk_one hok ho hk (by rw [hod, e]) hd)
            simp only [Act.put, Array.getElem?_setIfInBounds_ne hne]
            exact hu
      · intro t ht
        have hit : o.dst ≠ some t := fun hd => by
          have := ht i o ho hd
          rw [hset, if_pos rfl] at this; cases this
        have := I.same t fun k ok hk hd => by
          have h2 := ht k ok hk hd
          rw [hset] at h2
          split at h2
          · cases h2
          · exact h2
        rw [← this]
        cases hod : o.dst with
        | none => rfl
        | some d' =>
          have hne : d' ≠ t := fun e => hit (by rw [hod, e])
          simp only [Act.put, Array.getElem?_setIfInBounds_ne hne]
    have hs := hstep i o hik ho a w I.ext I.defers ?_ ?_
    · unfold wpOp
      simp only [ho]
      rcases hs with ⟨hw, hg⟩ | ⟨hw, hS⟩
      · rw [if_pos hw]
        exact .inl (wp_of_gives hg fun v w' ⟨hx, hS⟩ => hK _ _ (next v w' hx hS))
      · rw [if_neg (by rw [hw]; exact Bool.false_ne_true)]
        exact hK _ _ (next _ _ (Grw.refl _ _) hS)
    · intro t ht
      refine I.same t fun k ok hk hd => ?_
      simp only [keepsB, List.all_eq_true] at ht
      have hm : ok ∈ ops.toList := by simpa using Array.mem_of_getElem? hk
      have := ht ok hm
      simp only [hd, bne_self_eq_false, Bool.false_or, List.any_eq_true, Array.mem_toList_iff] at this
      obtain ⟨e, he, hb⟩ := this
      simp only [Bool.and_eq_true, beq_iff_eq] at hb
      have hkl : k < listed.size := by
        rw [I.size]
        rcases Nat.lt_or_ge k ops.size with hlt | hge
        · exact hlt
        · rw [Array.getElem?_eq_none hge] at hk; cases hk
      cases hv : listed[k]? with
      | none => rw [Array.getElem?_eq_getElem hkl] at hv; cases hv
      | some b =>
        cases b with
        | false => rfl
        | true =>
          have := I.closed k ok hk hv e he hb.2
          rw [hb.1, hfalse] at this; cases this
    · intro e he hb o' ho' d hd
      exact I.vals e.on o' d ho' (hpre e he hb) hd
  have full : ∀ (listed : Array Bool) (a : Act) (w : World), RInv B ops S a0 w0 listed a w → Region.ready .any ops listed = [] → ∀ i, i < ops.size → listed[i]? = some true := by
    intro listed a w I hr i
    induction i using Nat.strongRecOn with
    | ind i ih =>
      intro hi
      cases hv : listed[i]? with
      | none => rw [Array.getElem?_eq_none_iff, I.size] at hv; omega
      | some b =>
        cases b with
        | true => rfl
        | false =>
          exfalso
          have hmem : i ∈ Region.ready .any ops listed := by
            refine mem_ready.2 ⟨by rw [getb, hv]; rfl, ops[i], Array.getElem?_eq_getElem hi, fun e he hb => ?_⟩
            have hlt := regOk_back hok (Array.getElem?_eq_getElem hi) he hb
            rw [getb, ih e.on hlt (by omega)]; rfl
          rw [hr] at hmem; cases hmem
  have step_k : ∀ (listed : Array Bool) (a : Act) (w : World) (K : Act → World → Prop), RInv B ops S a0 w0 listed a w → listed[k]? = some false → k ∈ Region.ready .any ops listed →
      (∀ i, i < ops.size → i ≠ k → listed[i]? = some true) ∧ ((∀ v w', Q .normal (a.put last.dst v) w' → K (a.put last.dst v) w') → wpOp P ops Q k K a w) := by
    intro listed a w K I hkf hr
    obtain ⟨hun, o, ho, hall⟩ := mem_ready.1 hr
    rw [hk] at ho
    cases ho
    have hothers : ∀ i, i < ops.size → i ≠ k → listed[i]? = some true := by
      intro i hi hne
      have h1 := lastOk_edge hlast hk hi hne
      obtain ⟨e, he, hb, rfl⟩ := h1
      have h2 := hall e he hb
      rw [getb] at h2
      cases h3 : listed[e.on]? with
      | none => rw [h3] at h2; simp at h2
      | some b => rw [h3] at h2; simp at h2; rw [h2]
    refine ⟨hothers, fun hK => ?_⟩
    have hlt : ∀ {i : Nat} {o : Oper}, ops[i]? = some o → i < ops.size := fun {i o} ho => by
      rcases Nat.lt_or_ge i ops.size with hlt | hge
      · exact hlt
      · rw [Array.getElem?_eq_none hge] at ho; cases ho
    obtain ⟨hw, hg⟩ := hend a w I.ext I.defers I.tmps (fun i o d hne ho hd => I.vals i o d ho (hothers i (hlt ho) hne) hd) (fun t ht => I.same t fun i o ho hd => by
      by_cases hne : i = k
      · subst hne; exact hkf
      · exact absurd hd (ht i o hne ho))
    unfold wpOp
    simp only [hk]
    rw [if_pos hw]
    exact .inl (wp_of_gives hg fun v w' h => hK v w' h)
  intro fuel
  induction fuel with
  | zero =>
    intro listed a w I hkf hc
    have hall := allTrue listed (by rw [I.size]; omega)
    rw [I.size] at hall
    rw [hall k hklt] at hkf
    cases hkf
  | succ fuel ih =>
    intro listed a w I hkf hc
    refine ⟨fun hr => ?_, fun i hi => ?_⟩
    · have := full listed a w I hr k hklt
      rw [hkf] at this; cases this
    · have hcount : ∀ (l : Array Bool), True := fun _ => trivial
      obtain ⟨hun, o, ho, _⟩ := mem_ready.1 hi
      have hlt : i < listed.size := by
        rw [I.size]
        rcases Nat.lt_or_ge i ops.size with hlt | hge
        · exact hlt
        · rw [Array.getElem?_eq_none hge] at ho; cases ho
      have hif : listed[i]? = some false := by rw [getb, Array.getElem?_eq_getElem hlt] at hun; rw [Array.getElem?_eq_getElem hlt]; simpa using hun
      have hcs := count_set hif
      by_cases hik : i = k
      · subst hik
        rw [hk] at ho
        cases ho
        have hothers := (step_k listed a w (fun _ _ => True) I hkf hi).1
        refine (step_k listed a w _ I hkf hi).2 fun v w' hQ => ?_
        have hall2 : ∀ j, j < ops.size → (listed.setIfInBounds i true)[j]? = some true := fun j hj => by
          rw [Array.getElem?_setIfInBounds]
          by_cases h : i = j
          · subst h; simp [hlt]
          · simp only [h, if_false]; exact hothers j hj (fun e => h e.symm)
        have hfu : fuel = 0 := by
          have : (listed.setIfInBounds i true).toList.count true = ops.size := by
            have hsz : (listed.setIfInBounds i true).toList.length = ops.size := by simpa using I.size
            rw [← hsz, List.count_eq_length]
            intro x hx
            obtain ⟨j, hj, rfl⟩ := List.mem_iff_getElem.1 hx
            have h1 := hall2 j (by rw [← hsz]; exact hj)
            rw [Array.getElem?_eq_getElem (by simpa using hj)] at h1
            simp only [Option.some.injEq] at h1
            rw [Array.getElem_toList]
            exact h1.symm
          omega
        subst hfu
        refine ⟨?_, hQ⟩
        cases hr : Region.ready .any ops (listed.setIfInBounds i true) with
        | nil => rfl
        | cons j rest =>
          exfalso
          have hm : j ∈ Region.ready .any ops (listed.setIfInBounds i true) := by rw [hr]; simp
          obtain ⟨hun2, o2, ho2, _⟩ := mem_ready.1 hm
          have hj2 : j < ops.size := by
            rcases Nat.lt_or_ge j ops.size with hlt | hge
            · exact hlt
            · rw [Array.getElem?_eq_none hge] at ho2; cases ho2
          rw [getb, hall2 j hj2] at hun2; cases hun2
      · refine step listed a w i _ hik I hi fun a' w' I' => ih _ a' w' I' ?_ (by omega)
        rw [Array.getElem?_setIfInBounds]
        simp only [hik, if_false]
        exact hkf

end

/-- THE REGION, its last operation at place k. -/
theorem wp_region_last {B : Nat} {P : Program} {ops : List Oper} {Q : Exit → Act → World → Prop} {a0 : Act} {w0 : World} {id : Nat} (hB : B ≤ w0.heap.size) (L : List Sp) (k : Nat) (last : Oper) (hk : ops.toArray[k]? = some last) (hlast : lastOk ops.toArray k = true)
    (hm : P.follows .mixedOrders = true) (hok : regOk ops.toArray a0.tmps.size = true)
    (hstep : PaysFrom (fun i o => i = k ∨ Pays B P ops.toArray L a0 w0 i o) 0 ops)
    (hend : ∀ (a : Act) (w : World), Grw B w0 w → a.defers = a0.defers → a.tmps.size = a0.tmps.size → (∀ (i : Nat) (o : Oper) (d : Nat), i ≠ k → ops.toArray[i]? = some o → o.dst = some d → ∃ v, a.tmps[d]? = some v ∧ (L.getD i Sp.any).p w v) →
      (∀ t, (∀ (i : Nat) (o : Oper), i ≠ k → ops.toArray[i]? = some o → o.dst ≠ some t) → a.tmps[t]? = a0.tmps[t]?) → Region.wanted last (yielded ops.toArray a.tmps) = true ∧ gives P last a w fun v w' => Q .normal (a.put last.dst v) w') :
    (Code.region id ops.toArray true).wp P Q a0 w0 := by
  refine wp_region_any hm (wpAny_last (S := fun i => (L.getD i Sp.any).p) (w0 := w0) (a0 := a0) (B := B) hk hlast hok (fun i w w' v h hx => (L.getD i Sp.any).up w w' v h hx.keeps) ?_ hend _ _ a0 _ ?_ ?_ ?_)
  · intro i o hne ho a w hx hd hk' H
    have h := paysFrom_all ops 0 hstep i o (by simpa using ho)
    rw [Nat.zero_add] at h
    rcases h with h | h
    · exact absurd h hne
    refine h a w hx (Nat.le_trans hB hx.size) hk' fun j hj o' ho' d hd' => ?_
    simp only [List.any_eq_true, Array.mem_toList_iff] at hj
    obtain ⟨e, he, hb⟩ := hj
    simp only [Bool.and_eq_true, beq_iff_eq] at hb
    obtain ⟨rfl, hb⟩ := hb
    exact H e he hb o' ho' d hd'
  · refine ⟨by simp, Grw.drewn _ _ _, rfl, rfl, ?_, ?_, fun _ _ => rfl⟩
    · intro i o ho hl
      rw [Array.getElem?_replicate] at hl
      split at hl <;> simp at hl
    · intro i o d ho hl
      rw [Array.getElem?_replicate] at hl
      split at hl <;> simp at hl
  · have hklt : k < ops.toArray.size := by
      rcases Nat.lt_or_ge k ops.toArray.size with hlt | hge
      · exact hlt
      · rw [Array.getElem?_eq_none hge] at hk; cases hk
    rw [Array.getElem?_replicate, if_pos hklt]
  · have : (Array.replicate ops.toArray.size false).toList.count true = 0 := by simp [List.count_replicate]
    omega

/-- A frame, told slot by slot. -/
theorem tmps_sets {t : Array Value} : ∀ (ps : List (Nat × Value)) (a0 : Array Value), t.size = a0.size → (∀ p ∈ ps, t[p.1]? = some p.2) → (∀ i, (∀ p ∈ ps, p.1 ≠ i) → t[i]? = a0[i]?) → t = ps.foldl (fun t p => t.setIfInBounds p.1 p.2) a0
  | [], a0, hs, _, h => Array.ext_getElem? (fun i => h i (fun _ h => by cases h))
  | p :: ps, a0, hs, hp, h => by
    refine tmps_sets ps (a0.setIfInBounds p.1 p.2) (by simpa using hs) (fun q hq => hp q (List.mem_cons_of_mem _ hq)) (fun i hi => ?_)
    rw [Array.getElem?_setIfInBounds]
    by_cases he : p.1 = i
    · subst he
      have h1 := hp p (List.mem_cons_self)
      have hlt : p.1 < t.size := by
        rcases Nat.lt_or_ge p.1 t.size with h' | h'
        · exact h'
        · rw [Array.getElem?_eq_none h'] at h1; cases h1
      rw [if_pos rfl, if_pos (by omega), h1]
    · rw [if_neg he]
      exact h i (fun q hq => by
        rcases List.mem_cons.1 hq with rfl | hq
        · exact he
        · exact hi q hq)
/-- The slots that the operations other than k write are these. -/
def dstsIn (ops : List Oper) (k : Nat) (ds : List Nat) : Bool := ops.zipIdx.all fun x => x.2 == k || (match x.1.dst with | some d => ds.contains d | none => true)
theorem frame_last {ops : List Oper} {k : Nat} {a0 t : Array Value} (ps : List (Nat × Value)) (hs : t.size = a0.size) (hd : dstsIn ops k (ps.map (·.1)) = true) (hp : ∀ p ∈ ps, t[p.1]? = some p.2)
    (hsame : ∀ t', (∀ (i : Nat) (o : Oper), i ≠ k → ops.toArray[i]? = some o → o.dst ≠ some t') → t[t']? = a0[t']?) : t = ps.foldl (fun t p => t.setIfInBounds p.1 p.2) a0 := by
  refine tmps_sets ps a0 hs hp fun i hi => hsame i fun j o hj ho hdst => ?_
  have hm : (o, j) ∈ ops.zipIdx := by rw [List.mem_zipIdx_iff_getElem?]; simpa using ho
  have := List.all_eq_true.1 hd (o, j) hm
  simp only [hdst, Bool.or_eq_true, beq_iff_eq, hj, false_or, List.contains_iff_mem] at this
  obtain ⟨p, hp1, hp2⟩ := List.mem_map.1 this
  exact hi p hp1 hp2
end Go.Proofs.YtpdikmcaihlbaaaDoor
namespace Go.Proofs.YtpdikmcaihlbaaaDoor
open Go.RowKit

theorem gives_indexP {P : Program} {o : Oper} {a : Act} {w : World} {R : Value → World → Prop} {x y : Operand} {t : TypeId} {u z v : Value} (h : o.op = .indexAddr t x y) (hx : a.eval x = u) (hy : a.eval y = z) (hrun : (Instr.indexAt t u z).run P w = .ok v w) (hR : R v w) : gives P o a w R := by
  refine gives_of_run (w' := w) (v := v) ?_ hR
  unfold execOp
  simp only [h, hx, hy, Sem.run_bind, hrun, Result.andThen_ok, Sem.run_pure]
theorem run_indexV (b off n c i : Nat) (h : i < n) (w : World) : (Instr.indexAt 22 (.slice (some ⟨b, off, none⟩) n c) (.int .i64 (i : Int))).run Tryd.prog w = .ok (.pointer (some ⟨b, off + i * 3, none⟩)) w := by
  have hi : (i : Int) < (n : Int) := by omega
  have h0 : (0 : Int) ≤ (i : Int) := by omega
  simp [go_sem, Tryd.underlying22, hi, h0, add_flat]
theorem bytes_nil (w : World) : Bytes [] w (.slice none 0 0) := ⟨none, 0, rfl, Nat.le_refl _, Rd.nil _ _⟩
set_option maxRecDepth 20000 in
set_option maxHeartbeats 6400000 in
theorem encodes_no (A : Option Addr) (L : List Vl) (n c : Nat) (w : World) (hr : RdV w A L) (hn : L.length = n) (hnc : n ≤ c) (hl : n ≤ 140737488355328) (hb : ∀ x ∈ L, VlIn x) (hT : Tabs w) (k : Int) (hk : encT L = (k, none)) (hk0 : (k == 0) = false) (hk1 : (k != 0) = true) :
    Calls Tryd.prog 3 #[.slice A n c] w (RetB w true) := by
  have KA := hide (fun (W : World) (hW : Ext w W) => awake_any W (hT.ext hW))
  have KE := hide (fun (W : World) (hW : Ext w W) => encode_any A L n c W (hr.ext hW) hn hnc hl hb (hT.ext hW))
  have KG := hide (fun (W : World) (hW : Ext w W) => rencode_any A L n c W (hr.ext hW) hn hnc hl hb (hT.ext hW))
  rw [hk] at KE KG
  have HR := hide hr
  have HN := hide hn
  have HB := hide hb
  have HT := hide hT
  have hnI : (n : Int) ≤ 140737488355328 := by omega
  clear hr hn hb hT hnc hl hk
  go_enter Tryd.func3, Tryd.ntmps3
  go_upto_region 4 with (go_at_call 11; (with_reducible refine (KA.out _ (Ext.refl _)).mono ?_); rintro e w1 ⟨rfl, hx1⟩; have X1 := hide hx1)
  go_loopw [3] (fun iv wr => ∃ i : Nat, i ≤ n ∧ i ≤ 30 ∧ iv = .int .i64 (i : Int) ∧ Hid (Ext w wr)) (fun iv _ => n - (intOf iv).toNat)
  case atStart => exact ⟨0, Nat.zero_le _, Nat.zero_le _, rfl, X1⟩
  case round =>
    obtain ⟨i, hi, hi30, rfl, HX⟩ := hrel
    obtain ⟨wr, HWR⟩ := worldOf HX
    subst HWR
    by_cases hlt : i < n
    · have hii : (i : Int) < (n : Int) := by omega
      by_cases h30 : i < 30
      · have h30i : (i : Int) < 30 := by omega
        obtain ⟨x, hx⟩ : ∃ x, L[i]? = some x := ⟨_, List.getElem?_eq_getElem (by rw [HN.out]; exact hlt)⟩
        obtain ⟨b, off, hA, hc⟩ := HR.out (by intro h; rw [h] at hx; cases hx)
        subst hA
        have VI := HB.out x (List.mem_of_getElem? hx)
        obtain ⟨vb, HVB⟩ : ∃ vb, Hid (vOk x = vb) := ⟨_, hide rfl⟩
        have KF1 := hide (fun (W : World) (hW : Ext wr W) => form_any x W VI (HT.out.ext (HX.out.trans hW)))
        have KF2 := hide (fun (W : World) (hW : Ext wr W) => rform_any x W VI (HT.out.ext (HX.out.trans hW)))
        rw [HVB.out] at KF1 KF2
        have HCC : Hid (∀ j v, [Value.int .u8 x.1, .int .i64 x.2.1, .string x.2.2][j]? = some v → wr.cell? ⟨b, off + i * 3 + j, none⟩ = some v) := hide (fun j v hj => by
          match j, hj with
          | 0, hj => injection hj with hj; subst hj; exact HX.out.keeps.cell (hc i x hx).1
          | 1, hj => injection hj with hj; subst hj; exact HX.out.keeps.cell (hc i x hx).2.1
          | 2, hj => injection hj with hj; subst hj; exact HX.out.keeps.cell (hc i x hx).2.2
          | j + 3, hj => cases hj)
        clear hc hx VI
        go_upto_region 6 with fail
        rename_i hK
        refine wp_region_sp (Nat.le_refl _) [
            Sp.is (.slice (some ⟨b, off, none⟩) n c),
            Sp.is (.int .i64 (i : Int)),
            Sp.is (.pointer (some ⟨b, off + i * 3, none⟩)),
            Sp.is (.agg #[.int .u8 x.1, .int .i64 x.2.1, .string x.2.2]),
            Sp.is (.bool vb),
            Sp.is (.slice (some ⟨b, off, none⟩) n c),
            Sp.is (.int .i64 (i : Int)),
            Sp.is (.pointer (some ⟨b, off + i * 3, none⟩)),
            Sp.is (.agg #[.int .u8 x.1, .int .i64 x.2.1, .string x.2.2]),
            Sp.is (.bool vb),
            Sp.is (.bool false)] (by kernel_rfl) (by kernel_rfl) ?_ ?_
        · refine ⟨?_, ?_, ?_, ?_, ?_, ?_, ?_, ?_, ?_, ?_, ?_, trivial⟩
          · intro az wz hx hB hk H
            refine .inl ⟨wanted_none rfl, ?_⟩
            refine gives_move rfl ?_
            rw [(ev (show az.tmps[0]? = some (.slice (some ⟨b, off, none⟩) n c) from hk 0 rfl))]
            exact ⟨Grw.refl _ _, rfl⟩
          · intro az wz hx hB hk H
            refine .inl ⟨wanted_none rfl, ?_⟩
            refine gives_move rfl ?_
            rw [(ev (show az.tmps[3]? = some (.int .i64 (i : Int)) from hk 3 rfl))]
            exact ⟨Grw.refl _ _, rfl⟩
          · intro az wz hx hB hk H
            obtain ⟨v26, h26, s26⟩ := H 0 rfl _ rfl 26 rfl
            obtain ⟨v27, h27, s27⟩ := H 1 rfl _ rfl 27 rfl
            refine .inl ⟨wanted_none rfl, ?_⟩
            exact gives_indexP rfl (ev (show az.tmps[26]? = some (.slice (some ⟨b, off, none⟩) n c) from by rw [h26, s26])) (ev (show az.tmps[27]? = some (.int .i64 (i : Int)) from by rw [h27, s27])) (run_indexV b off n c i hlt _) ⟨Grw.refl _ _, rfl⟩
          · intro az wz hx hB hk H
            obtain ⟨v28, h28, s28⟩ := H 2 rfl _ rfl 28 rfl
            refine .inl ⟨wanted_none rfl, ?_⟩
            refine gives_load_at 26 (.tmp 28) rfl b (off + i * 3) (ev (show az.tmps[28]? = some (.pointer (some ⟨b, off + i * 3, none⟩)) from by rw [h28, s28])) [.int .u8 x.1, .int .i64 x.2.1, .string x.2.2] 3 (agg_struct Tryd.underlying26 wz) (by kernel_rfl) rfl (fun j v hj => hx.keeps.cell (HCC.out j v hj)) ⟨Grw.refl _ _, rfl⟩
          · intro az wz hx hB hk H
            obtain ⟨v29, h29, s29⟩ := H 3 rfl _ rfl 29 rfl
            refine .inl ⟨wanted_none rfl, ?_⟩
            refine gives_call rfl Tryd.call12 (by simp only [List.map_toArray, List.map_cons, List.map_nil, ev h29]; rw [s29]) ?_
            exact (KF1.out wz ((Ext.refl wr).grw hx)).mono fun e w' ⟨he, hx'⟩ => Ret.grw (⟨_, he, hx', rfl⟩ : Ret wz (Is (.bool vb)) e w') hB
          · intro az wz hx hB hk H
            refine .inl ⟨wanted_none rfl, ?_⟩
            refine gives_move rfl ?_
            rw [(ev (show az.tmps[0]? = some (.slice (some ⟨b, off, none⟩) n c) from hk 0 rfl))]
            exact ⟨Grw.refl _ _, rfl⟩
          · intro az wz hx hB hk H
            refine .inl ⟨wanted_none rfl, ?_⟩
            refine gives_move rfl ?_
            rw [(ev (show az.tmps[3]? = some (.int .i64 (i : Int)) from hk 3 rfl))]
            exact ⟨Grw.refl _ _, rfl⟩
          · intro az wz hx hB hk H
            obtain ⟨v31, h31, s31⟩ := H 5 rfl _ rfl 31 rfl
            obtain ⟨v32, h32, s32⟩ := H 6 rfl _ rfl 32 rfl
            refine .inl ⟨wanted_none rfl, ?_⟩
            exact gives_indexP rfl (ev (show az.tmps[31]? = some (.slice (some ⟨b, off, none⟩) n c) from by rw [h31, s31])) (ev (show az.tmps[32]? = some (.int .i64 (i : Int)) from by rw [h32, s32])) (run_indexV b off n c i hlt _) ⟨Grw.refl _ _, rfl⟩
          · intro az wz hx hB hk H
            obtain ⟨v33, h33, s33⟩ := H 7 rfl _ rfl 33 rfl
            refine .inl ⟨wanted_none rfl, ?_⟩
            refine gives_load_at 26 (.tmp 33) rfl b (off + i * 3) (ev (show az.tmps[33]? = some (.pointer (some ⟨b, off + i * 3, none⟩)) from by rw [h33, s33])) [.int .u8 x.1, .int .i64 x.2.1, .string x.2.2] 3 (agg_struct Tryd.underlying26 wz) (by kernel_rfl) rfl (fun j v hj => hx.keeps.cell (HCC.out j v hj)) ⟨Grw.refl _ _, rfl⟩
          · intro az wz hx hB hk H
            obtain ⟨v34, h34, s34⟩ := H 8 rfl _ rfl 34 rfl
            refine .inl ⟨wanted_none rfl, ?_⟩
            refine gives_call rfl Tryd.call13 (by simp only [List.map_toArray, List.map_cons, List.map_nil, ev h34]; rw [s34]) ?_
            exact (KF2.out wz ((Ext.refl wr).grw hx)).mono fun e w' ⟨he, hx'⟩ => Ret.grw (⟨_, he, hx', rfl⟩ : Ret wz (Is (.bool vb)) e w') hB
          · intro az wz hx hB hk H
            obtain ⟨v30, h30, s30⟩ := H 4 rfl _ rfl 30 rfl
            obtain ⟨v35, h35, s35⟩ := H 9 rfl _ rfl 35 rfl
            refine .inl ⟨wanted_none rfl, ?_⟩
            refine gives_of_run (w' := wz) (v := .bool false) ?_ ⟨Grw.refl _ _, rfl⟩
            rw [s30] at h30
            rw [s35] at h35
            simp [execOp, go_sem, h30, h35]
        · intro az wz hx hd hs hv hsame
          obtain ⟨v26, h26, s26⟩ := hv 0 _ 26 rfl rfl
          obtain rfl : v26 = (.slice (some ⟨b, off, none⟩) n c) := s26
          obtain ⟨v27, h27, s27⟩ := hv 1 _ 27 rfl rfl
          obtain rfl : v27 = (.int .i64 (i : Int)) := s27
          obtain ⟨v28, h28, s28⟩ := hv 2 _ 28 rfl rfl
          obtain rfl : v28 = (.pointer (some ⟨b, off + i * 3, none⟩)) := s28
          obtain ⟨v29, h29, s29⟩ := hv 3 _ 29 rfl rfl
          obtain rfl : v29 = (.agg #[.int .u8 x.1, .int .i64 x.2.1, .string x.2.2]) := s29
          obtain ⟨v30, h30, s30⟩ := hv 4 _ 30 rfl rfl
          obtain rfl : v30 = (.bool vb) := s30
          obtain ⟨v31, h31, s31⟩ := hv 5 _ 31 rfl rfl
          obtain rfl : v31 = (.slice (some ⟨b, off, none⟩) n c) := s31
          obtain ⟨v32, h32, s32⟩ := hv 6 _ 32 rfl rfl
          obtain rfl : v32 = (.int .i64 (i : Int)) := s32
          obtain ⟨v33, h33, s33⟩ := hv 7 _ 33 rfl rfl
          obtain rfl : v33 = (.pointer (some ⟨b, off + i * 3, none⟩)) := s33
          obtain ⟨v34, h34, s34⟩ := hv 8 _ 34 rfl rfl
          obtain rfl : v34 = (.agg #[.int .u8 x.1, .int .i64 x.2.1, .string x.2.2]) := s34
          obtain ⟨v35, h35, s35⟩ := hv 9 _ 35 rfl rfl
          obtain rfl : v35 = (.bool vb) := s35
          obtain ⟨v36, h36, s36⟩ := hv 10 _ 36 rfl rfl
          obtain rfl : v36 = (.bool false) := s36
          have hfr := frame_last (k := 11) [(26, (.slice (some ⟨b, off, none⟩) n c)), (27, (.int .i64 (i : Int))), (28, (.pointer (some ⟨b, off + i * 3, none⟩))), (29, (.agg #[.int .u8 x.1, .int .i64 x.2.1, .string x.2.2])), (30, (.bool vb)), (31, (.slice (some ⟨b, off, none⟩) n c)), (32, (.int .i64 (i : Int))), (33, (.pointer (some ⟨b, off + i * 3, none⟩))), (34, (.agg #[.int .u8 x.1, .int .i64 x.2.1, .string x.2.2])), (35, (.bool vb)), (36, (.bool false))] hs (by kernel_rfl) (by simp only [List.forall_mem_cons, List.not_mem_nil, false_implies, implies_true, and_true]; exact ⟨h26, h27, h28, h29, h30, h31, h32, h33, h34, h35, h36⟩) (fun t' h => hsame t' fun i o ho => h i o (by intro e; subst e; cases ho) ho)
          simp only [List.foldl_cons, List.foldl_nil, List.setIfInBounds_toArray, List.set_cons_succ, List.set_cons_zero] at hfr
          obtain ⟨tm, df⟩ := az
          simp only [] at hfr hd
          subst hfr hd
          clear hv hsame hs h26 h27 h28 h29 h30 h31 h32 h33 h34 h35 h36
          refine hK _ _ ?_
          have X7 := hide (HX.out.trans ((Ext.refl wr).grw hx))
          go_wp2
          exact ⟨⟨i + 1, by omega, by omega, by go_num, X7⟩, by simp [intOf]; omega⟩
      · have h30i : ¬ (i : Int) < 30 := by omega
        go_upto_region 10 with (first
          | (go_at_call 14; (with_reducible refine (KE.out _ HX.out).mono ?_); rintro e w2 ⟨hx2, rfl⟩; have X2 := hide (HX.out.trans hx2))
          | (go_at_call 15; (with_reducible refine (KG.out _ X2.out).mono ?_); rintro e w3 ⟨hx3, rfl⟩; have X3 := hide (X2.out.trans hx3)))
        go_wp2_with (first
          | (refine wpList_str (by rfl) (.tmp 47) rfl [] (bytes_nil _) ?_)
          | (refine wpList_str (by rfl) (.tmp 49) rfl [] (bytes_nil _) ?_))
        go_ret
        exact ⟨rfl, X3.out⟩
    · have hii : ¬ (i : Int) < (n : Int) := by omega
      go_upto_region 10 with (first
        | (go_at_call 14; (with_reducible refine (KE.out _ HX.out).mono ?_); rintro e w2 ⟨hx2, rfl⟩; have X2 := hide (HX.out.trans hx2))
        | (go_at_call 15; (with_reducible refine (KG.out _ X2.out).mono ?_); rintro e w3 ⟨hx3, rfl⟩; have X3 := hide (X2.out.trans hx3)))
      go_wp2_with (first
        | (refine wpList_str (by rfl) (.tmp 47) rfl [] (bytes_nil _) ?_)
        | (refine wpList_str (by rfl) (.tmp 49) rfl [] (bytes_nil _) ?_))
      go_ret
      exact ⟨rfl, X3.out⟩
set_option maxRecDepth 20000 in
set_option maxHeartbeats 6400000 in
theorem encodes_yes (A : Option Addr) (L : List Vl) (n c : Nat) (w : World) (hr : RdV w A L) (hn : L.length = n) (hnc : n ≤ c) (hl : n ≤ 140737488355328) (hb : ∀ x ∈ L, VlIn x) (hT : Tabs w) (h12 : L.length ≤ 12) (hall : L.all vOk = true) (hE : encT L = (0, some (encB L))) :
    Calls Tryd.prog 3 #[.slice A n c] w (RetB w true) := by
  have KA := hide (fun (W : World) (hW : Ext w W) => awake_any W (hT.ext hW))
  have KE := hide (fun (W : World) (hW : Ext w W) => encode_any A L n c W (hr.ext hW) hn hnc hl hb (hT.ext hW))
  have KG := hide (fun (W : World) (hW : Ext w W) => rencode_any A L n c W (hr.ext hW) hn hnc hl hb (hT.ext hW))
  rw [hE] at KE KG
  have hlen := encB_len L h12 hall hb
  obtain ⟨FL, HFL⟩ : ∃ l, Hid (encB L = l) := ⟨_, hide rfl⟩
  obtain ⟨NL, HNL⟩ : ∃ n, Hid (FL.length = n) := ⟨_, hide rfl⟩
  rw [HFL.out, HNL.out] at hlen
  rw [HFL.out] at KE KG
  have HC : Hid (rowAt FL = some L) := hide (by rw [← HFL.out]; exact row_read L h12 hall hb)
  have KD := hide (fun (W : World) (hW : Ext w W) (AP : Option Addr) (cp : Nat) (hR : Rd W AP FL) (hc : NL ≤ cp) => (show Calls Tryd.prog 16 #[.slice AP NL cp] W (DecC W (some L)) from by
    have h := decode_any AP FL NL cp W hR HNL.out hc (by omega) (hT.ext hW)
    rw [HC.out] at h
    exact h))
  have HR := hide hr
  have HN := hide hn
  have HB := hide hb
  have HT := hide hT
  have hnI : (n : Int) ≤ 140737488355328 := by omega
  clear hr hn hb hT hnc hl hE hall h12
  go_enter Tryd.func3, Tryd.ntmps3
  go_upto_region 4 with (go_at_call 11; (with_reducible refine (KA.out _ (Ext.refl _)).mono ?_); rintro e w1 ⟨rfl, hx1⟩; have X1 := hide hx1)
  go_loopw [3] (fun iv wr => ∃ i : Nat, i ≤ n ∧ i ≤ 30 ∧ iv = .int .i64 (i : Int) ∧ Hid (Ext w wr)) (fun iv _ => n - (intOf iv).toNat)
  case atStart => exact ⟨0, Nat.zero_le _, Nat.zero_le _, rfl, X1⟩
  case round =>
    obtain ⟨i, hi, hi30, rfl, HX⟩ := hrel
    obtain ⟨wr, HWR⟩ := worldOf HX
    subst HWR
    by_cases hlt : i < n
    · have hii : (i : Int) < (n : Int) := by omega
      by_cases h30 : i < 30
      · have h30i : (i : Int) < 30 := by omega
        obtain ⟨x, hx⟩ : ∃ x, L[i]? = some x := ⟨_, List.getElem?_eq_getElem (by rw [HN.out]; exact hlt)⟩
        obtain ⟨b, off, hA, hc⟩ := HR.out (by intro h; rw [h] at hx; cases hx)
        subst hA
        have VI := HB.out x (List.mem_of_getElem? hx)
        obtain ⟨vb, HVB⟩ : ∃ vb, Hid (vOk x = vb) := ⟨_, hide rfl⟩
        have KF1 := hide (fun (W : World) (hW : Ext wr W) => form_any x W VI (HT.out.ext (HX.out.trans hW)))
        have KF2 := hide (fun (W : World) (hW : Ext wr W) => rform_any x W VI (HT.out.ext (HX.out.trans hW)))
        rw [HVB.out] at KF1 KF2
        have HCC : Hid (∀ j v, [Value.int .u8 x.1, .int .i64 x.2.1, .string x.2.2][j]? = some v → wr.cell? ⟨b, off + i * 3 + j, none⟩ = some v) := hide (fun j v hj => by
          match j, hj with
          | 0, hj => injection hj with hj; subst hj; exact HX.out.keeps.cell (hc i x hx).1
          | 1, hj => injection hj with hj; subst hj; exact HX.out.keeps.cell (hc i x hx).2.1
          | 2, hj => injection hj with hj; subst hj; exact HX.out.keeps.cell (hc i x hx).2.2
          | j + 3, hj => cases hj)
        clear hc hx VI
        go_upto_region 6 with fail
        rename_i hK
        refine wp_region_sp (Nat.le_refl _) [
            Sp.is (.slice (some ⟨b, off, none⟩) n c),
            Sp.is (.int .i64 (i : Int)),
            Sp.is (.pointer (some ⟨b, off + i * 3, none⟩)),
            Sp.is (.agg #[.int .u8 x.1, .int .i64 x.2.1, .string x.2.2]),
            Sp.is (.bool vb),
            Sp.is (.slice (some ⟨b, off, none⟩) n c),
            Sp.is (.int .i64 (i : Int)),
            Sp.is (.pointer (some ⟨b, off + i * 3, none⟩)),
            Sp.is (.agg #[.int .u8 x.1, .int .i64 x.2.1, .string x.2.2]),
            Sp.is (.bool vb),
            Sp.is (.bool false)] (by kernel_rfl) (by kernel_rfl) ?_ ?_
        · refine ⟨?_, ?_, ?_, ?_, ?_, ?_, ?_, ?_, ?_, ?_, ?_, trivial⟩
          · intro az wz hx hB hk H
            refine .inl ⟨wanted_none rfl, ?_⟩
            refine gives_move rfl ?_
            rw [(ev (show az.tmps[0]? = some (.slice (some ⟨b, off, none⟩) n c) from hk 0 rfl))]
            exact ⟨Grw.refl _ _, rfl⟩
          · intro az wz hx hB hk H
            refine .inl ⟨wanted_none rfl, ?_⟩
            refine gives_move rfl ?_
            rw [(ev (show az.tmps[3]? = some (.int .i64 (i : Int)) from hk 3 rfl))]
            exact ⟨Grw.refl _ _, rfl⟩
          · intro az wz hx hB hk H
            obtain ⟨v26, h26, s26⟩ := H 0 rfl _ rfl 26 rfl
            obtain ⟨v27, h27, s27⟩ := H 1 rfl _ rfl 27 rfl
            refine .inl ⟨wanted_none rfl, ?_⟩
            exact gives_indexP rfl (ev (show az.tmps[26]? = some (.slice (some ⟨b, off, none⟩) n c) from by rw [h26, s26])) (ev (show az.tmps[27]? = some (.int .i64 (i : Int)) from by rw [h27, s27])) (run_indexV b off n c i hlt _) ⟨Grw.refl _ _, rfl⟩
          · intro az wz hx hB hk H
            obtain ⟨v28, h28, s28⟩ := H 2 rfl _ rfl 28 rfl
            refine .inl ⟨wanted_none rfl, ?_⟩
            refine gives_load_at 26 (.tmp 28) rfl b (off + i * 3) (ev (show az.tmps[28]? = some (.pointer (some ⟨b, off + i * 3, none⟩)) from by rw [h28, s28])) [.int .u8 x.1, .int .i64 x.2.1, .string x.2.2] 3 (agg_struct Tryd.underlying26 wz) (by kernel_rfl) rfl (fun j v hj => hx.keeps.cell (HCC.out j v hj)) ⟨Grw.refl _ _, rfl⟩
          · intro az wz hx hB hk H
            obtain ⟨v29, h29, s29⟩ := H 3 rfl _ rfl 29 rfl
            refine .inl ⟨wanted_none rfl, ?_⟩
            refine gives_call rfl Tryd.call12 (by simp only [List.map_toArray, List.map_cons, List.map_nil, ev h29]; rw [s29]) ?_
            exact (KF1.out wz ((Ext.refl wr).grw hx)).mono fun e w' ⟨he, hx'⟩ => Ret.grw (⟨_, he, hx', rfl⟩ : Ret wz (Is (.bool vb)) e w') hB
          · intro az wz hx hB hk H
            refine .inl ⟨wanted_none rfl, ?_⟩
            refine gives_move rfl ?_
            rw [(ev (show az.tmps[0]? = some (.slice (some ⟨b, off, none⟩) n c) from hk 0 rfl))]
            exact ⟨Grw.refl _ _, rfl⟩
          · intro az wz hx hB hk H
            refine .inl ⟨wanted_none rfl, ?_⟩
            refine gives_move rfl ?_
            rw [(ev (show az.tmps[3]? = some (.int .i64 (i : Int)) from hk 3 rfl))]
            exact ⟨Grw.refl _ _, rfl⟩
          · intro az wz hx hB hk H
            obtain ⟨v31, h31, s31⟩ := H 5 rfl _ rfl 31 rfl
            obtain ⟨v32, h32, s32⟩ := H 6 rfl _ rfl 32 rfl
            refine .inl ⟨wanted_none rfl, ?_⟩
            exact gives_indexP rfl (ev (show az.tmps[31]? = some (.slice (some ⟨b, off, none⟩) n c) from by rw [h31, s31])) (ev (show az.tmps[32]? = some (.int .i64 (i : Int)) from by rw [h32, s32])) (run_indexV b off n c i hlt _) ⟨Grw.refl _ _, rfl⟩
          · intro az wz hx hB hk H
            obtain ⟨v33, h33, s33⟩ := H 7 rfl _ rfl 33 rfl
            refine .inl ⟨wanted_none rfl, ?_⟩
            refine gives_load_at 26 (.tmp 33) rfl b (off + i * 3) (ev (show az.tmps[33]? = some (.pointer (some ⟨b, off + i * 3, none⟩)) from by rw [h33, s33])) [.int .u8 x.1, .int .i64 x.2.1, .string x.2.2] 3 (agg_struct Tryd.underlying26 wz) (by kernel_rfl) rfl (fun j v hj => hx.keeps.cell (HCC.out j v hj)) ⟨Grw.refl _ _, rfl⟩
          · intro az wz hx hB hk H
            obtain ⟨v34, h34, s34⟩ := H 8 rfl _ rfl 34 rfl
            refine .inl ⟨wanted_none rfl, ?_⟩
            refine gives_call rfl Tryd.call13 (by simp only [List.map_toArray, List.map_cons, List.map_nil, ev h34]; rw [s34]) ?_
            exact (KF2.out wz ((Ext.refl wr).grw hx)).mono fun e w' ⟨he, hx'⟩ => Ret.grw (⟨_, he, hx', rfl⟩ : Ret wz (Is (.bool vb)) e w') hB
          · intro az wz hx hB hk H
            obtain ⟨v30, h30, s30⟩ := H 4 rfl _ rfl 30 rfl
            obtain ⟨v35, h35, s35⟩ := H 9 rfl _ rfl 35 rfl
            refine .inl ⟨wanted_none rfl, ?_⟩
            refine gives_of_run (w' := wz) (v := .bool false) ?_ ⟨Grw.refl _ _, rfl⟩
            rw [s30] at h30
            rw [s35] at h35
            simp [execOp, go_sem, h30, h35]
        · intro az wz hx hd hs hv hsame
          obtain ⟨v26, h26, s26⟩ := hv 0 _ 26 rfl rfl
          obtain rfl : v26 = (.slice (some ⟨b, off, none⟩) n c) := s26
          obtain ⟨v27, h27, s27⟩ := hv 1 _ 27 rfl rfl
          obtain rfl : v27 = (.int .i64 (i : Int)) := s27
          obtain ⟨v28, h28, s28⟩ := hv 2 _ 28 rfl rfl
          obtain rfl : v28 = (.pointer (some ⟨b, off + i * 3, none⟩)) := s28
          obtain ⟨v29, h29, s29⟩ := hv 3 _ 29 rfl rfl
          obtain rfl : v29 = (.agg #[.int .u8 x.1, .int .i64 x.2.1, .string x.2.2]) := s29
          obtain ⟨v30, h30, s30⟩ := hv 4 _ 30 rfl rfl
          obtain rfl : v30 = (.bool vb) := s30
          obtain ⟨v31, h31, s31⟩ := hv 5 _ 31 rfl rfl
          obtain rfl : v31 = (.slice (some ⟨b, off, none⟩) n c) := s31
          obtain ⟨v32, h32, s32⟩ := hv 6 _ 32 rfl rfl
          obtain rfl : v32 = (.int .i64 (i : Int)) := s32
          obtain ⟨v33, h33, s33⟩ := hv 7 _ 33 rfl rfl
          obtain rfl : v33 = (.pointer (some ⟨b, off + i * 3, none⟩)) := s33
          obtain ⟨v34, h34, s34⟩ := hv 8 _ 34 rfl rfl
          obtain rfl : v34 = (.agg #[.int .u8 x.1, .int .i64 x.2.1, .string x.2.2]) := s34
          obtain ⟨v35, h35, s35⟩ := hv 9 _ 35 rfl rfl
          obtain rfl : v35 = (.bool vb) := s35
          obtain ⟨v36, h36, s36⟩ := hv 10 _ 36 rfl rfl
          obtain rfl : v36 = (.bool false) := s36
          have hfr := frame_last (k := 11) [(26, (.slice (some ⟨b, off, none⟩) n c)), (27, (.int .i64 (i : Int))), (28, (.pointer (some ⟨b, off + i * 3, none⟩))), (29, (.agg #[.int .u8 x.1, .int .i64 x.2.1, .string x.2.2])), (30, (.bool vb)), (31, (.slice (some ⟨b, off, none⟩) n c)), (32, (.int .i64 (i : Int))), (33, (.pointer (some ⟨b, off + i * 3, none⟩))), (34, (.agg #[.int .u8 x.1, .int .i64 x.2.1, .string x.2.2])), (35, (.bool vb)), (36, (.bool false))] hs (by kernel_rfl) (by simp only [List.forall_mem_cons, List.not_mem_nil, false_implies, implies_true, and_true]; exact ⟨h26, h27, h28, h29, h30, h31, h32, h33, h34, h35, h36⟩) (fun t' h => hsame t' fun i o ho => h i o (by intro e; subst e; cases ho) ho)
          simp only [List.foldl_cons, List.foldl_nil, List.setIfInBounds_toArray, List.set_cons_succ, List.set_cons_zero] at hfr
          obtain ⟨tm, df⟩ := az
          simp only [] at hfr hd
          subst hfr hd
          clear hv hsame hs h26 h27 h28 h29 h30 h31 h32 h33 h34 h35 h36
          refine hK _ _ ?_
          have X7 := hide (HX.out.trans ((Ext.refl wr).grw hx))
          go_wp2
          exact ⟨⟨i + 1, by omega, by omega, by go_num, X7⟩, by simp [intOf]; omega⟩
      · have h30i : ¬ (i : Int) < 30 := by omega
        go_upto_region 10 with (first
          | (go_at_call 14; (with_reducible refine (KE.out _ HX.out).mono ?_); rintro e w2 ⟨hx2, v2, rfl, ho2⟩; obtain ⟨AP, cp, hv2, hcp, hrp⟩ := ho2.bytes; rw [HNL.out] at hv2 hcp; subst hv2; have RP := hide hrp; have HCP := hide hcp; have X2 := hide (HX.out.trans hx2); clear hx2 ho2 hrp hcp)
          | (go_at_call 15; (with_reducible refine (KG.out _ X2.out).mono ?_); rintro e w3 ⟨hx3, v3, rfl, ho3⟩; have B3 := hide ho3.bytes; have RP3 := hide (RP.out.ext hx3); have X3 := hide (X2.out.trans hx3); clear hx3 ho3))
        go_upto_region 14 with (first
          | (refine wpList_str (by rfl) (.tmp 47) rfl FL ⟨AP, cp, (by rw [HNL.out]; rfl), (by rw [HNL.out]; exact HCP.out), RP3.out⟩ ?_)
          | (refine wpList_str (by rfl) (.tmp 49) rfl FL B3.out ?_))
        go_upto_region 15 with (go_at_call 16; (with_reducible refine (KD.out _ X3.out _ _ RP3.out HCP.out).mono ?_); rintro e w4 ⟨hx4, v4, rfl, ho4⟩; obtain ⟨AM, cm, hv4, hcm, hrm⟩ := ho4.slice; rw [HN.out] at hv4 hcm; subst hv4; have RM := hide hrm; have X4 := hide (X3.out.trans hx4); clear hx4 ho4 hrm)
        have KS := hide (same_yes AM A L n cm c w4 RM.out (HR.out.ext X4.out) HN.out (by omega))
        go_wp2_with (go_at_call 17; (with_reducible refine KS.out.mono ?_); rintro e w5 ⟨rfl, hx5⟩; have X5 := hide (X4.out.trans hx5))
        go_ret
        exact ⟨rfl, X5.out⟩
    · have hii : ¬ (i : Int) < (n : Int) := by omega
      go_upto_region 10 with (first
        | (go_at_call 14; (with_reducible refine (KE.out _ HX.out).mono ?_); rintro e w2 ⟨hx2, v2, rfl, ho2⟩; obtain ⟨AP, cp, hv2, hcp, hrp⟩ := ho2.bytes; rw [HNL.out] at hv2 hcp; subst hv2; have RP := hide hrp; have HCP := hide hcp; have X2 := hide (HX.out.trans hx2); clear hx2 ho2 hrp hcp)
        | (go_at_call 15; (with_reducible refine (KG.out _ X2.out).mono ?_); rintro e w3 ⟨hx3, v3, rfl, ho3⟩; have B3 := hide ho3.bytes; have RP3 := hide (RP.out.ext hx3); have X3 := hide (X2.out.trans hx3); clear hx3 ho3))
      go_upto_region 14 with (first
        | (refine wpList_str (by rfl) (.tmp 47) rfl FL ⟨AP, cp, (by rw [HNL.out]; rfl), (by rw [HNL.out]; exact HCP.out), RP3.out⟩ ?_)
        | (refine wpList_str (by rfl) (.tmp 49) rfl FL B3.out ?_))
      go_upto_region 15 with (go_at_call 16; (with_reducible refine (KD.out _ X3.out _ _ RP3.out HCP.out).mono ?_); rintro e w4 ⟨hx4, v4, rfl, ho4⟩; obtain ⟨AM, cm, hv4, hcm, hrm⟩ := ho4.slice; rw [HN.out] at hv4 hcm; subst hv4; have RM := hide hrm; have X4 := hide (X3.out.trans hx4); clear hx4 ho4 hrm)
      have KS := hide (same_yes AM A L n cm c w4 RM.out (HR.out.ext X4.out) HN.out (by omega))
      go_wp2_with (go_at_call 17; (with_reducible refine KS.out.mono ?_); rintro e w5 ⟨rfl, hx5⟩; have X5 := hide (X4.out.trans hx5))
      go_ret
      exact ⟨rfl, X5.out⟩
theorem codecEncodes_walk (A : Option Addr) (L : List Vl) (n c : Nat) (w : World) (hr : RdV w A L) (hn : L.length = n) (hnc : n ≤ c) (hl : n ≤ 140737488355328) (hb : ∀ x ∈ L, VlIn x) (hT : Tabs w) :
    Calls Tryd.prog 3 #[.slice A n c] w (RetB w true) := by
  rcases encT_cases L with ⟨k, hk, hk0, hk1⟩ | ⟨h12, hall, hE⟩
  · exact encodes_no A L n c w hr hn hnc hl hb hT k hk hk0 hk1
  · exact encodes_yes A L n c w hr hn hnc hl hb hT h12 hall hE
end Go.Proofs.YtpdikmcaihlbaaaDoor
