/-
  What the pages are, through all calls (plain).
  The document's example: awake.
  The laws' world: a disk, a log and a pool behind three pointers; what each call leaves of it.
  The pool's calls of what there is not; a Write of bytes from outside.
  PoolErrs' walk, case 0.
  PoolErrs' walk, case 1.
  PoolErrs' walk, case 2.
  PoolErrs' walk, case 3.
-/
import Derived.Test.YtnkcneccolbbdaaGreatDoorPkPlAl7
set_option linter.unusedVariables false
set_option linter.unusedSimpArgs false

namespace Go.Proofs.YtnkcneccolbbdaaGreatDoor
open Go.RowKit

section
variable {D : Dk} {L : Lg} {n : Nat}
theorem at_put (D : Dk) (hk : ∀ x ∈ D.pen, True) (i : Nat) (p : List UInt8) (j : Nat) (D' : Dk) (h1 : D'.dur = D.dur) (h2 : D'.pen = D.pen ++ [(i, p)]) : D'.at j = if j = i then p else D.at j := by
  have hl : lastP (D.pen ++ [(i, p)]) j = if j = i then D.pen.length + 1 else lastP D.pen j := by
    rw [lastP_snoc]
    by_cases e : j = i
    · rw [if_pos e, if_pos e.symm]
    · rw [if_neg e, if_neg (fun h => e h.symm)]
  unfold Dk.at
  rw [h1, h2, hl]
  by_cases e : j = i
  · rw [if_pos e, if_pos e, if_neg (by omega)]
    simp
  · rw [if_neg e, if_neg e]
    rcases lastP_at D.pen.length D.pen j rfl with h | ⟨s, h3, h4, h5⟩
    · rw [if_pos h, if_pos h]
    · rw [if_neg (by omega), if_neg (by omega)]
      simp only [List.getD_eq_getElem?_getD]
      rw [List.getElem?_append_left (by omega)]
theorem at_wD (h : Awk D) (i : Nat) (p : List UInt8) (hi : i < D.dur.length) (hp : p.length = 512) (j : Nat) : (wD D (i : Int) p).at j = if j = i then p else D.at j := by
  obtain ⟨h1, h2⟩ := h
  refine at_put D (fun _ _ => trivial) i p j _ ?_ ?_
  · unfold wD
    rw [if_neg (by omega), if_neg (by omega), if_neg (by rw [h1]; decide)]
    rfl
  · unfold wD
    rw [if_neg (by omega), if_neg (by omega), if_neg (by rw [h1]; decide), Int.toNat_natCast]
    rfl
theorem durK_all (dur : List (List UInt8)) (pen : List (Nat × List UInt8)) (j : Nat) (hj : j < dur.length) : ∀ k, k ≤ pen.length → (durK (fun _ => true) dur pen k).getD j [] = if lastP (pen.take k) j = 0 then dur.getD j [] else (pen.getD (lastP (pen.take k) j - 1) (0, [])).2
  | 0, _ => by rw [durK_zero, List.take_zero, lastP_nil, if_pos rfl]
  | k + 1, hk => by
    have ih := durK_all dur pen j hj k (by omega)
    have hx : pen[k]? = some pen[k] := List.getElem?_eq_getElem (by omega)
    rw [durK_succ _ _ _ _ _ hx, if_pos rfl, List.take_add_one, hx, Option.toList_some, lastP_snoc, List.length_take, Nat.min_eq_left (by omega)]
    by_cases e : pen[k].1 = j
    · rw [if_pos e, if_neg (by omega), Nat.add_sub_cancel, e]
      rw [List.getD_eq_getElem?_getD, List.getElem?_set_self (by rw [durK_len]; exact hj), List.getD_eq_getElem?_getD, hx]
      rfl
    · rw [if_neg e, ← ih, List.getD_eq_getElem?_getD, List.getElem?_set_ne e, ← List.getD_eq_getElem?_getD]
theorem at_sD (h : Awk D) (j : Nat) (hj : j < D.dur.length) : (sD D).at j = D.at j := by
  obtain ⟨h1, h2⟩ := h
  unfold sD
  rw [if_neg (by rw [h1]; decide), if_neg (by omega)]
  show (if lastP [] j = 0 then (durK (fun _ => true) D.dur D.pen D.pen.length).getD j [] else _) = _
  rw [lastP_nil, if_pos rfl, durK_all D.dur D.pen j hj _ (Nat.le_refl _), List.take_length]
  rfl
theorem awk_sD (h : Awk D) : Awk (sD D) := by
  obtain ⟨h1, h2⟩ := h
  unfold sD
  rw [if_neg (by rw [h1]; decide), if_neg (by omega)]
  refine ⟨?_, ?_⟩
  · show (D.off || decide (D.arm = 1)) = false
    rw [h1, h2]; rfl
  · show D.arm - 1 = 0
    omega
theorem flW_at (L : Lg) (hc : L.at_ + 1 + L.hd.cn ≤ n) (h0 : 0 < L.hd.cn) (j : Nat) (hj : ∀ a, secOf L a ≠ j) : ∀ (f k : Nat) (D : Dk), Awk D → D.dur.length = n → (flW L f k D).2.at j = D.at j
  | 0, _, D, _, _ => rfl
  | f + 1, k, D, h, hd => by
    unfold flW
    split
    · rfl
    · have hlt : secOf L (flA L k) < D.dur.length := by
        have := Nat.mod_lt (flA L k / 480) h0
        unfold secOf
        omega
      have hpl : (flP L k).length = 512 := by
        unfold flP partB
        exact sealB_length (by simp [ptNs]) (by rw [List.length_take]; omega)
      have hw := awk_write h (secOf L (flA L k)) (flP L k) hlt hpl
      have e1 : wE D (flS L k) (flP L k) = 0 := hw.1
      rw [e1, if_neg (by decide)]
      have h2 := flW_at L hc h0 j hj f (k + 1) (wD D (flS L k) (flP L k)) hw.2.1 (by rw [← hd]; exact hw.2.2)
      rw [h2]
      have h3 := at_wD h (secOf L (flA L k)) (flP L k) hlt hpl j
      rw [if_neg (fun e => hj _ e.symm)] at h3
      exact h3
theorem endOf_sure (L : Lg) : endOf (sureL L) = endOf L := by
  unfold endOf sureL
  show flo (flo L.sure + L.tail.length) + (L.tail.drop (flo L.tail.length)).length = _
  rw [List.length_drop]
  unfold flo
  omega
theorem fl_good (h : Awk D) (hc : L.at_ + 1 + L.hd.cn ≤ D.dur.length) (h0 : 0 < L.hd.cn) : flE D L = 0 ∧ Awk (flD D L) ∧ (flL D L).sure = endOf L ∧ endOf (flL D L) = endOf L ∧ ∀ j, j < D.dur.length → (∀ a, secOf L a ≠ j) → (flD D L).at j = D.at j := by
  have hz := awk_flW L hc h0 L.tail.length 0 D h rfl
  have hz1 : (flZ D L).1 = 0 := hz.1
  have hz2 : Awk (flZ D L).2 := hz.2.1
  have hz3 : (flZ D L).2.dur.length = D.dur.length := hz.2.2
  have hE : flE D L = 0 := by
    unfold flE
    rw [if_neg (by rw [h.1]; decide)]
    split
    · rfl
    · rw [hz1, if_neg (by decide)]
      exact awk_sync hz2
  refine ⟨hE, ?_, ?_, ?_, fun j hj hs => ?_⟩
  · unfold flD
    rw [if_neg (by rw [h.1]; decide)]
    split
    · exact h
    · rw [hz1, if_neg (by decide)]
      exact awk_sD hz2
  · unfold flL
    rw [hE]
    by_cases hs : L.sure = endOf L
    · rw [if_neg (fun hh => hh.2 hs)]; exact hs
    · rw [if_pos ⟨rfl, hs⟩]; rfl
  · unfold flL
    split
    · exact endOf_sure L
    · rfl
  · unfold flD
    rw [if_neg (by rw [h.1]; decide)]
    split
    · rfl
    · rw [hz1, if_neg (by decide), at_sD hz2 j (by rw [hz3]; exact hj)]
      exact flW_at L hc h0 j hs L.tail.length 0 D h rfl
end
/-- A page's bytes and its record, as they are. -/
def cont (S : St) (i : Nat) : List UInt8 × Nat := match S.P.H i with
  | some f => (f.by_, f.last)
  | none => ((frameB (S.D.at (S.P.at_ + i))).by_, (frameB (S.D.at (S.P.at_ + i))).last)
/-- All is well: the power is on, the log's sectors are others, what is unchanged stands on the disk, and no page is ahead of its records. -/
structure Good (S : St) : Prop where
  awk : Awk S.D
  apart : S.L.at_ + 1 + S.L.hd.cn ≤ S.P.at_
  same : ∀ i f, S.P.H i = some f → f.ch = false → (f.by_, f.last) = ((frameB (S.D.at (S.P.at_ + i))).by_, (frameB (S.D.at (S.P.at_ + i))).last)
  ahead : ∀ i f, S.P.H i = some f → f.hi < endOf S.L ∧ (f.ch = true → f.last ≤ f.hi)
  wal : ∀ i, i < S.P.pages → (frameB (S.D.at (S.P.at_ + i))).last < S.L.sure ∨ (frameB (S.D.at (S.P.at_ + i))).last = 0
  sure : S.L.sure ≤ endOf S.L
  pos : 0 < S.L.sure
section
variable {S : St} {c i : Nat} {f : Fm}
theorem sec_far (g : Good S) (h0 : 0 < S.L.hd.cn) (j : Nat) : ∀ a, secOf S.L a ≠ S.P.at_ + j := fun a => by
  have h1 := Nat.mod_lt (a / 480) h0
  have h2 := g.apart
  unfold secOf
  omega
theorem aheadR_good (g : Good S) (ft : S.Fit c) (hf : S.P.H i = some f) (hch : f.ch = true) : (aheadR S f).1 = 0 ∧ Awk (aheadR S f).2.D ∧ endOf (aheadR S f).2.L = endOf S.L ∧ S.L.sure ≤ (aheadR S f).2.L.sure ∧ (aheadR S f).2.L.sure ≤ endOf S.L ∧ f.hi < (aheadR S f).2.L.sure ∧ (aheadR S f).2.L.at_ = S.L.at_ ∧ (aheadR S f).2.L.hd = S.L.hd ∧ ∀ j, j < S.P.pages → (aheadR S f).2.D.at (S.P.at_ + j) = S.D.at (S.P.at_ + j) := by
  have hcn : 0 < S.L.hd.cn := by have := ft.log.cn; omega
  obtain ⟨e1, e2, e3, e4, e5⟩ := fl_good (L := S.L) g.awk ft.log.at_ hcn
  unfold aheadR
  split
  · refine ⟨e1, e2, e4, ?_, ?_, ?_, (flL_hd _ _).2.1, (flL_hd _ _).1, fun j hj => ?_⟩
    · show S.L.sure ≤ (flL S.D S.L).sure
      rw [e3]; exact g.sure
    · show (flL S.D S.L).sure ≤ _
      rw [e3]; exact Nat.le_refl _
    · show f.hi < (flL S.D S.L).sure
      rw [e3]; exact (g.ahead i f hf).1
    · exact e5 _ (by have h1 : S.P.at_ + S.P.pages ≤ S.D.dur.length := ft.pool.at_; omega) (sec_far g hcn j)
  · rename_i h1
    exact ⟨rfl, g.awk, rfl, Nat.le_refl _, g.sure, by show f.hi < S.L.sure; omega, rfl, rfl, fun j _ => rfl⟩
theorem storeR_good (g : Good S) (ft : S.Fit c) (hc : c ≤ 400000) (hf : S.P.H i = some f) (hch : f.ch = true) : (storeR S i f).1 = 0 ∧ Awk (storeR S i f).2.D ∧ endOf (storeR S i f).2.L = endOf S.L ∧ S.L.sure ≤ (storeR S i f).2.L.sure ∧ (storeR S i f).2.L.sure ≤ endOf S.L ∧ f.hi < (storeR S i f).2.L.sure ∧ (storeR S i f).2.L.at_ = S.L.at_ ∧ ∀ j, j < S.P.pages → (storeR S i f).2.D.at (S.P.at_ + j) = if j = i then secB f else S.D.at (S.P.at_ + j) := by
  obtain ⟨a1, a2, a3, a4, a5, a6, a7, a8, a9⟩ := aheadR_good g ft hf hch
  obtain ⟨hip, hfo⟩ := ft.pool.page i f hf
  obtain ⟨b1, b2⟩ := aheadR_fit (f := f) ft hc
  obtain ⟨q1, q2, -⟩ := aheadR_is (S := S) (f := f)
  have hlt : (aheadR S f).2.P.at_ + i < (aheadR S f).2.D.dur.length := by
    rw [q1, b2]
    have h1 : S.P.at_ + S.P.pages ≤ S.D.dur.length := ft.pool.at_
    omega
  have hw := awk_write a2 ((aheadR S f).2.P.at_ + i) (secB f) hlt (secB_len hfo.by_)
  have hat := fun j => at_wD a2 ((aheadR S f).2.P.at_ + i) (secB f) hlt (secB_len hfo.by_) j
  have hp1 : (putR (aheadR S f).2 i f).1 = 0 := hw.1
  unfold storeR
  rw [a1, if_neg (fun h => h rfl), hp1, if_neg (fun h => h rfl)]
  refine ⟨rfl, hw.2.1, a3, a4, a5, a6, a7, fun j hj => ?_⟩
  have h1 := hat (S.P.at_ + j)
  rw [q1] at h1
  show (wD (aheadR S f).2.D (((aheadR S f).2.P.at_ + i : Nat) : Int) (secB f)).at (S.P.at_ + j) = _
  rw [q1, h1]
  by_cases e : j = i
  · subst e; rw [if_pos rfl, if_pos rfl]
  · rw [if_neg (by omega), if_neg e, a9 j hj]
theorem roomR_good (g : Good S) (ft : S.Fit c) (hc : c ≤ 400000) (hr : S.P.n < S.P.frames ∨ idle S.P.H S.P.pages ≠ none) : (roomR S).1 = 0 ∧ Good (roomR S).2 ∧ (∀ j, j < S.P.pages → cont (roomR S).2 j = cont S j) ∧ (∀ j f, S.P.H j = some f → f.pins ≠ 0 → (roomR S).2.P.H j = some f) ∧ endOf (roomR S).2.L = endOf S.L ∧ S.L.sure ≤ (roomR S).2.L.sure := by
  unfold roomR
  split
  · exact ⟨rfl, g, fun j _ => rfl, fun j f hj _ => hj, rfl, Nat.le_refl _⟩
  · rename_i h1
    cases hid : idle S.P.H S.P.pages with
    | none => exact absurd hid (by rcases hr with h | h; exact absurd h h1; exact h)
    | some i =>
      obtain ⟨f, hf, hp0, hip⟩ := idle_is hid
      simp only [hf]
      have hfo := (ft.pool.page i f hf).2
      by_cases hch : f.ch = true
      · rw [if_pos hch]
        obtain ⟨s1, s2, s3, s4, s5, s6, s7, s8⟩ := storeR_good g ft hc hf hch
        obtain ⟨e1, e2, e3, e4, e5, e6, e7⟩ := storeR_P S i f
        rw [s1, if_neg (fun h => h rfl)]
        obtain ⟨fb1, fb2⟩ := frameB_sec hfo.by_ hfo.last
        refine ⟨rfl, ⟨s2, ?_, fun j g' hj hc' => ?_, fun j g' hj => ?_, fun j hj => ?_, ?_, ?_⟩, fun j hj => ?_, fun j g' hj hp => ?_, s3, s4⟩
        · show (storeR S i f).2.L.at_ + 1 + (storeR S i f).2.L.hd.cn ≤ (storeR S i f).2.P.at_
          rw [s7, e7, e3]; exact g.apart
        · obtain ⟨n1, n2⟩ := upM_nil hj
          rw [e1] at n2
          show _ = ((frameB ((storeR S i f).2.D.at ((storeR S i f).2.P.at_ + j))).by_, (frameB ((storeR S i f).2.D.at ((storeR S i f).2.P.at_ + j))).last)
          rw [e3, s8 j (ft.pool.page j g' n2).1, if_neg n1]
          exact g.same j g' n2 hc'
        · obtain ⟨n1, n2⟩ := upM_nil hj
          rw [e1] at n2
          show _ < endOf (storeR S i f).2.L ∧ _
          rw [s3]; exact g.ahead j g' n2
        · have hj' : j < S.P.pages := by rw [← e4]; exact hj
          show (frameB ((storeR S i f).2.D.at ((storeR S i f).2.P.at_ + j))).last < (storeR S i f).2.L.sure ∨ (frameB ((storeR S i f).2.D.at ((storeR S i f).2.P.at_ + j))).last = 0
          rw [e3, s8 j hj']
          by_cases e : j = i
          · rw [if_pos e, fb2]
            have := (g.ahead i f hf).2 hch
            exact .inl (by omega)
          · rw [if_neg e]
            rcases g.wal j hj' with h | h
            · exact .inl (by omega)
            · exact .inr h
        · show (storeR S i f).2.L.sure ≤ endOf (storeR S i f).2.L
          rw [s3]; exact s5
        · exact Nat.lt_of_lt_of_le g.pos s4
        · unfold cont
          show (match upM (storeR S i f).2.P.H i none j with | some f => (f.by_, f.last) | none => ((frameB ((storeR S i f).2.D.at ((storeR S i f).2.P.at_ + j))).by_, (frameB ((storeR S i f).2.D.at ((storeR S i f).2.P.at_ + j))).last)) = _
          rw [e3, s8 j hj]
          by_cases e : j = i
          · subst e
            rw [upM_same, hf, if_pos rfl]
            simp only [fb1, fb2]
          · rw [upM_other _ _ e, e1, if_neg e]
        · have e : j ≠ i := fun e => by
            subst e
            rw [hf] at hj
            injection hj with hj
            rw [← hj] at hp
            exact hp hp0
          show upM (storeR S i f).2.P.H i none j = some g'
          rw [upM_other _ _ e, e1]; exact hj
      · rw [if_neg hch]
        have hcf : f.ch = false := by simpa using hch
        refine ⟨rfl, ⟨g.awk, g.apart, fun j g' hj hc' => g.same j g' (upM_nil hj).2 hc', fun j g' hj => g.ahead j g' (upM_nil hj).2, g.wal, g.sure, g.pos⟩, fun j hj => ?_, fun j g' hj hp => ?_, rfl, Nat.le_refl _⟩
        · unfold cont
          show (match upM S.P.H i none j with | some f => (f.by_, f.last) | none => ((frameB (S.D.at (S.P.at_ + j))).by_, (frameB (S.D.at (S.P.at_ + j))).last)) = _
          by_cases e : j = i
          · subst e
            rw [upM_same, hf]
            exact (g.same j f hf hcf).symm
          · rw [upM_other _ _ e]
        · have e : j ≠ i := fun e => by
            subst e
            rw [hf] at hj
            injection hj with hj
            rw [← hj] at hp
            exact hp hp0
          show upM S.P.H i none j = some g'
          rw [upM_other _ _ e]; exact hj
/-- A page is had, and all is as it was. -/
theorem pageR_good (g : Good S) (ft : S.Fit c) (hc : c ≤ 400000) (hi : i < S.P.pages) (hr : S.P.H i ≠ none ∨ S.P.n < S.P.frames ∨ idle S.P.H S.P.pages ≠ none) :
    (pageR S (i : Int)).1 = 0 ∧ Good (pageR S (i : Int)).2 ∧ (∀ j, j < S.P.pages → cont (pageR S (i : Int)).2 j = cont S j) ∧ (∀ j f, j ≠ i → S.P.H j = some f → f.pins ≠ 0 → (pageR S (i : Int)).2.P.H j = some f) ∧
    (∃ f, (pageR S (i : Int)).2.P.H i = some f ∧ (f.by_, f.last) = cont S i ∧ f.pins = (match S.P.H i with | some f0 => f0.pins | none => 0) ∧ (f.ch = true → ∃ f0, S.P.H i = some f0 ∧ f0.ch = true)) ∧ endOf (pageR S (i : Int)).2.L = endOf S.L ∧ S.L.sure ≤ (pageR S (i : Int)).2.L.sure := by
  unfold pageR
  rw [if_neg (by omega), Int.toNat_natCast]
  cases hH : S.P.H i with
  | some f =>
    refine ⟨rfl, ⟨g.awk, g.apart, fun j g' hj hc' => ?_, fun j g' hj => ?_, g.wal, g.sure, g.pos⟩, fun j hj => ?_, fun j g' e hj _ => ?_, ⟨_, upM_same _ _ _, ?_, rfl, fun h => ⟨f, rfl, h⟩⟩, rfl, Nat.le_refl _⟩
    · by_cases e : j = i
      · subst e
        have hj := Option.some.inj ((upM_same _ _ _).symm.trans hj)
        subst hj
        exact g.same j f hH hc'
      · exact g.same j g' ((upM_other _ _ e).symm.trans hj) hc'
    · by_cases e : j = i
      · subst e
        have hj := Option.some.inj ((upM_same _ _ _).symm.trans hj)
        subst hj
        exact g.ahead j f hH
      · exact g.ahead j g' ((upM_other _ _ e).symm.trans hj)
    · unfold cont askP
      by_cases e : j = i
      · subst e; simp only [upM_same, hH]
      · simp only [upM_other _ _ e]
    · exact (upM_other _ _ e).trans hj
    · unfold cont; rw [hH]
  | none =>
    have hr2 : S.P.n < S.P.frames ∨ idle S.P.H S.P.pages ≠ none := by
      rcases hr with h | h
      · exact absurd hH h
      · exact h
    obtain ⟨r1, r2, r3, r4, r5, r6⟩ := roomR_good g ft hc hr2
    obtain ⟨f1, f2, f3, f4, f5, f6, f7, f8, f9⟩ := roomR_fit ft hc
    have hlt : S.P.at_ + i < S.D.dur.length := by
      have h1 : S.P.at_ + S.P.pages ≤ S.D.dur.length := ft.pool.at_
      omega
    have hgE : gE S.D ((S.P.at_ : Int) + (i : Int)) = 0 := by
      unfold gE
      rw [if_neg (by omega), if_neg (by rw [g.awk.1]; decide)]
    have hgB : gB S.D ((S.P.at_ : Int) + (i : Int)) = S.D.at (S.P.at_ + i) := by
      unfold gB
      rw [if_neg (by omega), if_neg (by rw [g.awk.1]; decide)]
      congr 1
    simp only [hgE]
    rw [if_neg (fun h => h rfl), r1, if_neg (fun h => h rfl), hgB]
    have hno : (roomR S).2.P.H i = none := by
      cases hq : (roomR S).2.P.H i with
      | none => rfl
      | some g' => have h1 := f5 i g' hq; rw [hH] at h1; cases h1
    have hdi : ((frameB (S.D.at (S.P.at_ + i))).by_, (frameB (S.D.at (S.P.at_ + i))).last) = ((frameB ((roomR S).2.D.at ((roomR S).2.P.at_ + i))).by_, (frameB ((roomR S).2.D.at ((roomR S).2.P.at_ + i))).last) := by
      have h1 := r3 i hi
      unfold cont at h1
      rw [hno, hH] at h1
      exact h1.symm
    refine ⟨rfl, ⟨r2.awk, r2.apart, fun j g' hj hc' => ?_, fun j g' hj => ?_, r2.wal, r2.sure, r2.pos⟩, fun j hj => ?_, fun j g' e hj hp => ?_, ⟨_, upM_same _ _ _, ?_, rfl, fun h => absurd (show false = true from h) (by decide)⟩, r5, r6⟩
    · by_cases e : j = i
      · subst e
        have hj := Option.some.inj ((upM_same _ _ _).symm.trans hj)
        subst hj
        exact hdi
      · exact r2.same j g' (((upM_other _ _ e).symm.trans ((upM_other _ _ e).symm.trans hj))) hc'
    · by_cases e : j = i
      · subst e
        have hj := Option.some.inj ((upM_same _ _ _).symm.trans hj)
        subst hj
        exact ⟨Nat.lt_of_lt_of_le r2.pos r2.sure, fun h => absurd (show false = true from h) (by decide)⟩
      · exact r2.ahead j g' (((upM_other _ _ e).symm.trans ((upM_other _ _ e).symm.trans hj)))
    · rw [← r3 j hj]
      unfold cont askP bringP
      by_cases e : j = i
      · subst e; simp only [upM_same, hno]; exact hdi
      · simp only [upM_other _ _ e]
    · exact (upM_other _ _ e).trans ((upM_other _ _ e).trans (r4 j g' hj hp))
    · unfold cont; rw [hH]
/-- An unpinned page in memory can go. -/
theorem idle_ne {P : Pl} {n : Nat} (ok : P.Ok n) : ∀ (k i : Nat) (f : Fm), P.H i = some f → f.pins = 0 → f.used ≤ k → idle P.H P.pages ≠ none
  | k, i, f, hi, hp, hk => by
    by_cases hm : ∀ j g, P.H j = some g → g.pins = 0 → f.used ≤ g.used
    · rw [idle_some ok hi hp hm]; simp
    · have ⟨j, g, hj, hg, hlt⟩ : ∃ j g, P.H j = some g ∧ g.pins = 0 ∧ g.used < f.used := by
        apply Classical.byContradiction
        intro hn
        exact hm fun j g hj hg => Nat.le_of_not_lt fun hl => hn ⟨j, g, hj, hg, hl⟩
      cases k with
      | zero => omega
      | succ k => exact idle_ne ok k j g hj hg (by omega)
/-- A page that has not been there, and there is room. -/
theorem page_new (g : Awk S.D) (ft : S.Fit c) (hi : i < S.P.pages) (hH : S.P.H i = none) (hn : S.P.n < S.P.frames) :
    pageR S (i : Int) = (0, { S with P := askP (bringP S.P i (S.D.at (S.P.at_ + i))) i (frameB (S.D.at (S.P.at_ + i))) }) := by
  have hlt : S.P.at_ + i < S.D.dur.length := by
    have h1 : S.P.at_ + S.P.pages ≤ S.D.dur.length := ft.pool.at_
    omega
  have hgE : gE S.D ((S.P.at_ : Int) + (i : Int)) = 0 := by
    unfold gE
    rw [if_neg (by omega), if_neg (by rw [g.1]; decide)]
  have hgB : gB S.D ((S.P.at_ : Int) + (i : Int)) = S.D.at (S.P.at_ + i) := by
    unfold gB
    rw [if_neg (by omega), if_neg (by rw [g.1]; decide)]
    congr 1
  have hrm : roomR S = (0, S) := by unfold roomR; rw [if_pos hn]
  unfold pageR
  rw [if_neg (by omega), Int.toNat_natCast, hH]
  simp only [hgE, hgB, hrm]
  rw [if_neg (fun h => h rfl), if_neg (fun h => h rfl)]
/-- A page that cannot be had. -/
theorem page_full (g : Awk S.D) (ft : S.Fit c) (hi : i < S.P.pages) (hH : S.P.H i = none) (hn : ¬ S.P.n < S.P.frames) (hid : idle S.P.H S.P.pages = none) : pageR S (i : Int) = (9, S) := by
  have hlt : S.P.at_ + i < S.D.dur.length := by
    have h1 : S.P.at_ + S.P.pages ≤ S.D.dur.length := ft.pool.at_
    omega
  have hgE : gE S.D ((S.P.at_ : Int) + (i : Int)) = 0 := by
    unfold gE
    rw [if_neg (by omega), if_neg (by rw [g.1]; decide)]
  have hrm : roomR S = (9, S) := by unfold roomR; rw [if_neg hn, hid]
  unfold pageR
  rw [if_neg (by omega), Int.toNat_natCast, hH]
  simp only [hgE, hrm]
  rw [if_neg (fun h => h rfl), if_pos (by decide)]
/-- A page in memory goes for another one. -/
theorem page_swap {k : Nat} (g : Awk S.D) (ft : S.Fit c) (hi : i < S.P.pages) (hH : S.P.H i = none) (hn : ¬ S.P.n < S.P.frames) (hid : idle S.P.H S.P.pages = some k) (hk : S.P.H k = some f) (hch : f.ch = false) :
    pageR S (i : Int) = (0, { S with P := askP (bringP (dropP S.P k) i (S.D.at (S.P.at_ + i))) i (frameB (S.D.at (S.P.at_ + i))) }) := by
  have hlt : S.P.at_ + i < S.D.dur.length := by
    have h1 : S.P.at_ + S.P.pages ≤ S.D.dur.length := ft.pool.at_
    omega
  have hgE : gE S.D ((S.P.at_ : Int) + (i : Int)) = 0 := by
    unfold gE
    rw [if_neg (by omega), if_neg (by rw [g.1]; decide)]
  have hgB : gB S.D ((S.P.at_ : Int) + (i : Int)) = S.D.at (S.P.at_ + i) := by
    unfold gB
    rw [if_neg (by omega), if_neg (by rw [g.1]; decide)]
    congr 1
  have hrm : roomR S = (0, { S with P := dropP S.P k }) := by
    unfold roomR
    rw [if_neg hn, hid]
    simp only [hk]
    rw [if_neg (by rw [hch]; decide)]
  unfold pageR
  rw [if_neg (by omega), Int.toNat_natCast, hH]
  simp only [hgE, hgB, hrm]
  rw [if_neg (fun h => h rfl), if_neg (fun h => h rfl)]
/-- A page that was changed goes: its records are sure. -/
theorem page_sure {k : Nat} (g : Good S) (ft : S.Fit c) (hc : c ≤ 400000) (hi : i < S.P.pages) (hH : S.P.H i = none) (hn : ¬ S.P.n < S.P.frames) (hid : idle S.P.H S.P.pages = some k) (hk : S.P.H k = some f) (hch : f.ch = true) : f.hi < (pageR S (i : Int)).2.L.sure := by
  obtain ⟨s1, s2, s3, s4, s5, s6, s7, s8⟩ := storeR_good g ft hc hk hch
  have hlt : S.P.at_ + i < S.D.dur.length := by
    have h1 : S.P.at_ + S.P.pages ≤ S.D.dur.length := ft.pool.at_
    omega
  have hgE : gE S.D ((S.P.at_ : Int) + (i : Int)) = 0 := by
    unfold gE
    rw [if_neg (by omega), if_neg (by rw [g.awk.1]; decide)]
  have hrm : (roomR S).1 = 0 ∧ (roomR S).2.L = (storeR S k f).2.L := by
    unfold roomR
    rw [if_neg hn, hid]
    simp only [hk]
    rw [if_pos hch, s1, if_neg (fun h => h rfl)]
    exact ⟨rfl, rfl⟩
  unfold pageR
  rw [if_neg (by omega), Int.toNat_natCast, hH]
  simp only [hgE]
  rw [if_neg (fun h => h rfl), hrm.1, if_neg (fun h => h rfl)]
  show f.hi < (roomR S).2.L.sure
  rw [hrm.2]
  exact s6
/-- A Write. -/
theorem write_good (g : Good S) (hf : S.P.H i = some f) (off : Nat) (m : List UInt8) (lsn : Nat) (hl : lsn < endOf S.L) : Good (setS S i (chF f off m lsn)) ∧ ∀ j, cont (setS S i (chF f off m lsn)) j = if j = i then (over f.by_ off m, lsn) else cont S j := by
  refine ⟨⟨g.awk, g.apart, fun j g' hj hc' => ?_, fun j g' hj => ?_, g.wal, g.sure, g.pos⟩, fun j => ?_⟩
  · by_cases e : j = i
    · subst e
      have hj := Option.some.inj ((upM_same _ _ _).symm.trans hj)
      subst hj
      exact absurd (show true = false from hc') (by decide)
    · exact g.same j g' ((upM_other _ _ e).symm.trans hj) hc'
  · by_cases e : j = i
    · subst e
      have hj := Option.some.inj ((upM_same _ _ _).symm.trans hj)
      subst hj
      have h1 := (g.ahead j f hf).1
      refine ⟨?_, fun _ => Nat.le_max_right _ _⟩
      show max f.hi lsn < endOf S.L
      omega
    · exact g.ahead j g' ((upM_other _ _ e).symm.trans hj)
  · unfold cont setS
    by_cases e : j = i
    · subst e; simp only [upM_same, if_pos]; rfl
    · simp only [upM_other _ _ e, if_neg e]
theorem chF_ok {P : Pl} (h : f.Ok P) (off : Nat) (m : List UInt8) (lsn : Nat) (hm : off + m.length ≤ 504) (hl : lsn < 18446744073709551616) : (chF f off m lsn).Ok P := by
  refine ⟨by show (over f.by_ off m).length = 504; rw [over_length _ _ _ (by rw [h.by_]; exact hm), h.by_], hl, ?_, ?_, h.pins, h.used⟩
  · show max f.hi lsn < _
    have := h.hi; omega
  · show (if f.ch = true then f.since else lsn) < _
    split
    · exact h.since
    · exact hl
theorem setS_fit {f' : Fm} (ft : S.Fit c) (hf : S.P.H i = some f) (h : f'.Ok S.P) (hu : f'.used = f.used) : (setS S i f').Fit c := by
  have back : ∀ j g, upM S.P.H i (some f') j = some g → ∃ g', S.P.H j = some g' ∧ g.Ok S.P ∧ g'.used = g.used := fun j g hj => by
    by_cases e : j = i
    · subst e
      rw [upM_same] at hj
      have hj := Option.some.inj hj
      subst hj
      exact ⟨f, hf, h, hu.symm⟩
    · rw [upM_other _ _ e] at hj
      exact ⟨g, hj, (ft.pool.page j g hj).2, rfl⟩
  refine ⟨ft.bd, ft.log, ⟨ft.pool.at_, ft.pool.max, ft.pool.pages, ft.pool.frames, fun j g hj => ?_, fun j k g g' hj hk hu => ?_, ft.pool.cnt, ft.pool.way, ft.pool.sure⟩, ft.pen, ft.ops, ft.tail, ft.sure, ft.asked, ft.wcnt⟩
  · obtain ⟨g', h1, h2, -⟩ := back j g hj
    exact ⟨(ft.pool.page j g' h1).1, ⟨h2.by_, h2.last, h2.hi, h2.since, h2.pins, h2.used⟩⟩
  · obtain ⟨g1, h1, -, h2⟩ := back j g hj
    obtain ⟨g3, h3, -, h4⟩ := back k g' hk
    exact ft.pool.one j k g1 g3 h1 h3 (by omega)
end
/-- A fresh world. -/
def fS (n f : Nat) : St := ⟨dk2 (41 + n) 0 40, lgN 0 40, P0 41 n f⟩
def zB : List UInt8 := List.replicate 504 0
theorem fresh_at {n j : Nat} (hj : j < n) : (dk2 (41 + n) 0 40).at (41 + j) = List.replicate 512 0 := by
  unfold Dk.at
  show (if lastP [] (41 + j) = 0 then ((((zS (41 + n)).set 0 (b1S 40)).set 0 (b2S 40)).set (0 + 2) bpS).getD (41 + j) [] else _) = _
  rw [lastP_nil, if_pos rfl, set_far _ _ _ _ _ (by omega), set_far _ _ _ _ _ (by omega), set_far _ _ _ _ _ (by omega)]
  exact zS_get (by omega)
theorem frameB_zero : (frameB (List.replicate 512 0)).by_ = zB ∧ (frameB (List.replicate 512 0)).last = 0 := by
  unfold frameB zB
  refine ⟨?_, ?_⟩
  · show (List.replicate 512 (0 : UInt8)).drop 8 = _
    rw [List.drop_replicate]
  · show (num ((List.replicate 512 (0 : UInt8)).take 8)).toNat = 0
    rw [List.take_replicate]
    decide
theorem fresh_good (n f : Nat) : Good (fS n f) ∧ ∀ j, j < n → cont (fS n f) j = (zB, 0) := by
  refine ⟨⟨⟨rfl, rfl⟩, by show 0 + 1 + 40 ≤ 41; decide, fun i g h => (by cases h), fun i g h => (by cases h), fun j hj => ?_, by show 480 ≤ endOf (lgN 0 40); decide, by show 0 < 480; decide⟩, fun j hj => ?_⟩
  · refine .inr ?_
    show (frameB ((dk2 (41 + n) 0 40).at (41 + j))).last = 0
    rw [fresh_at (n := n) hj]; exact frameB_zero.2
  · show ((frameB ((dk2 (41 + n) 0 40).at (41 + j))).by_, (frameB ((dk2 (41 + n) 0 40).at (41 + j))).last) = _
    rw [fresh_at hj, frameB_zero.1, frameB_zero.2]
end Go.Proofs.YtnkcneccolbbdaaGreatDoor
namespace Go.Proofs.YtnkcneccolbbdaaGreatDoor
open Go.RowKit

section
variable {w0 w w' : World} {Z : Pk} {D : Dk} {L : Lg} {P : Pl}
theorem new_notP (h : PlAt w0 w Z D L P) : ¬ Z.has P w.heap.size := fun hh => by have := h.has_lt hh; omega
theorem PlAt.not_world (h : PlAt w0 w Z D L P) {b : Nat} {vs : List Value} (hr : Rw w b 43 vs) : ¬ Z.has P b := fun hh => by
  rcases hh with hh | rfl | rfl | rfl | ⟨i, f, hf, rfl⟩
  · exact h.log.not_rw hr (by decide) hh
  · exact h.blk.apart hr (by decide) rfl
  · exact rw_ne_map hr h.held rfl
  · exact rw_ne_map hr h.way rfl
  · exact (h.fr i f hf).apart hr (by decide) rfl
theorem Pfr.world (h : PlAt w0 w Z D L P) (k : Pfr Z P w w') {b : Nat} {vs : List Value} (hr : Rw w b 43 vs) : Rw w' b 43 vs := (k.other b hr.lt (h.not_world hr)).trans hr
/-- The struct's fields stay those of the pool. -/
theorem wd_later {Z' : Pk} {P' : Pl} (h : Z'.Later P' Z P w) : wdC Z' = wdC Z := by unfold wdC; rw [h.X.g, h.X.q, h.q]
theorem frc_bytes (b : UInt8) (fr : Nat × Nat) (w : World) : Rd (w.alloc (.cells #[.int .u8 (b.toNat : Int)] 5 fr)) (some ⟨w.heap.size, 0, none⟩) [b] := Rd.newf w 5 [b] [] fr
end
/-- One record more. -/
def apS (S : St) (p : List UInt8) : St := { S with L := addL (heldL S.L 0) p }
section
variable {w0 w : World} {Z : Pk} {S : St} {c : Nat}
theorem apS_end (S : St) (p : List UInt8) : endOf (apS S p).L = endOf S.L + (p.length + 2) ∧ (apS S p).L.sure = S.L.sure ∧ (apS S p).L.hd = S.L.hd ∧ (apS S p).L.at_ = S.L.at_ ∧ (apS S p).L.tail.length = S.L.tail.length + (p.length + 2) ∧ (apS S p).L.held = S.L.held := by
  have e : (addL (heldL S.L 0) p).tail.length = S.L.tail.length + (p.length + 2) := by
    unfold addL moreL
    simp only [List.length_append]
    have : (be2 p.length).length = 2 := rfl
    show (heldL S.L 0).tail.length + _ + _ = _
    rw [this]
    show S.L.tail.length + 2 + p.length = _
    omega
  refine ⟨?_, rfl, rfl, rfl, e, rfl⟩
  unfold endOf
  show flo S.L.sure + (addL (heldL S.L 0) p).tail.length = flo S.L.sure + S.L.tail.length + _
  rw [e]
  omega
theorem apS_good (g : Good S) (p : List UInt8) : Good (apS S p) ∧ ∀ j, cont (apS S p) j = cont S j := by
  obtain ⟨e1, e2, e3, e4, e5, e6⟩ := apS_end S p
  refine ⟨⟨g.awk, by rw [e3, e4]; exact g.apart, g.same, fun i f hi => ⟨by rw [e1]; have := (g.ahead i f hi).1; omega, (g.ahead i f hi).2⟩, fun i hi => by rw [e2]; exact g.wal i hi, by rw [e1, e2]; have := g.sure; omega, by rw [e2]; exact g.pos⟩, fun j => rfl⟩
theorem apS_fit (ft : S.Fit c) (p : List UInt8) (hp : S.L.tail.length + (p.length + 2) ≤ 480 * S.L.hd.cn) : (apS S p).Fit c := by
  obtain ⟨e1, e2, e3, e4, e5, e6⟩ := apS_end S p
  have hcn := ft.log.cn
  refine ⟨ft.bd, ⟨by rw [e3]; exact ft.log.hd, by rw [e3]; exact ft.log.cn, by rw [e3, e4]; exact ft.log.at_, by rw [e2]; exact ft.log.sure, by rw [e5]; omega, by rw [e6]; exact ft.log.held⟩, ft.pool, ft.pen, ft.ops, by rw [e5, e3]; exact hp, by rw [e2]; exact ft.sure, ft.asked, ft.wcnt⟩
/-- Append without holding, with room. -/
theorem pappend_any (h : PlAt w0 w Z S.D S.L S.P) (ft : S.Fit c) (A : Option Addr) (cc n : Nat) (p : List UInt8) (hr : Rd w A p) (hn : p.length = n) (h1 : 0 < n) (h2 : n ≤ 1200) (hA : ∀ a, A = some a → ¬ Z.has S.P a.block ∧ a.block < w.heap.size) (hst : S.L.hd.st < 576460752303423488) (hroom : (0 : Int) ≤ roomOf S.L - 2 - (n : Int)) :
    Calls Tryz.prog 19 #[.pointer (some ⟨Z.X.q, 0, none⟩), .slice A n cc, .int .i64 0] w (fun e w' => ∃ Z', e = .returned (.tuple #[.int .u64 (endOf S.L : Int), .int .i64 0]) ∧ Z'.q = Z.q ∧ PlAt w0 w' Z' S.D (apS S p).L S.P ∧ Pfr Z S.P w w' ∧ Z'.Later S.P Z S.P w) := by
  have htl : S.L.tail.length < 500000000 := by have := ft.tail; have := ft.log.cn; omega
  have k := append_any h.log ft.log hst A cc n p 0 hr hn (by omega) (fun a ha => ⟨fun hh => (hA a ha).1 (.inl hh), (hA a ha).2⟩) htl (by omega)
  have e0 : apE S.L n 0 = 0 := by unfold apE; rw [if_neg (by omega), if_neg (by omega), if_neg (by omega)]
  have e1 : apR S.L p 0 = .tuple #[.int .u64 (endOf S.L : Int), .int .i64 0] := by unfold apR; rw [hn, e0, if_pos rfl]
  have e2 : apL S.L p 0 = (apS S p).L := by unfold apL; rw [hn, e0, if_pos rfl]; rfl
  rw [e1, e2] at k
  refine k.mono fun e w' hp => ?_
  obtain ⟨Z', he, hq, -, hl, hf, hn2⟩ := h.of_logE hp
  exact ⟨Z', he, hq, hl, hf, hn2⟩
end
end Go.Proofs.YtnkcneccolbbdaaGreatDoor
namespace Go.Proofs.YtnkcneccolbbdaaGreatDoor
open Go.RowKit

def Wd (w0 w : World) (b g q p : Nat) (S : St) : Prop := ∃ Z, PlAt w0 w Z S.D S.L S.P ∧ Z.X.g = g ∧ Z.X.q = q ∧ Z.q = p ∧ Rw w b 43 [.pointer (some ⟨g, 0, none⟩), .pointer (some ⟨q, 0, none⟩), .pointer (some ⟨p, 0, none⟩)]
def WP (w0 : World) (b g q p : Nat) (r : Value) (S' : St) (e : Ending) (w' : World) : Prop := e = .returned r ∧ Wd w0 w' b g q p S'
section
variable {w0 w w' : World} {b g q p c : Nat} {S S' : St} {r : Value}
theorem Wd.ext (h : Wd w0 w b g q p S) : Ext w0 w := by obtain ⟨Z, h1, -⟩ := h; exact h1.log.ext
theorem Wd.ext_ (h : Wd w0 w b g q p S) (hx : Ext w w') : Wd w0 w' b g q p S := by
  obtain ⟨Z, h1, h2, h3, h4, h5⟩ := h
  exact ⟨Z, h1.ext_ hx, h2, h3, h4, h5.ext hx⟩
theorem Wd.c0 (h : Wd w0 w b g q p S) : w.cell? ⟨b, 0, none⟩ = some (.pointer (some ⟨g, 0, none⟩)) := by obtain ⟨Z, h1, h2, h3, h4, h5⟩ := h; exact h5.cell (i := 0) rfl
theorem Wd.c1 (h : Wd w0 w b g q p S) : w.cell? ⟨b, 1, none⟩ = some (.pointer (some ⟨q, 0, none⟩)) := by obtain ⟨Z, h1, h2, h3, h4, h5⟩ := h; exact h5.cell (i := 1) rfl
theorem Wd.c2 (h : Wd w0 w b g q p S) : w.cell? ⟨b, 2, none⟩ = some (.pointer (some ⟨p, 0, none⟩)) := by obtain ⟨Z, h1, h2, h3, h4, h5⟩ := h; exact h5.cell (i := 2) rfl
theorem Wd.later {Z Z' : Pk} {P : Pl} (h1 : PlAt w0 w Z S.D S.L P) (h2 : Z.X.g = g) (h3 : Z.X.q = q) (h4 : Z.q = p) (h5 : Rw w b 43 [.pointer (some ⟨g, 0, none⟩), .pointer (some ⟨q, 0, none⟩), .pointer (some ⟨p, 0, none⟩)])
    (k1 : PlAt w0 w' Z' S'.D S'.L S'.P) (k2 : Pfr Z P w w') (k3 : Z'.Later S'.P Z P w) : Wd w0 w' b g q p S' := ⟨Z', k1, k3.X.g.trans h2, k3.X.q.trans h3, k3.q.trans h4, Pfr.world h1 k2 h5⟩
theorem wd_fresh {n f : Nat} (h1 : 1 ≤ n) (h2 : n ≤ 4000) (h4 : 1 ≤ f ∧ f ≤ 64) (hT : Tab w) : Calls Tryz.prog 6 #[.int .i64 (n : Int), .int .i64 (f : Int)] w (fun e w' => ∃ b g q p, e = .returned (.pointer (some ⟨b, 0, none⟩)) ∧ w.heap.size ≤ b ∧ Wd w w' b g q p (fS n f)) := by
  refine (pfresh_any h1 h2 h4 hT).mono fun e w' hh => ?_
  obtain ⟨Z, b, he, hr, hb, hl, -⟩ := hh
  exact ⟨b, Z.X.g, Z.X.q, Z.q, he, hb, Z, hl, rfl, rfl, rfl, hr⟩
theorem wd_append (h : Wd w0 w b g q p S) (ft : S.Fit c) (o : Obj) (l : List UInt8) (n cc : Nat) (hr : Rd (w.alloc o) (some ⟨w.heap.size, 0, none⟩) l) (hn : l.length = n) (h1 : 0 < n) (h2 : n ≤ 1200) (hst : S.L.hd.st < 576460752303423488) (hroom : (0 : Int) ≤ roomOf S.L - 2 - (n : Int)) :
    Calls Tryz.prog 19 #[.pointer (some ⟨q, 0, none⟩), .slice (some ⟨w.heap.size, 0, none⟩) n cc, .int .i64 0] (w.alloc o) (WP w0 b g q p (.tuple #[.int .u64 (endOf S.L : Int), .int .i64 0]) (apS S l)) := by
  obtain ⟨Z, k1, k2, k3, k4, k5⟩ := h
  subst k3
  refine (pappend_any (k1.ext_ (Ext.alloc w o)) ft (some ⟨w.heap.size, 0, none⟩) cc n l hr hn h1 h2 (fun a ha => by injection ha with ha; subst ha; exact ⟨new_notP k1, by simp⟩) hst hroom).mono fun e w' hh => ?_
  obtain ⟨Z', he, -, hl, hf, hn2⟩ := hh
  exact ⟨he, Wd.later (S' := apS S l) (k1.ext_ (Ext.alloc w o)) k2 rfl k4 (k5.ext (Ext.alloc w o)) hl hf hn2⟩
theorem wd_write (h : Wd w0 w b g q p S) (ft : S.Fit c) (hc : c ≤ 400000) (hT : Tab w0) (x : Int) (S1 : St) (hp : pageR S x = (0, S1)) (o : Obj) (off : Nat) (m : List UInt8) (n cc : Nat) (hr : Rd (w.alloc o) (some ⟨w.heap.size, 0, none⟩) m) (hn : m.length = n) (hm : off + n ≤ 504) (lsn : Nat) :
    Calls Tryz.prog 15 #[.pointer (some ⟨p, 0, none⟩), .int .i64 x, .int .i64 (off : Int), .slice (some ⟨w.heap.size, 0, none⟩) n cc, .int .u64 (lsn : Int)] (w.alloc o) (fun e w' => ∃ f, S1.P.H x.toNat = some f ∧ WP w0 b g q p (.int .i64 0) (setS S1 x.toNat (chF f off m lsn)) e w') := by
  obtain ⟨Z, k1, k2, k3, k4, k5⟩ := h
  subst k4
  refine (pwrite_ok (k1.ext_ (Ext.alloc w o)) ft hc hT x S1 hp off (some ⟨w.heap.size, 0, none⟩) m n cc hn hm hr (fun a ha => by injection ha with ha; subst ha; exact ⟨new_notP k1, by simp⟩) lsn).mono fun e w' hh => ?_
  obtain ⟨f, hf, Z', he, hl, hpf, hn2⟩ := hh
  exact ⟨f, hf, he, Wd.later (k1.ext_ (Ext.alloc w o)) k2 k3 rfl (k5.ext (Ext.alloc w o)) hl hpf hn2⟩
theorem wd_read (h : Wd w0 w b g q p S) (ft : S.Fit c) (hc : c ≤ 400000) (hT : Tab w0) (x : Int) (S1 : St) (hp : pageR S x = (0, S1)) :
    Calls Tryz.prog 16 #[.pointer (some ⟨p, 0, none⟩), .int .i64 x] w (fun e w' => ∃ f A cc, S1.P.H x.toNat = some f ∧ e = .returned (.tuple #[.slice A 504 cc, .int .u64 (f.last : Int), .int .i64 0]) ∧ Rd w' A f.by_ ∧ Wd w0 w' b g q p S1) := by
  obtain ⟨Z, k1, k2, k3, k4, k5⟩ := h
  subst k4
  refine (pread_ok k1 ft hc hT x S1 hp).mono fun e w' hh => ?_
  obtain ⟨f, Z', A, cc, hf, he, hrd, -, hl, hpf, hn2⟩ := hh
  exact ⟨f, A, cc, hf, he, hrd, Wd.later k1 k2 k3 rfl k5 hl hpf hn2⟩
theorem wd_read_not (h : Wd w0 w b g q p S) (ft : S.Fit c) (hc : c ≤ 400000) (hT : Tab w0) (x er : Int) (S1 : St) (hp : pageR S x = (er, S1)) (he0 : er ≠ 0) :
    Calls Tryz.prog 16 #[.pointer (some ⟨p, 0, none⟩), .int .i64 x] w (WP w0 b g q p (.tuple #[.slice none 0 0, .int .u64 0, .int .i64 er]) S1) := by
  obtain ⟨Z, k1, k2, k3, k4, k5⟩ := h
  subst k4
  refine (pread_not k1 ft hc hT x er S1 hp he0).mono fun e w' hh => ?_
  obtain ⟨Z', he, hl, hpf, hn2⟩ := hh
  exact ⟨he, Wd.later k1 k2 k3 rfl k5 hl hpf hn2⟩
theorem wd_pin (h : Wd w0 w b g q p S) (ft : S.Fit c) (hc : c ≤ 400000) (hT : Tab w0) (x : Int) (S1 : St) (hp : pageR S x = (0, S1)) :
    Calls Tryz.prog 17 #[.pointer (some ⟨p, 0, none⟩), .int .i64 x] w (fun e w' => ∃ f, S1.P.H x.toNat = some f ∧ WP w0 b g q p (.int .i64 0) (setS S1 x.toNat { f with pins := f.pins + 1 }) e w') := by
  obtain ⟨Z, k1, k2, k3, k4, k5⟩ := h
  subst k4
  refine (pin_ok k1 ft hc hT x S1 hp).mono fun e w' hh => ?_
  obtain ⟨f, hf, Z', he, hl, hpf, hn2⟩ := hh
  exact ⟨f, hf, he, Wd.later k1 k2 k3 rfl k5 hl hpf hn2⟩
theorem unpS_is (S : St) (i : Nat) : (unpS S i).D = S.D ∧ (unpS S i).L = S.L := by
  unfold unpS
  split
  · split
    · exact ⟨rfl, rfl⟩
    · exact ⟨rfl, rfl⟩
  · exact ⟨rfl, rfl⟩
theorem wd_unpin (h : Wd w0 w b g q p S) (ft : S.Fit c) (i : Nat) (hi : i < S.P.pages) :
    Calls Tryz.prog 18 #[.pointer (some ⟨p, 0, none⟩), .int .i64 (i : Int)] w (WP w0 b g q p (.int .i64 (unpE S.P i)) (unpS S i)) := by
  obtain ⟨Z, k1, k2, k3, k4, k5⟩ := h
  subst k4
  refine (unpin_any k1 ft i hi).mono fun e w' hh => ?_
  obtain ⟨Z', he, hl, hpf, hn2⟩ := hh
  refine ⟨he, Wd.later k1 k2 k3 rfl k5 ?_ hpf hn2⟩
  rw [(unpS_is S i).1, (unpS_is S i).2]
  exact hl
theorem wd_len (h : Wd w0 w b g q p S) : Calls Tryz.prog 9 #[.pointer (some ⟨p, 0, none⟩)] w (Same w (.int .i64 (S.P.n : Int))) := by
  obtain ⟨Z, k1, k2, k3, k4, k5⟩ := h
  subst k4
  exact plen_any k1
theorem wd_sure (h : Wd w0 w b g q p S) : Calls Tryz.prog 20 #[.pointer (some ⟨q, 0, none⟩)] w (Same w (.int .u64 (S.L.sure : Int))) := by
  obtain ⟨Z, k1, k2, k3, k4, k5⟩ := h
  subst k3
  exact lsure_any k1.log
end
/-! ### the example's states -/
def aF : Fm := { frameB (List.replicate 512 0) with used := 1 }
def aS1 : St := apS (fS 2 1) [114]
def aS2 : St := { aS1 with P := askP (bringP aS1.P 0 (List.replicate 512 0)) 0 (frameB (List.replicate 512 0)) }
def aS3 : St := setS aS2 0 (chF aF 0 [97] 480)
def aS4 : St := (pageR aS3 1).2
def aS5 : St := (pageR aS4 0).2
theorem aS1_fit : aS1.Fit 10 := apS_fit (fresh_fit (by decide) (by decide) ⟨by decide, by decide⟩) [114] (by decide)
theorem aS1_good : Good aS1 := (apS_good (fresh_good 2 1).1 [114]).1
theorem aS2_is : pageR aS1 0 = (0, aS2) := by
  have h := page_new (S := aS1) (i := 0) aS1_good.awk aS1_fit (by decide) rfl (by decide)
  have e : aS1.D.at (aS1.P.at_ + 0) = List.replicate 512 0 := fresh_at (n := 2) (j := 0) (by decide)
  rw [e] at h
  exact h
theorem aS2_had : aS2.P.H 0 = some aF := by
  show upM (upM (fun _ => none) 0 (some (frameB (List.replicate 512 0)))) 0 (some aF) 0 = some aF
  exact upM_same _ _ _
theorem aS2_only : ∀ j g, aS2.P.H j = some g → j = 0 := fun j g hj => by
  by_cases e : j = 0
  · exact e
  · have h1 : upM (upM (fun _ => none) 0 (some (frameB (List.replicate 512 0)))) 0 (some aF) j = some g := hj
    rw [upM_other _ _ e, upM_other _ _ e] at h1
    cases h1
theorem aS2_fit : aS2.Fit 54 := by have h := (pageR_fit aS1_fit (by decide) 0).1; rw [aS2_is] at h; exact h
theorem aS1_end : endOf aS1.L = 483 := by rw [show aS1.L = (apS (fS 2 1) [114]).L from rfl, (apS_end _ _).1]; decide
theorem aS2_good : Good aS2 := by
  have h := (pageR_good (S := aS1) (i := 0) aS1_good aS1_fit (by decide) (by decide) (.inr (.inl (by decide)))).2.1
  have h : Good (pageR aS1 0).2 := h
  rw [aS2_is] at h
  exact h
theorem aS3_good : Good aS3 ∧ ∀ j, cont aS3 j = if j = 0 then (over aF.by_ 0 [97], 480) else cont aS2 j := write_good aS2_good aS2_had 0 [97] 480 (by show 480 < endOf aS1.L; rw [aS1_end]; decide)
theorem aF_ok : aF.Ok aS2.P := (aS2_fit.pool.page 0 aF aS2_had).2
theorem aS3_fit : aS3.Fit 54 := setS_fit aS2_fit aS2_had (chF_ok aF_ok 0 [97] 480 (by decide) (by decide)) rfl
theorem aS3_had : aS3.P.H 0 = some (chF aF 0 [97] 480) := by
  show upM aS2.P.H 0 (some (chF aF 0 [97] 480)) 0 = _
  exact upM_same _ _ _
theorem aS3_pages : aS3.P.pages = 2 := rfl
theorem aS3_cn : aS3.L.hd.cn = 40 := rfl
theorem aS3_only : ∀ j g, aS3.P.H j = some g → j = 0 := fun j g hj => by
  by_cases e : j = 0
  · exact e
  · have h1 : upM aS2.P.H 0 (some (chF aF 0 [97] 480)) j = some g := hj
    rw [upM_other _ _ e] at h1
    exact aS2_only j g h1
theorem aS3_idle : idle aS3.P.H aS3.P.pages = some 0 := idle_some aS3_fit.pool aS3_had rfl fun j g hj _ => by
  have e := aS3_only j g hj
  subst e
  rw [aS3_had] at hj
  injection hj with hj
  rw [hj]
  exact Nat.le_refl _
theorem aS3_no : aS3.P.H 1 = none := by
  cases h : aS3.P.H 1 with
  | none => rfl
  | some g => exact absurd (aS3_only 1 g h) (by decide)
theorem aw_next {S3 : St} {c : Nat} {f3 : Fm} (g : Good S3) (ft : S3.Fit c) (hc : c ≤ 300000) (h3 : S3.P.H 0 = some f3) (hch : f3.ch = true) (hno : S3.P.H 1 = none) (hid : idle S3.P.H S3.P.pages = some 0) (hpg : S3.P.pages = 2) (hn : ¬ S3.P.n < S3.P.frames) (hhi : f3.hi = 480) (hcn : S3.L.hd.cn = 40) :
    ∃ S4 S5, pageR S3 1 = (0, S4) ∧ S4.Fit (c + 44) ∧ pageR S4 0 = (0, S5) ∧ 480 < S5.L.sure ∧ ∃ f, S5.P.H 0 = some f ∧ (f.by_, f.last) = cont S3 0 := by
  have hi : idle S3.P.H S3.P.pages ≠ none := by rw [hid]; exact Option.some_ne_none 0
  have h := pageR_good (S := S3) (i := 1) g ft (by omega) (by omega) (.inr (.inr hi))
  have hs := page_sure (S := S3) (i := 1) g ft (by omega) (by omega) hno hn hid h3 hch
  obtain ⟨k1, -, -, -, k5, -⟩ := pageR_fit ft (by omega) ((1 : Nat) : Int)
  rw [show ((1 : Nat) : Int) = 1 from rfl] at h hs k1 k5
  rw [hhi] at hs
  generalize hq : pageR S3 1 = r at h hs k1 k5 ⊢
  obtain ⟨r1, S4⟩ := r
  obtain ⟨h1, h2, hcc, h4, ⟨f, hf, h5, hp, h6⟩, h7, h8⟩ := h
  rw [hno] at hp
  simp only at h1 h2 hcc hf hs k1 k5
  subst h1
  have hi4 : idle S4.P.H S4.P.pages ≠ none := idle_ne k1.pool f.used 1 f hf hp (Nat.le_refl _)
  have h := pageR_good (S := S4) (i := 0) h2 k1 (by omega) (by omega) (.inr (.inr hi4))
  rw [show ((0 : Nat) : Int) = 0 from rfl] at h
  generalize hq2 : pageR S4 0 = r at h ⊢
  obtain ⟨r1, S5⟩ := r
  obtain ⟨j1, j2, j3, j4, ⟨f5, hf5, j5, -, -⟩, j7, j8⟩ := h
  simp only at j1 j8 hf5
  subst j1
  rw [hcn] at k1
  exact ⟨S4, S5, rfl, k1, hq2, Nat.lt_of_lt_of_le hs j8, f5, hf5, by rw [j5, hcc 0 (by omega)]⟩
section
variable {w : World}
set_option maxRecDepth 20000 in
set_option maxHeartbeats 3200000 in
theorem pawake_any (w : World) (hT : Tab w) : Calls Tryz.prog 5 #[] w (Awake w) := by
  have KF : Hid (Calls Tryz.prog 6 #[.int .i64 2, .int .i64 1] w (fun e w' => ∃ b g q p, e = .returned (.pointer (some ⟨b, 0, none⟩)) ∧ w.heap.size ≤ b ∧ Wd w w' b g q p (fS 2 1))) := hide (wd_fresh (n := 2) (f := 1) (by decide) (by decide) ⟨by decide, by decide⟩ hT)
  have HBR : Hid (∀ W : World, (Instr.buildSlice 32 1 #[(0, .int .u8 114)]).run Tryz.prog W = .ok (.slice (some ⟨W.heap.size, 0, none⟩) 1 1) (W.alloc (.cells #[.int .u8 114] 5))) := hide (fun W => by kernel_rfl)
  have HBA : Hid (∀ W : World, (Instr.buildSlice 32 1 #[(0, .int .u8 97)]).run Tryz.prog W = .ok (.slice (some ⟨W.heap.size, 0, none⟩) 1 1) (W.alloc (.cells #[.int .u8 97] 5))) := hide (fun W => by kernel_rfl)
  have KA : Hid (∀ W b g q p (fr : Nat × Nat), Wd w W b g q p (fS 2 1) → Calls Tryz.prog 19 #[.pointer (some ⟨q, 0, none⟩), .slice (some ⟨W.heap.size, 0, none⟩) 1 1, .int .i64 0] (W.alloc (.cells #[.int .u8 114] 5 fr)) (WP w b g q p (.tuple #[.int .u64 480, .int .i64 0]) aS1)) := hide (fun W b g q p fr hw => by
    have k := wd_append hw (fresh_fit (n := 2) (f := 1) (by decide) (by decide) ⟨by decide, by decide⟩) _ [114] 1 1 (frc_bytes 114 fr W) rfl (by decide) (by decide) (by decide) (by decide)
    rw [show endOf (fS 2 1).L = 480 from by decide] at k
    exact k)
  have KW : Hid (∀ W b g q p (fr : Nat × Nat), Wd w W b g q p aS1 → Calls Tryz.prog 15 #[.pointer (some ⟨p, 0, none⟩), .int .i64 0, .int .i64 0, .slice (some ⟨W.heap.size, 0, none⟩) 1 1, .int .u64 480] (W.alloc (.cells #[.int .u8 97] 5 fr)) (WP w b g q p (.int .i64 0) aS3)) := hide (fun W b g q p fr hw => by
    have k := wd_write hw aS1_fit (by decide) hT 0 aS2 aS2_is _ 0 [97] 1 1 (frc_bytes 97 fr W) rfl (by decide) 480
    refine k.mono fun e w' hh => ?_
    obtain ⟨f, hf, h1⟩ := hh
    have hf : aS2.P.H 0 = some f := hf
    rw [aS2_had] at hf
    injection hf with hf
    subst hf
    exact h1)
  obtain ⟨aS4, aS5, h34, hf4, h45, hsu5, f5, hf5, hcf5⟩ := aw_next aS3_good.1 aS3_fit (by decide) aS3_had rfl aS3_no aS3_idle aS3_pages (by show ¬ 1 < 1; decide) rfl aS3_cn
  rw [aS3_good.2 0, if_pos rfl] at hcf5
  have hb5 := (Prod.mk.inj hcf5).1
  have hl5 := (Prod.mk.inj hcf5).2
  have KR1 : Hid (∀ W b g q p, Wd w W b g q p aS3 → Calls Tryz.prog 16 #[.pointer (some ⟨p, 0, none⟩), .int .i64 1] W (fun e w' => ∃ A cc l, e = .returned (.tuple #[.slice A 504 cc, .int .u64 l, .int .i64 0]) ∧ Wd w w' b g q p aS4)) := hide (fun W b g q p hw => (wd_read hw aS3_fit (by decide) hT 1 aS4 h34).mono fun e w' hh => by
    obtain ⟨f, A, cc, -, he, -, hw2⟩ := hh
    exact ⟨A, cc, _, he, hw2⟩)
  have KR0 : Hid (∀ W b g q p, Wd w W b g q p aS4 → Calls Tryz.prog 16 #[.pointer (some ⟨p, 0, none⟩), .int .i64 0] W (fun e w' => ∃ a off cc, e = .returned (.tuple #[.slice (some ⟨a, off, none⟩) 504 cc, .int .u64 480, .int .i64 0]) ∧ w'.cell? ⟨a, off, none⟩ = some (.int .u8 97) ∧ Wd w w' b g q p aS5)) := hide (fun W b g q p hw => (wd_read hw hf4 (by decide) hT 0 aS5 h45).mono fun e w' hh => by
    obtain ⟨f, A, cc, hf, he, hr, hw2⟩ := hh
    have hf : aS5.P.H 0 = some f := hf
    rw [hf5] at hf
    injection hf with hf
    subst hf
    rw [hb5] at hr
    obtain ⟨a, off, rfl, hc⟩ := hr (by decide)
    rw [hl5] at he
    have h0 := hc 0 97 (by decide)
    exact ⟨a, off, cc, he, h0, hw2⟩)
  obtain ⟨su, HSU⟩ : ∃ su, Hid (aS5.L.sure = su) := ⟨_, hide rfl⟩
  have hsu : (480 : Int) < (su : Int) := by have h := hsu5; rw [HSU.out] at h; omega
  have KS : Hid (∀ W b g q p, Wd w W b g q p aS5 → Calls Tryz.prog 20 #[.pointer (some ⟨q, 0, none⟩)] W (Same W (.int .u64 (su : Int)))) := hide (fun W b g q p hw => by have k := wd_sure hw; rw [HSU.out] at k; exact k)
  have hcv := fun (w : World) (C : Array Value) (n c : Nat) => Lib.run_convert_bytes_const (P := Tryz.prog) w 32 5 C n c Tryz.underlying32 Tryz.underlying5
  clear hT hb5 hl5 hcf5 hf5 h45 h34 hf4 hsu5
  obtain ⟨s5, HS5⟩ : ∃ s5, Hid (aS5 = s5) := ⟨_, hide rfl⟩
  obtain ⟨s4, HS4⟩ : ∃ s4, Hid (aS4 = s4) := ⟨_, hide rfl⟩
  obtain ⟨s3, HS3⟩ : ∃ s3, Hid (aS3 = s3) := ⟨_, hide rfl⟩
  obtain ⟨s1, HS1⟩ : ∃ s1, Hid (aS1 = s1) := ⟨_, hide rfl⟩
  obtain ⟨s0, HS0⟩ : ∃ s0, Hid (fS 2 1 = s0) := ⟨_, hide rfl⟩
  rw [HS5.out] at KS KR0
  rw [HS4.out] at KR0 KR1
  rw [HS3.out] at KR1 KW
  rw [HS1.out] at KW KA
  rw [HS0.out] at KA KF
  clear HSU HS5 HS4 HS3 HS1 HS0
  go_enter Tryz.func5, Tryz.ntmps5
  go_upto_region 9 with (first
    | (go_at_call 6; (with_reducible refine KF.out.mono ?_); rintro e w1 ⟨b, g, q, p, rfl, hb1, hw1⟩; have HB1 := hide hb1; have HW1 := hide hw1; have d1 := hw1.c1; clear hb1 hw1)
    | ((with_reducible show wpList _ _ _ (⟨some 18, _, _, _, _, _⟩ :: _) _ _); refine wpList_gives (gives_buildSlice rfl [(0, .int .u8 114)] rfl (HBR.out w1) ⟨rfl, rfl⟩) rfl ?_)
    | (go_at_call 19; (with_reducible refine (KA.out w1 b g q p _ HW1.out).mono ?_); rintro e w2 ⟨rfl, hw2⟩; have HW2 := hide hw2; clear d1; have d2 := hw2.c2; clear hw2)
    | ((with_reducible show wpList _ _ _ (⟨some 30, _, _, _, _, _⟩ :: _) _ _); refine wpList_gives (gives_buildSlice rfl [(0, .int .u8 97)] rfl (HBA.out w2) ⟨rfl, rfl⟩) rfl ?_)
    | (go_at_call 15; (with_reducible refine (KW.out w2 b g q p _ HW2.out).mono ?_); rintro e w3 ⟨rfl, hw3⟩; have HW3 := hide hw3; clear d2; have d3 := hw3.c2; clear hw3)
    | (go_at_call 16; (with_reducible refine (KR0.out w4 b g q p HW4.out).mono ?_); rintro e w5 ⟨a5, o5, c5, rfl, hc5, hw5⟩; have HC5 := hide hc5; have HW5 := hide hw5; clear d4; have d5 := hw5.c1; clear hw5)
    | (go_at_call 16; (with_reducible refine (KR1.out w3 b g q p HW3.out).mono ?_); rintro e w4 ⟨A4, c4, l4, rfl, hw4⟩; have HW4 := hide hw4; clear d3; have d4 := hw4.c2; clear hw4))
  clear hcv KF HBR HBA KA KW KR0 KR1
  have c5b := HC5.out
  have hsu2 : (480 : Int) < (su : Int) := hsu
  go_wp2_with (go_at_call 20; (with_reducible refine (KS.out w5 b g q p HW5.out).mono ?_); rintro e w6 ⟨rfl, hw6⟩; subst hw6)
  go_ret
  exact ⟨rfl, HW5.out.ext⟩
end
end Go.Proofs.YtnkcneccolbbdaaGreatDoor
namespace Go.Proofs.YtnkcneccolbbdaaGreatDoor
open Go.RowKit

section
variable {w0 w w' : World} {X : Bk} {Z : Pk} {D : Dk} {L : Lg} {P : Pl}
theorem LgAt.has_ge (h : LgAt w0 w X D L) {k : Nat} (hk : X.has k) : w0.heap.size ≤ k := by
  rcases hk with rfl | rfl | rfl | rfl | ⟨a, ha, rfl⟩ | hk
  · exact h.base
  · exact h.disk.base.1
  · exact h.disk.base.2.1
  · exact h.disk.base.2.2
  · exact (own_base h.disk.pen a ha).1
  · exact (own_block h.tail k hk).1
theorem PlAt.has_ge (h : PlAt w0 w Z D L P) {k : Nat} (hk : Z.has P k) : w0.heap.size ≤ k := by
  rcases hk with hk | rfl | rfl | rfl | ⟨i, f, hf, rfl⟩
  · exact h.log.has_ge hk
  · exact h.base.1
  · exact h.base.2.1
  · exact h.base.2.2.1
  · exact h.base.2.2.2 i f hf
theorem Pfr.grown (h : PlAt w0 w Z D L P) (k : Pfr Z P w w') : Ext w0 w' := by
  have hx := h.log.ext
  exact ⟨k.os.trans hx.os, k.tape.trans hx.tape, k.output.trans hx.output, Nat.le_trans hx.size k.size, fun j hj => (k.other j (Nat.lt_of_lt_of_le hj hx.size) fun hh => by have := h.has_ge hh; omega).trans (Below.block hx j hj)⟩
theorem pread_nil (x : Int) : Calls Tryz.prog 16 #[.pointer none, .int .i64 x] w (Same w (.tuple #[.slice none 0 0, .int .u64 0, .int .i64 6])) := by
  go_enter Tryz.func16, Tryz.ntmps16
  go_wp2
  go_ret3
  exact ⟨rfl, rfl⟩
theorem pwrite_nil (x off : Int) (A : Option Addr) (n c : Nat) (lsn : Int) : Calls Tryz.prog 15 #[.pointer none, .int .i64 x, .int .i64 off, .slice A n c, .int .u64 lsn] w (Same w (.int .i64 6)) := by
  go_enter Tryz.func15, Tryz.ntmps15
  go_wp2
  go_ret
  exact ⟨rfl, rfl⟩
theorem ppin_nil (x : Int) : Calls Tryz.prog 17 #[.pointer none, .int .i64 x] w (Same w (.int .i64 6)) := by
  go_enter Tryz.func17, Tryz.ntmps17
  go_wp2
  go_ret
  exact ⟨rfl, rfl⟩
theorem punpin_nil (x : Int) : Calls Tryz.prog 18 #[.pointer none, .int .i64 x] w (Same w (.int .i64 6)) := by
  go_enter Tryz.func18, Tryz.ntmps18
  go_wp2
  go_ret
  exact ⟨rfl, rfl⟩
theorem pflush_nil : Calls Tryz.prog 11 #[.pointer none] w (Same w (.int .i64 6)) := by
  go_enter Tryz.func11, Tryz.ntmps11
  go_wp2
  go_ret
  exact ⟨rfl, rfl⟩
theorem plen_nil : Calls Tryz.prog 9 #[.pointer none] w (Same w (.int .i64 0)) := by
  go_enter Tryz.func9, Tryz.ntmps9
  go_wp2
  go_ret
  exact ⟨rfl, rfl⟩
theorem pdirty_nil : Calls Tryz.prog 12 #[.pointer none] w (Same w (.slice none 0 0)) := by
  go_enter Tryz.func12, Tryz.ntmps12
  go_wp2
  go_ret
  exact ⟨rfl, rfl⟩
theorem pnew_nil1 (v : Option Addr) (a n f : Int) : Calls Tryz.prog 14 #[.pointer none, .pointer v, .int .i64 a, .int .i64 n, .int .i64 f] w (Same w (.tuple #[.pointer none, .int .i64 6])) := by
  go_enter Tryz.func14, Tryz.ntmps14
  go_wp2
  go_ret2
  exact ⟨rfl, rfl⟩
theorem pnew_nil2 (g : Nat) (a n f : Int) : Calls Tryz.prog 14 #[.pointer (some ⟨g, 0, none⟩), .pointer none, .int .i64 a, .int .i64 n, .int .i64 f] w (Same w (.tuple #[.pointer none, .int .i64 6])) := by
  go_enter Tryz.func14, Tryz.ntmps14
  go_wp2
  go_ret2
  exact ⟨rfl, rfl⟩
set_option maxHeartbeats 800000 in
theorem pnew_arg (h : LgAt w0 w X D L) (h2 : D.dur.length ≤ 4096) (a n f : Int) (hn : n < 9223372036854775808) (hbad : a < 0 ∨ n < 1 ∨ (D.dur.length : Int) - n < a ∨ f < 1 ∨ 64 < f) :
    Calls Tryz.prog 14 #[.pointer (some ⟨X.g, 0, none⟩), .pointer (some ⟨X.q, 0, none⟩), .int .i64 a, .int .i64 n, .int .i64 f] w (Same w (.tuple #[.pointer none, .int .i64 1])) := by
  have KL := hide (len_any h.disk)
  obtain ⟨dl, HDL⟩ : ∃ dl : Int, Hid ((D.dur.length : Int) = dl) := ⟨_, hide rfl⟩
  rw [HDL.out] at KL hbad
  obtain ⟨xi, HXI⟩ : ∃ xi : Int, Hid (dl - n = xi) := ⟨_, hide rfl⟩
  rw [HXI.out] at hbad
  by_cases ha : a < 0
  · clear hbad h h2 hn
    go_enter Tryz.func14, Tryz.ntmps14
    go_wp2
    go_ret2
    exact ⟨rfl, rfl⟩
  · by_cases hn1 : n < 1
    · clear hbad h h2 hn
      go_enter Tryz.func14, Tryz.ntmps14
      go_wp2
      go_ret2
      exact ⟨rfl, rfl⟩
    · have hw1 : IntKind.i64.wrap (dl - n) = xi := by rw [IntKind.wrap_i64]; have h3 := HDL.out; have h4 := HXI.out; omega
      by_cases hx : xi < a
      · clear hbad h h2 hn
        go_enter Tryz.func14, Tryz.ntmps14
        go_wp2_with (go_at_call 38; (with_reducible refine KL.out.mono ?_); rintro e w2 ⟨rfl, hw2⟩; subst hw2)
        go_ret2
        exact ⟨rfl, rfl⟩
      · by_cases hf : f < 1
        · clear hbad h h2 hn
          go_enter Tryz.func14, Tryz.ntmps14
          go_wp2_with (go_at_call 38; (with_reducible refine KL.out.mono ?_); rintro e w2 ⟨rfl, hw2⟩; subst hw2)
          go_ret2
          exact ⟨rfl, rfl⟩
        · have hf2 : 64 < f := by omega
          clear hbad h h2 hn
          go_enter Tryz.func14, Tryz.ntmps14
          go_wp2_with (go_at_call 38; (with_reducible refine KL.out.mono ?_); rintro e w2 ⟨rfl, hw2⟩; subst hw2)
          go_ret2
          exact ⟨rfl, rfl⟩
set_option maxRecDepth 20000 in
set_option maxHeartbeats 1600000 in
theorem pwrite_gen {c : Nat} (h : PlAt w0 w Z D L P) (ft : St.Fit ⟨D, L, P⟩ c) (hc : c ≤ 400000) (hT : Tab w0) (x : Int) (S : St) (hp : pageR ⟨D, L, P⟩ x = (0, S)) (off : Nat) (A : Option Addr) (m : List UInt8) (n cc : Nat) (hn : m.length = n) (hm : off + n ≤ 504) (hA : ∀ w', Pfr Z P w w' → Rd w' A m) (lsn : Nat) :
    Calls Tryz.prog 15 #[.pointer (some ⟨Z.q, 0, none⟩), .int .i64 x, .int .i64 (off : Int), .slice A n cc, .int .u64 (lsn : Int)] w (WrP w0 w Z P x.toNat S off m lsn) := by
  have KP := hide (page_had h ft hc hT x S hp)
  have FT : Hid (S.Fit (c + L.hd.cn + 4)) := hide (by have h1 := (pageR_fit ft hc x).1; rw [hp] at h1; exact h1)
  obtain ⟨i, HI⟩ : ∃ i, Hid (x.toNat = i) := ⟨_, hide rfl⟩
  rw [HI.out] at KP ⊢
  have HA := hide hA
  have HM := hide hm
  have HN := hide hn
  have h1 : ¬ (off : Int) < 0 := by omega
  have h2 : ¬ (504 : Int) - (n : Int) < (off : Int) := by omega
  have h3 : IntKind.i64.wrap ((504 : Int) - (n : Int)) = (504 : Int) - (n : Int) := by rw [IntKind.wrap_i64]; omega
  clear h ft hc hT hp hA hm hn
  go_enter Tryz.func15, Tryz.ntmps15
  go_upto_region 8 with (go_at_call 39; (with_reducible refine KP.out.mono ?_); rintro e w2 ⟨Z2, f, b, rfl, hb2, hf2, hl2, hpf2, hn2⟩; have HB2 := hide hb2; have HF2 := hide hf2; have HL2 := hide hl2; have HPF2 := hide hpf2; have HPN2 := hide hn2; clear hb2 hf2 hl2 hpf2 hn2)
  have h5 := (FT.out.pool.page i f HF2.out).2
  have hr := HL2.out.fr i f HF2.out
  rw [HB2.out] at hr
  have hA2 : Rd w2 A m := HA.out w2 HPF2.out
  have KCH := hide (change_any b f h5.by_ hr off A m n cc HN.out HM.out hA2 lsn)
  clear h5 hr hA2 h1 h2 h3
  go_wp2_with (go_at_call 40; (with_reducible refine KCH.out.mono ?_); rintro e w3 ⟨rfl, hr3, ho3⟩; have HR3 := hide hr3; have HO3 := hide ho3; clear hr3 ho3)
  go_ret
  obtain ⟨q1, q2⟩ := setS_at (f := chF f off m lsn) HL2.out HF2.out HO3.out.rest (fun k hk => HO3.out.other k (by rw [HB2.out] at hk; exact hk)) (by rw [HB2.out]; exact HR3.out)
  exact ⟨f, HF2.out, Z2, rfl, q1, HPF2.out.trans q2 HPN2.out, HPN2.out.trans (setS_later HF2.out) HPF2.out.size⟩
end
section
variable {w0 w : World} {b g q p c : Nat} {S : St}
/-- Bytes from outside. -/
theorem wd_write_out (h : Wd w0 w b g q p S) (ft : S.Fit c) (hc : c ≤ 400000) (hT : Tab w0) (x : Int) (S1 : St) (hp : pageR S x = (0, S1)) (off : Nat) (A : Option Addr) (m : List UInt8) (n cc : Nat) (hr : Rd w0 A m) (hn : m.length = n) (hm : off + n ≤ 504) (lsn : Nat) :
    Calls Tryz.prog 15 #[.pointer (some ⟨p, 0, none⟩), .int .i64 x, .int .i64 (off : Int), .slice A n cc, .int .u64 (lsn : Int)] w (fun e w' => ∃ f, S1.P.H x.toNat = some f ∧ WP w0 b g q p (.int .i64 0) (setS S1 x.toNat (chF f off m lsn)) e w') := by
  obtain ⟨Z, k1, k2, k3, k4, k5⟩ := h
  subst k4
  refine (pwrite_gen k1 ft hc hT x S1 hp off A m n cc hn hm (fun w' hw => hr.ext (Pfr.grown k1 hw)) lsn).mono fun e w' hh => ?_
  obtain ⟨f, hf, Z', he, hl, hpf, hn2⟩ := hh
  exact ⟨f, hf, he, Wd.later k1 k2 k3 rfl k5 hl hpf hn2⟩
theorem wd_new (h : Wd w0 w b g q p S) (a n f : Nat) (h1 : a + n ≤ S.D.dur.length) (h2 : S.D.dur.length ≤ 4096) (h3 : 1 ≤ n) (h4 : 1 ≤ f ∧ f ≤ 64) :
    Calls Tryz.prog 14 #[.pointer (some ⟨g, 0, none⟩), .pointer (some ⟨q, 0, none⟩), .int .i64 (a : Int), .int .i64 (n : Int), .int .i64 (f : Int)] w (fun e w' => ∃ z, e = .returned (.tuple #[.pointer (some ⟨z, 0, none⟩), .int .i64 0]) ∧ Ext w w') := by
  obtain ⟨Z, k1, k2, k3, k4, k5⟩ := h
  subst k2 k3
  exact (pnew_any k1.log a n f h1 h2 h3 h4).mono fun e w' ⟨Z2, he, _, _, hx⟩ => ⟨Z2.q, he, hx⟩
theorem wd_new_arg (h : Wd w0 w b g q p S) (h2 : S.D.dur.length ≤ 4096) (a n f : Int) (hn : n < 9223372036854775808) (hbad : a < 0 ∨ n < 1 ∨ (S.D.dur.length : Int) - n < a ∨ f < 1 ∨ 64 < f) :
    Calls Tryz.prog 14 #[.pointer (some ⟨g, 0, none⟩), .pointer (some ⟨q, 0, none⟩), .int .i64 a, .int .i64 n, .int .i64 f] w (Same w (.tuple #[.pointer none, .int .i64 1])) := by
  obtain ⟨Z, k1, k2, k3, k4, k5⟩ := h
  subst k2 k3
  exact pnew_arg k1.log h2 a n f hn hbad
theorem wd_write_arg (x off : Int) (A : Option Addr) (n cc : Nat) (hn : n ≤ 140737488355328) (lsn : Int) (ho : off < 0 ∨ 504 - (n : Int) < off) :
    Calls Tryz.prog 15 #[.pointer (some ⟨p, 0, none⟩), .int .i64 x, .int .i64 off, .slice A n cc, .int .u64 lsn] w (Same w (.int .i64 1)) := pwrite_arg p x off A n cc hn lsn ho
end
end Go.Proofs.YtnkcneccolbbdaaGreatDoor
namespace Go.Proofs.YtnkcneccolbbdaaGreatDoor
open Go.RowKit

section
variable {w : World}
set_option maxRecDepth 20000 in
set_option maxHeartbeats 12800000 in
theorem errs_0 (at_ pg fr ix off : Int) (A : Option Addr) (l : List UInt8) (n cc : Nat) (hT : Tab w) (hrd : Rd w A l) (hln : l.length = n) (hn : n ≤ 140737488355328) (hpg : pg < 9223372036854775808) (hpg0 : -9223372036854775808 ≤ pg) (ho1 : -9223372036854775808 ≤ off) (ho2 : off < 9223372036854775808) (hr : 0 ≤ at_ ∧ 1 ≤ pg ∧ pg ≤ 4096 ∧ at_ ≤ 44 - pg ∧ 1 ≤ fr ∧ fr ≤ 64) :
    Calls Tryz.prog 4 #[.int .i64 at_, .int .i64 pg, .int .i64 fr, .int .i64 ix, .int .i64 off, .slice A n cc] w (Ret w (Is (.bool true))) := by
  have KA := hide (pawake_any w hT)
  have HT := hide hT
  have HRD := hide hrd
  have HLN := hide hln
  have HN := hide hn
  have HR := hide hr
  have HPG := hide hpg
  have HOFF := hide (And.intro ho1 ho2)
  have KF : Hid (∀ W, Ext w W → Calls Tryz.prog 6 #[.int .i64 3, .int .i64 2] W (fun e w' => ∃ b g q p, e = .returned (.pointer (some ⟨b, 0, none⟩)) ∧ Hid (W.heap.size ≤ b) ∧ Hid (Wd W w' b g q p (fS 3 2)))) := hide (fun W hW => wd_fresh (n := 3) (f := 2) (by decide) (by decide) ⟨by decide, by decide⟩ (HT.out.ext hW))
  have hft : (fS 3 2).Fit 10 := fresh_fit (by decide) (by decide) ⟨by decide, by decide⟩
  have HFT := hide hft
  have hp1 := page_new (S := fS 3 2) (i := 1) ⟨rfl, rfl⟩ hft (by decide) rfl (by decide)
  have HDL : Hid ((fS 3 2).D.dur.length = 44) := hide dk2_len
  obtain ⟨s1, HS1⟩ : ∃ s1, Hid (({ fS 3 2 with P := askP (bringP (fS 3 2).P 1 ((fS 3 2).D.at ((fS 3 2).P.at_ + 1))) 1 (frameB ((fS 3 2).D.at ((fS 3 2).P.at_ + 1))) } : St) = s1) := ⟨_, hide rfl⟩
  rw [HS1.out] at hp1
  rw [show ((1 : Nat) : Int) = 1 from rfl] at hp1
  have HP1 := hide hp1
  clear HS1
  obtain ⟨s0, HS0⟩ : ∃ s0, Hid (fS 3 2 = s0) := ⟨_, hide rfl⟩
  rw [HS0.out] at KF HFT HDL HP1
  obtain ⟨xi, HXI⟩ : ∃ xi : Int, Hid (44 - pg = xi) := ⟨_, hide rfl⟩
  obtain ⟨yi, HYI⟩ : ∃ yi : Int, Hid (504 - off = yi) := ⟨_, hide rfl⟩
  clear hT hrd hln hn hr hpg ho1 ho2 hft hp1 HS0
  go_enter Tryz.func4, Tryz.ntmps4
  go_upto_region 6 with (first
    | (go_at_call 5; (with_reducible refine KA.out.mono ?_); rintro e w1 ⟨rfl, hx1⟩; have HX1 := hide hx1; clear hx1)
    | (go_at_call 6; (with_reducible refine (KF.out w1 HX1.out).mono ?_); rintro e w2 ⟨b, g, q, p, rfl, HB, HW2⟩))
  clear KA KF
  have HT1 : Hid (Tab w1) := hide (HT.out.ext HX1.out)
  have HRD1 : Hid (Rd w1 A l) := hide (HRD.out.ext HX1.out)
  have d0 := HW2.out.c0
  have d1 := HW2.out.c1
  have KN : Hid (∀ W, Ext w2 W → Calls Tryz.prog 14 #[.pointer (some ⟨g, 0, none⟩), .pointer (some ⟨q, 0, none⟩), .int .i64 at_, .int .i64 pg, .int .i64 fr] W (fun e w' => ∃ z, e = .returned (.tuple #[.pointer (some ⟨z, 0, none⟩), .int .i64 0]) ∧ Ext W w')) := hide (fun W hW => by
    have hr := HR.out
    obtain ⟨a, rfl⟩ : ∃ a : Nat, at_ = (a : Int) := ⟨at_.toNat, by omega⟩
    obtain ⟨m, rfl⟩ : ∃ m : Nat, pg = (m : Int) := ⟨pg.toNat, by omega⟩
    obtain ⟨f, rfl⟩ : ∃ f : Nat, fr = (f : Int) := ⟨fr.toNat, by omega⟩
    exact wd_new (HW2.out.ext_ hW) a m f (by rw [HDL.out]; omega) (by rw [HDL.out]; decide) (by omega) ⟨by omega, by omega⟩)
  go_region_law (go_simp; go_at_call 14; (with_reducible refine (KN.out _ (Ext.drew _)).mono ?_); rintro e w3 ⟨z3, rfl, hx3⟩; have HX3 : Hid (Ext w2 w3) := hide ((Ext.drew _).trans hx3); clear hx3)
  all_goals
    have HW3 : Hid (Wd w1 w3 b g q p s0) := hide (HW2.out.ext_ HX3.out)
    clear d0 d1 KN
    have d0 := HW3.out.c0
    have d1 := HW3.out.c1
    have d2 := HW3.out.c2
    have hr := HR.out
    have r1 : 0 ≤ at_ := hr.1
    have r2 : 1 ≤ pg := hr.2.1
    have r3 : pg ≤ 4096 := hr.2.2.1
    have r4 : at_ ≤ xi := by have := hr.2.2.2.1; have := HXI.out; omega
    have r5 : 1 ≤ fr := hr.2.2.2.2.1
    have r6 : fr ≤ 64 := hr.2.2.2.2.2
    have hxw : IntKind.i64.wrap (44 - pg) = xi := by rw [IntKind.wrap_i64]; have := HXI.out; omega
    clear hr
    go_upto_region 12 with (first
      | (go_at_call 14; (with_reducible refine (pnew_nil1 _ _ _ _).mono ?_); rintro e wz ⟨rfl, hz⟩; subst hz)
      | (go_at_call 14; (with_reducible refine (pnew_nil2 _ _ _ _).mono ?_); rintro e wz ⟨rfl, hz⟩; subst hz))
    clear d0 d1 hxw r1 r2 r3 r4 r5 r6
    by_cases o1 : off < 0
    · have KB := hide (fun (W : World) => wd_write_arg (w := W) (p := p) 1 off A n cc HN.out 480 (.inl o1))
      go_wp2_with (first
          | (go_at_call 15; (with_reducible refine (KB.out w3).mono ?_); rintro e wz ⟨rfl, hz⟩; subst hz)
          | (go_at_call 16; (with_reducible refine (pread_nil _).mono ?_); rintro e wz ⟨rfl, hz⟩; subst hz)
          | (go_at_call 15; (with_reducible refine (pwrite_nil _ _ _ _ _ _).mono ?_); rintro e wz ⟨rfl, hz⟩; subst hz)
          | (go_at_call 17; (with_reducible refine (ppin_nil _).mono ?_); rintro e wz ⟨rfl, hz⟩; subst hz)
          | (go_at_call 18; (with_reducible refine (punpin_nil _).mono ?_); rintro e wz ⟨rfl, hz⟩; subst hz)
          | (go_at_call 11; (with_reducible refine pflush_nil.mono ?_); rintro e wz ⟨rfl, hz⟩; subst hz)
          | (go_at_call 12; (with_reducible refine pdirty_nil.mono ?_); rintro e wz ⟨rfl, hz⟩; subst hz)
          | (go_at_call 9; (with_reducible refine plen_nil.mono ?_); rintro e wz ⟨rfl, hz⟩; subst hz))
      go_ret
      exact Ret.mk (HX1.out.trans HW3.out.ext) rfl
    · by_cases o2 : 504 < off
      · have KB := hide (fun (W : World) => wd_write_arg (w := W) (p := p) 1 off A n cc HN.out 480 (.inr (by omega)))
        go_wp2_with (first
            | (go_at_call 15; (with_reducible refine (KB.out w3).mono ?_); rintro e wz ⟨rfl, hz⟩; subst hz)
            | (go_at_call 16; (with_reducible refine (pread_nil _).mono ?_); rintro e wz ⟨rfl, hz⟩; subst hz)
            | (go_at_call 15; (with_reducible refine (pwrite_nil _ _ _ _ _ _).mono ?_); rintro e wz ⟨rfl, hz⟩; subst hz)
            | (go_at_call 17; (with_reducible refine (ppin_nil _).mono ?_); rintro e wz ⟨rfl, hz⟩; subst hz)
            | (go_at_call 18; (with_reducible refine (punpin_nil _).mono ?_); rintro e wz ⟨rfl, hz⟩; subst hz)
            | (go_at_call 11; (with_reducible refine pflush_nil.mono ?_); rintro e wz ⟨rfl, hz⟩; subst hz)
            | (go_at_call 12; (with_reducible refine pdirty_nil.mono ?_); rintro e wz ⟨rfl, hz⟩; subst hz)
            | (go_at_call 9; (with_reducible refine plen_nil.mono ?_); rintro e wz ⟨rfl, hz⟩; subst hz))
        go_ret
        exact Ret.mk (HX1.out.trans HW3.out.ext) rfl
      · have hyw : IntKind.i64.wrap (504 - off) = yi := by rw [IntKind.wrap_i64]; have := HYI.out; omega
        obtain ⟨nn, HNN⟩ : ∃ nn : Int, Hid ((n : Int) = nn) := ⟨_, hide rfl⟩
        by_cases o3 : yi < (n : Int)
        · have KB := hide (fun (W : World) => wd_write_arg (w := W) (p := p) 1 off A n cc HN.out 480 (.inr (by have := HYI.out; omega)))
          go_wp2_with (first
              | (go_at_call 15; (with_reducible refine (KB.out w3).mono ?_); rintro e wz ⟨rfl, hz⟩; subst hz)
              | (go_at_call 16; (with_reducible refine (pread_nil _).mono ?_); rintro e wz ⟨rfl, hz⟩; subst hz)
              | (go_at_call 15; (with_reducible refine (pwrite_nil _ _ _ _ _ _).mono ?_); rintro e wz ⟨rfl, hz⟩; subst hz)
              | (go_at_call 17; (with_reducible refine (ppin_nil _).mono ?_); rintro e wz ⟨rfl, hz⟩; subst hz)
              | (go_at_call 18; (with_reducible refine (punpin_nil _).mono ?_); rintro e wz ⟨rfl, hz⟩; subst hz)
              | (go_at_call 11; (with_reducible refine pflush_nil.mono ?_); rintro e wz ⟨rfl, hz⟩; subst hz)
              | (go_at_call 12; (with_reducible refine pdirty_nil.mono ?_); rintro e wz ⟨rfl, hz⟩; subst hz)
              | (go_at_call 9; (with_reducible refine plen_nil.mono ?_); rintro e wz ⟨rfl, hz⟩; subst hz))
          go_ret
          exact Ret.mk (HX1.out.trans HW3.out.ext) rfl
        · obtain ⟨o, HO⟩ : ∃ o : Nat, Hid ((o : Int) = off) := ⟨off.toNat, hide (by omega)⟩
          have KW : Hid (Calls Tryz.prog 15 #[.pointer (some ⟨p, 0, none⟩), .int .i64 1, .int .i64 off, .slice A n cc, .int .u64 480] w3 (fun e w' => e = .returned (.int .i64 0) ∧ Ext w1 w')) := hide (by
            have k1 := wd_write_out HW3.out HFT.out (by decide) HT1.out 1 s1 HP1.out o A l n cc HRD1.out HLN.out (by have h1 := HO.out; have h2 := HYI.out; omega) 480
            rw [HO.out] at k1
            refine k1.mono fun e w' hh => ?_
            obtain ⟨f, -, he, hw⟩ := hh
            exact ⟨he, hw.ext⟩)
          go_wp2_with (first
            | (go_at_call 15; (with_reducible refine KW.out.mono ?_); rintro e w4 ⟨rfl, hx4⟩; have HX4 := hide hx4; clear hx4)
            | (go_at_call 16; (with_reducible refine (pread_nil _).mono ?_); rintro e wz ⟨rfl, hz⟩; subst hz)
            | (go_at_call 15; (with_reducible refine (pwrite_nil _ _ _ _ _ _).mono ?_); rintro e wz ⟨rfl, hz⟩; subst hz)
            | (go_at_call 17; (with_reducible refine (ppin_nil _).mono ?_); rintro e wz ⟨rfl, hz⟩; subst hz)
            | (go_at_call 18; (with_reducible refine (punpin_nil _).mono ?_); rintro e wz ⟨rfl, hz⟩; subst hz)
            | (go_at_call 11; (with_reducible refine pflush_nil.mono ?_); rintro e wz ⟨rfl, hz⟩; subst hz)
            | (go_at_call 12; (with_reducible refine pdirty_nil.mono ?_); rintro e wz ⟨rfl, hz⟩; subst hz)
            | (go_at_call 9; (with_reducible refine plen_nil.mono ?_); rintro e wz ⟨rfl, hz⟩; subst hz))
          go_ret
          exact Ret.mk (HX1.out.trans HX4.out) rfl
end
end Go.Proofs.YtnkcneccolbbdaaGreatDoor
namespace Go.Proofs.YtnkcneccolbbdaaGreatDoor
open Go.RowKit

section
variable {w : World}
set_option maxRecDepth 20000 in
set_option maxHeartbeats 12800000 in
theorem errs_1 (at_ pg fr ix off : Int) (A : Option Addr) (l : List UInt8) (n cc : Nat) (hT : Tab w) (hrd : Rd w A l) (hln : l.length = n) (hn : n ≤ 140737488355328) (hpg : pg < 9223372036854775808) (hpg0 : -9223372036854775808 ≤ pg) (ho1 : -9223372036854775808 ≤ off) (ho2 : off < 9223372036854775808) (hr : at_ < 0) :
    Calls Tryz.prog 4 #[.int .i64 at_, .int .i64 pg, .int .i64 fr, .int .i64 ix, .int .i64 off, .slice A n cc] w (Ret w (Is (.bool true))) := by
  have KA := hide (pawake_any w hT)
  have HT := hide hT
  have HRD := hide hrd
  have HLN := hide hln
  have HN := hide hn
  have HR := hide hr
  have HPG := hide hpg
  have HOFF := hide (And.intro ho1 ho2)
  have KF : Hid (∀ W, Ext w W → Calls Tryz.prog 6 #[.int .i64 3, .int .i64 2] W (fun e w' => ∃ b g q p, e = .returned (.pointer (some ⟨b, 0, none⟩)) ∧ Hid (W.heap.size ≤ b) ∧ Hid (Wd W w' b g q p (fS 3 2)))) := hide (fun W hW => wd_fresh (n := 3) (f := 2) (by decide) (by decide) ⟨by decide, by decide⟩ (HT.out.ext hW))
  have hft : (fS 3 2).Fit 10 := fresh_fit (by decide) (by decide) ⟨by decide, by decide⟩
  have HFT := hide hft
  have hp1 := page_new (S := fS 3 2) (i := 1) ⟨rfl, rfl⟩ hft (by decide) rfl (by decide)
  have HDL : Hid ((fS 3 2).D.dur.length = 44) := hide dk2_len
  obtain ⟨s1, HS1⟩ : ∃ s1, Hid (({ fS 3 2 with P := askP (bringP (fS 3 2).P 1 ((fS 3 2).D.at ((fS 3 2).P.at_ + 1))) 1 (frameB ((fS 3 2).D.at ((fS 3 2).P.at_ + 1))) } : St) = s1) := ⟨_, hide rfl⟩
  rw [HS1.out] at hp1
  rw [show ((1 : Nat) : Int) = 1 from rfl] at hp1
  have HP1 := hide hp1
  clear HS1
  obtain ⟨s0, HS0⟩ : ∃ s0, Hid (fS 3 2 = s0) := ⟨_, hide rfl⟩
  rw [HS0.out] at KF HFT HDL HP1
  obtain ⟨xi, HXI⟩ : ∃ xi : Int, Hid (44 - pg = xi) := ⟨_, hide rfl⟩
  obtain ⟨yi, HYI⟩ : ∃ yi : Int, Hid (504 - off = yi) := ⟨_, hide rfl⟩
  clear hT hrd hln hn hr hpg ho1 ho2 hft hp1 HS0
  go_enter Tryz.func4, Tryz.ntmps4
  go_upto_region 6 with (first
    | (go_at_call 5; (with_reducible refine KA.out.mono ?_); rintro e w1 ⟨rfl, hx1⟩; have HX1 := hide hx1; clear hx1)
    | (go_at_call 6; (with_reducible refine (KF.out w1 HX1.out).mono ?_); rintro e w2 ⟨b, g, q, p, rfl, HB, HW2⟩))
  clear KA KF
  have HT1 : Hid (Tab w1) := hide (HT.out.ext HX1.out)
  have HRD1 : Hid (Rd w1 A l) := hide (HRD.out.ext HX1.out)
  have d0 := HW2.out.c0
  have d1 := HW2.out.c1
  have KN : Hid (∀ W, Ext w2 W → Calls Tryz.prog 14 #[.pointer (some ⟨g, 0, none⟩), .pointer (some ⟨q, 0, none⟩), .int .i64 at_, .int .i64 pg, .int .i64 fr] W (fun e w' => e = .returned (.tuple #[.pointer none, .int .i64 1]) ∧ Ext W w')) := hide (fun W hW => by
    refine (wd_new_arg (HW2.out.ext_ hW) (by rw [HDL.out]; decide) at_ pg fr HPG.out (by rw [HDL.out]; have := HR.out; omega)).mono fun e w' hh => ?_
    obtain ⟨he, hw⟩ := hh
    subst hw
    exact ⟨he, Ext.refl _⟩)
  go_region_law (go_simp; go_at_call 14; (with_reducible refine (KN.out _ (Ext.drew _)).mono ?_); rintro e w3 ⟨rfl, hx3⟩; have HX3 : Hid (Ext w2 w3) := hide ((Ext.drew _).trans hx3); clear hx3)
  all_goals
    have HW3 : Hid (Wd w1 w3 b g q p s0) := hide (HW2.out.ext_ HX3.out)
    clear d0 d1 KN
    have d0 := HW3.out.c0
    have d1 := HW3.out.c1
    have d2 := HW3.out.c2
    have hr := HR.out
    have r1 : ¬ 0 ≤ at_ := by omega
    have hxw := HXI
    clear hr
    go_upto_region 12 with (first
      | (go_at_call 14; (with_reducible refine (pnew_nil1 _ _ _ _).mono ?_); rintro e wz ⟨rfl, hz⟩; subst hz)
      | (go_at_call 14; (with_reducible refine (pnew_nil2 _ _ _ _).mono ?_); rintro e wz ⟨rfl, hz⟩; subst hz))
    clear d0 d1 hxw r1
    by_cases o1 : off < 0
    · have KB := hide (fun (W : World) => wd_write_arg (w := W) (p := p) 1 off A n cc HN.out 480 (.inl o1))
      go_wp2_with (first
          | (go_at_call 15; (with_reducible refine (KB.out w3).mono ?_); rintro e wz ⟨rfl, hz⟩; subst hz)
          | (go_at_call 16; (with_reducible refine (pread_nil _).mono ?_); rintro e wz ⟨rfl, hz⟩; subst hz)
          | (go_at_call 15; (with_reducible refine (pwrite_nil _ _ _ _ _ _).mono ?_); rintro e wz ⟨rfl, hz⟩; subst hz)
          | (go_at_call 17; (with_reducible refine (ppin_nil _).mono ?_); rintro e wz ⟨rfl, hz⟩; subst hz)
          | (go_at_call 18; (with_reducible refine (punpin_nil _).mono ?_); rintro e wz ⟨rfl, hz⟩; subst hz)
          | (go_at_call 11; (with_reducible refine pflush_nil.mono ?_); rintro e wz ⟨rfl, hz⟩; subst hz)
          | (go_at_call 12; (with_reducible refine pdirty_nil.mono ?_); rintro e wz ⟨rfl, hz⟩; subst hz)
          | (go_at_call 9; (with_reducible refine plen_nil.mono ?_); rintro e wz ⟨rfl, hz⟩; subst hz))
      go_ret
      exact Ret.mk (HX1.out.trans HW3.out.ext) rfl
    · by_cases o2 : 504 < off
      · have KB := hide (fun (W : World) => wd_write_arg (w := W) (p := p) 1 off A n cc HN.out 480 (.inr (by omega)))
        go_wp2_with (first
            | (go_at_call 15; (with_reducible refine (KB.out w3).mono ?_); rintro e wz ⟨rfl, hz⟩; subst hz)
            | (go_at_call 16; (with_reducible refine (pread_nil _).mono ?_); rintro e wz ⟨rfl, hz⟩; subst hz)
            | (go_at_call 15; (with_reducible refine (pwrite_nil _ _ _ _ _ _).mono ?_); rintro e wz ⟨rfl, hz⟩; subst hz)
            | (go_at_call 17; (with_reducible refine (ppin_nil _).mono ?_); rintro e wz ⟨rfl, hz⟩; subst hz)
            | (go_at_call 18; (with_reducible refine (punpin_nil _).mono ?_); rintro e wz ⟨rfl, hz⟩; subst hz)
            | (go_at_call 11; (with_reducible refine pflush_nil.mono ?_); rintro e wz ⟨rfl, hz⟩; subst hz)
            | (go_at_call 12; (with_reducible refine pdirty_nil.mono ?_); rintro e wz ⟨rfl, hz⟩; subst hz)
            | (go_at_call 9; (with_reducible refine plen_nil.mono ?_); rintro e wz ⟨rfl, hz⟩; subst hz))
        go_ret
        exact Ret.mk (HX1.out.trans HW3.out.ext) rfl
      · have hyw : IntKind.i64.wrap (504 - off) = yi := by rw [IntKind.wrap_i64]; have := HYI.out; omega
        obtain ⟨nn, HNN⟩ : ∃ nn : Int, Hid ((n : Int) = nn) := ⟨_, hide rfl⟩
        by_cases o3 : yi < (n : Int)
        · have KB := hide (fun (W : World) => wd_write_arg (w := W) (p := p) 1 off A n cc HN.out 480 (.inr (by have := HYI.out; omega)))
          go_wp2_with (first
              | (go_at_call 15; (with_reducible refine (KB.out w3).mono ?_); rintro e wz ⟨rfl, hz⟩; subst hz)
              | (go_at_call 16; (with_reducible refine (pread_nil _).mono ?_); rintro e wz ⟨rfl, hz⟩; subst hz)
              | (go_at_call 15; (with_reducible refine (pwrite_nil _ _ _ _ _ _).mono ?_); rintro e wz ⟨rfl, hz⟩; subst hz)
              | (go_at_call 17; (with_reducible refine (ppin_nil _).mono ?_); rintro e wz ⟨rfl, hz⟩; subst hz)
              | (go_at_call 18; (with_reducible refine (punpin_nil _).mono ?_); rintro e wz ⟨rfl, hz⟩; subst hz)
              | (go_at_call 11; (with_reducible refine pflush_nil.mono ?_); rintro e wz ⟨rfl, hz⟩; subst hz)
              | (go_at_call 12; (with_reducible refine pdirty_nil.mono ?_); rintro e wz ⟨rfl, hz⟩; subst hz)
              | (go_at_call 9; (with_reducible refine plen_nil.mono ?_); rintro e wz ⟨rfl, hz⟩; subst hz))
          go_ret
          exact Ret.mk (HX1.out.trans HW3.out.ext) rfl
        · obtain ⟨o, HO⟩ : ∃ o : Nat, Hid ((o : Int) = off) := ⟨off.toNat, hide (by omega)⟩
          have KW : Hid (Calls Tryz.prog 15 #[.pointer (some ⟨p, 0, none⟩), .int .i64 1, .int .i64 off, .slice A n cc, .int .u64 480] w3 (fun e w' => e = .returned (.int .i64 0) ∧ Ext w1 w')) := hide (by
            have k1 := wd_write_out HW3.out HFT.out (by decide) HT1.out 1 s1 HP1.out o A l n cc HRD1.out HLN.out (by have h1 := HO.out; have h2 := HYI.out; omega) 480
            rw [HO.out] at k1
            refine k1.mono fun e w' hh => ?_
            obtain ⟨f, -, he, hw⟩ := hh
            exact ⟨he, hw.ext⟩)
          go_wp2_with (first
            | (go_at_call 15; (with_reducible refine KW.out.mono ?_); rintro e w4 ⟨rfl, hx4⟩; have HX4 := hide hx4; clear hx4)
            | (go_at_call 16; (with_reducible refine (pread_nil _).mono ?_); rintro e wz ⟨rfl, hz⟩; subst hz)
            | (go_at_call 15; (with_reducible refine (pwrite_nil _ _ _ _ _ _).mono ?_); rintro e wz ⟨rfl, hz⟩; subst hz)
            | (go_at_call 17; (with_reducible refine (ppin_nil _).mono ?_); rintro e wz ⟨rfl, hz⟩; subst hz)
            | (go_at_call 18; (with_reducible refine (punpin_nil _).mono ?_); rintro e wz ⟨rfl, hz⟩; subst hz)
            | (go_at_call 11; (with_reducible refine pflush_nil.mono ?_); rintro e wz ⟨rfl, hz⟩; subst hz)
            | (go_at_call 12; (with_reducible refine pdirty_nil.mono ?_); rintro e wz ⟨rfl, hz⟩; subst hz)
            | (go_at_call 9; (with_reducible refine plen_nil.mono ?_); rintro e wz ⟨rfl, hz⟩; subst hz))
          go_ret
          exact Ret.mk (HX1.out.trans HX4.out) rfl
end
end Go.Proofs.YtnkcneccolbbdaaGreatDoor
namespace Go.Proofs.YtnkcneccolbbdaaGreatDoor
open Go.RowKit

section
variable {w : World}
set_option maxRecDepth 20000 in
set_option maxHeartbeats 12800000 in
theorem errs_2 (at_ pg fr ix off : Int) (A : Option Addr) (l : List UInt8) (n cc : Nat) (hT : Tab w) (hrd : Rd w A l) (hln : l.length = n) (hn : n ≤ 140737488355328) (hpg : pg < 9223372036854775808) (hpg0 : -9223372036854775808 ≤ pg) (ho1 : -9223372036854775808 ≤ off) (ho2 : off < 9223372036854775808) (hr : 0 ≤ at_ ∧ pg < 1) :
    Calls Tryz.prog 4 #[.int .i64 at_, .int .i64 pg, .int .i64 fr, .int .i64 ix, .int .i64 off, .slice A n cc] w (Ret w (Is (.bool true))) := by
  have KA := hide (pawake_any w hT)
  have HT := hide hT
  have HRD := hide hrd
  have HLN := hide hln
  have HN := hide hn
  have HR := hide hr
  have HPG := hide hpg
  have HOFF := hide (And.intro ho1 ho2)
  have KF : Hid (∀ W, Ext w W → Calls Tryz.prog 6 #[.int .i64 3, .int .i64 2] W (fun e w' => ∃ b g q p, e = .returned (.pointer (some ⟨b, 0, none⟩)) ∧ Hid (W.heap.size ≤ b) ∧ Hid (Wd W w' b g q p (fS 3 2)))) := hide (fun W hW => wd_fresh (n := 3) (f := 2) (by decide) (by decide) ⟨by decide, by decide⟩ (HT.out.ext hW))
  have hft : (fS 3 2).Fit 10 := fresh_fit (by decide) (by decide) ⟨by decide, by decide⟩
  have HFT := hide hft
  have hp1 := page_new (S := fS 3 2) (i := 1) ⟨rfl, rfl⟩ hft (by decide) rfl (by decide)
  have HDL : Hid ((fS 3 2).D.dur.length = 44) := hide dk2_len
  obtain ⟨s1, HS1⟩ : ∃ s1, Hid (({ fS 3 2 with P := askP (bringP (fS 3 2).P 1 ((fS 3 2).D.at ((fS 3 2).P.at_ + 1))) 1 (frameB ((fS 3 2).D.at ((fS 3 2).P.at_ + 1))) } : St) = s1) := ⟨_, hide rfl⟩
  rw [HS1.out] at hp1
  rw [show ((1 : Nat) : Int) = 1 from rfl] at hp1
  have HP1 := hide hp1
  clear HS1
  obtain ⟨s0, HS0⟩ : ∃ s0, Hid (fS 3 2 = s0) := ⟨_, hide rfl⟩
  rw [HS0.out] at KF HFT HDL HP1
  obtain ⟨xi, HXI⟩ : ∃ xi : Int, Hid (44 - pg = xi) := ⟨_, hide rfl⟩
  obtain ⟨yi, HYI⟩ : ∃ yi : Int, Hid (504 - off = yi) := ⟨_, hide rfl⟩
  clear hT hrd hln hn hr hpg ho1 ho2 hft hp1 HS0
  go_enter Tryz.func4, Tryz.ntmps4
  go_upto_region 6 with (first
    | (go_at_call 5; (with_reducible refine KA.out.mono ?_); rintro e w1 ⟨rfl, hx1⟩; have HX1 := hide hx1; clear hx1)
    | (go_at_call 6; (with_reducible refine (KF.out w1 HX1.out).mono ?_); rintro e w2 ⟨b, g, q, p, rfl, HB, HW2⟩))
  clear KA KF
  have HT1 : Hid (Tab w1) := hide (HT.out.ext HX1.out)
  have HRD1 : Hid (Rd w1 A l) := hide (HRD.out.ext HX1.out)
  have d0 := HW2.out.c0
  have d1 := HW2.out.c1
  have KN : Hid (∀ W, Ext w2 W → Calls Tryz.prog 14 #[.pointer (some ⟨g, 0, none⟩), .pointer (some ⟨q, 0, none⟩), .int .i64 at_, .int .i64 pg, .int .i64 fr] W (fun e w' => e = .returned (.tuple #[.pointer none, .int .i64 1]) ∧ Ext W w')) := hide (fun W hW => by
    refine (wd_new_arg (HW2.out.ext_ hW) (by rw [HDL.out]; decide) at_ pg fr HPG.out (by rw [HDL.out]; have := HR.out; omega)).mono fun e w' hh => ?_
    obtain ⟨he, hw⟩ := hh
    subst hw
    exact ⟨he, Ext.refl _⟩)
  go_region_law (go_simp; go_at_call 14; (with_reducible refine (KN.out _ (Ext.drew _)).mono ?_); rintro e w3 ⟨rfl, hx3⟩; have HX3 : Hid (Ext w2 w3) := hide ((Ext.drew _).trans hx3); clear hx3)
  all_goals
    have HW3 : Hid (Wd w1 w3 b g q p s0) := hide (HW2.out.ext_ HX3.out)
    clear d0 d1 KN
    have d0 := HW3.out.c0
    have d1 := HW3.out.c1
    have d2 := HW3.out.c2
    have hr := HR.out
    have r1 : 0 ≤ at_ := hr.1
    have r2 : ¬ 1 ≤ pg := by omega
    have hxw := HXI
    clear hr
    go_upto_region 12 with (first
      | (go_at_call 14; (with_reducible refine (pnew_nil1 _ _ _ _).mono ?_); rintro e wz ⟨rfl, hz⟩; subst hz)
      | (go_at_call 14; (with_reducible refine (pnew_nil2 _ _ _ _).mono ?_); rintro e wz ⟨rfl, hz⟩; subst hz))
    clear d0 d1 hxw r1 r2
    by_cases o1 : off < 0
    · have KB := hide (fun (W : World) => wd_write_arg (w := W) (p := p) 1 off A n cc HN.out 480 (.inl o1))
      go_wp2_with (first
          | (go_at_call 15; (with_reducible refine (KB.out w3).mono ?_); rintro e wz ⟨rfl, hz⟩; subst hz)
          | (go_at_call 16; (with_reducible refine (pread_nil _).mono ?_); rintro e wz ⟨rfl, hz⟩; subst hz)
          | (go_at_call 15; (with_reducible refine (pwrite_nil _ _ _ _ _ _).mono ?_); rintro e wz ⟨rfl, hz⟩; subst hz)
          | (go_at_call 17; (with_reducible refine (ppin_nil _).mono ?_); rintro e wz ⟨rfl, hz⟩; subst hz)
          | (go_at_call 18; (with_reducible refine (punpin_nil _).mono ?_); rintro e wz ⟨rfl, hz⟩; subst hz)
          | (go_at_call 11; (with_reducible refine pflush_nil.mono ?_); rintro e wz ⟨rfl, hz⟩; subst hz)
          | (go_at_call 12; (with_reducible refine pdirty_nil.mono ?_); rintro e wz ⟨rfl, hz⟩; subst hz)
          | (go_at_call 9; (with_reducible refine plen_nil.mono ?_); rintro e wz ⟨rfl, hz⟩; subst hz))
      go_ret
      exact Ret.mk (HX1.out.trans HW3.out.ext) rfl
    · by_cases o2 : 504 < off
      · have KB := hide (fun (W : World) => wd_write_arg (w := W) (p := p) 1 off A n cc HN.out 480 (.inr (by omega)))
        go_wp2_with (first
            | (go_at_call 15; (with_reducible refine (KB.out w3).mono ?_); rintro e wz ⟨rfl, hz⟩; subst hz)
            | (go_at_call 16; (with_reducible refine (pread_nil _).mono ?_); rintro e wz ⟨rfl, hz⟩; subst hz)
            | (go_at_call 15; (with_reducible refine (pwrite_nil _ _ _ _ _ _).mono ?_); rintro e wz ⟨rfl, hz⟩; subst hz)
            | (go_at_call 17; (with_reducible refine (ppin_nil _).mono ?_); rintro e wz ⟨rfl, hz⟩; subst hz)
            | (go_at_call 18; (with_reducible refine (punpin_nil _).mono ?_); rintro e wz ⟨rfl, hz⟩; subst hz)
            | (go_at_call 11; (with_reducible refine pflush_nil.mono ?_); rintro e wz ⟨rfl, hz⟩; subst hz)
            | (go_at_call 12; (with_reducible refine pdirty_nil.mono ?_); rintro e wz ⟨rfl, hz⟩; subst hz)
            | (go_at_call 9; (with_reducible refine plen_nil.mono ?_); rintro e wz ⟨rfl, hz⟩; subst hz))
        go_ret
        exact Ret.mk (HX1.out.trans HW3.out.ext) rfl
      · have hyw : IntKind.i64.wrap (504 - off) = yi := by rw [IntKind.wrap_i64]; have := HYI.out; omega
        obtain ⟨nn, HNN⟩ : ∃ nn : Int, Hid ((n : Int) = nn) := ⟨_, hide rfl⟩
        by_cases o3 : yi < (n : Int)
        · have KB := hide (fun (W : World) => wd_write_arg (w := W) (p := p) 1 off A n cc HN.out 480 (.inr (by have := HYI.out; omega)))
          go_wp2_with (first
              | (go_at_call 15; (with_reducible refine (KB.out w3).mono ?_); rintro e wz ⟨rfl, hz⟩; subst hz)
              | (go_at_call 16; (with_reducible refine (pread_nil _).mono ?_); rintro e wz ⟨rfl, hz⟩; subst hz)
              | (go_at_call 15; (with_reducible refine (pwrite_nil _ _ _ _ _ _).mono ?_); rintro e wz ⟨rfl, hz⟩; subst hz)
              | (go_at_call 17; (with_reducible refine (ppin_nil _).mono ?_); rintro e wz ⟨rfl, hz⟩; subst hz)
              | (go_at_call 18; (with_reducible refine (punpin_nil _).mono ?_); rintro e wz ⟨rfl, hz⟩; subst hz)
              | (go_at_call 11; (with_reducible refine pflush_nil.mono ?_); rintro e wz ⟨rfl, hz⟩; subst hz)
              | (go_at_call 12; (with_reducible refine pdirty_nil.mono ?_); rintro e wz ⟨rfl, hz⟩; subst hz)
              | (go_at_call 9; (with_reducible refine plen_nil.mono ?_); rintro e wz ⟨rfl, hz⟩; subst hz))
          go_ret
          exact Ret.mk (HX1.out.trans HW3.out.ext) rfl
        · obtain ⟨o, HO⟩ : ∃ o : Nat, Hid ((o : Int) = off) := ⟨off.toNat, hide (by omega)⟩
          have KW : Hid (Calls Tryz.prog 15 #[.pointer (some ⟨p, 0, none⟩), .int .i64 1, .int .i64 off, .slice A n cc, .int .u64 480] w3 (fun e w' => e = .returned (.int .i64 0) ∧ Ext w1 w')) := hide (by
            have k1 := wd_write_out HW3.out HFT.out (by decide) HT1.out 1 s1 HP1.out o A l n cc HRD1.out HLN.out (by have h1 := HO.out; have h2 := HYI.out; omega) 480
            rw [HO.out] at k1
            refine k1.mono fun e w' hh => ?_
            obtain ⟨f, -, he, hw⟩ := hh
            exact ⟨he, hw.ext⟩)
          go_wp2_with (first
            | (go_at_call 15; (with_reducible refine KW.out.mono ?_); rintro e w4 ⟨rfl, hx4⟩; have HX4 := hide hx4; clear hx4)
            | (go_at_call 16; (with_reducible refine (pread_nil _).mono ?_); rintro e wz ⟨rfl, hz⟩; subst hz)
            | (go_at_call 15; (with_reducible refine (pwrite_nil _ _ _ _ _ _).mono ?_); rintro e wz ⟨rfl, hz⟩; subst hz)
            | (go_at_call 17; (with_reducible refine (ppin_nil _).mono ?_); rintro e wz ⟨rfl, hz⟩; subst hz)
            | (go_at_call 18; (with_reducible refine (punpin_nil _).mono ?_); rintro e wz ⟨rfl, hz⟩; subst hz)
            | (go_at_call 11; (with_reducible refine pflush_nil.mono ?_); rintro e wz ⟨rfl, hz⟩; subst hz)
            | (go_at_call 12; (with_reducible refine pdirty_nil.mono ?_); rintro e wz ⟨rfl, hz⟩; subst hz)
            | (go_at_call 9; (with_reducible refine plen_nil.mono ?_); rintro e wz ⟨rfl, hz⟩; subst hz))
          go_ret
          exact Ret.mk (HX1.out.trans HX4.out) rfl
end
end Go.Proofs.YtnkcneccolbbdaaGreatDoor
namespace Go.Proofs.YtnkcneccolbbdaaGreatDoor
open Go.RowKit

section
variable {w : World}
set_option maxRecDepth 20000 in
set_option maxHeartbeats 12800000 in
theorem errs_3 (at_ pg fr ix off : Int) (A : Option Addr) (l : List UInt8) (n cc : Nat) (hT : Tab w) (hrd : Rd w A l) (hln : l.length = n) (hn : n ≤ 140737488355328) (hpg : pg < 9223372036854775808) (hpg0 : -9223372036854775808 ≤ pg) (ho1 : -9223372036854775808 ≤ off) (ho2 : off < 9223372036854775808) (hr : 0 ≤ at_ ∧ 4096 < pg) :
    Calls Tryz.prog 4 #[.int .i64 at_, .int .i64 pg, .int .i64 fr, .int .i64 ix, .int .i64 off, .slice A n cc] w (Ret w (Is (.bool true))) := by
  have KA := hide (pawake_any w hT)
  have HT := hide hT
  have HRD := hide hrd
  have HLN := hide hln
  have HN := hide hn
  have HR := hide hr
  have HPG := hide hpg
  have HOFF := hide (And.intro ho1 ho2)
  have KF : Hid (∀ W, Ext w W → Calls Tryz.prog 6 #[.int .i64 3, .int .i64 2] W (fun e w' => ∃ b g q p, e = .returned (.pointer (some ⟨b, 0, none⟩)) ∧ Hid (W.heap.size ≤ b) ∧ Hid (Wd W w' b g q p (fS 3 2)))) := hide (fun W hW => wd_fresh (n := 3) (f := 2) (by decide) (by decide) ⟨by decide, by decide⟩ (HT.out.ext hW))
  have hft : (fS 3 2).Fit 10 := fresh_fit (by decide) (by decide) ⟨by decide, by decide⟩
  have HFT := hide hft
  have hp1 := page_new (S := fS 3 2) (i := 1) ⟨rfl, rfl⟩ hft (by decide) rfl (by decide)
  have HDL : Hid ((fS 3 2).D.dur.length = 44) := hide dk2_len
  obtain ⟨s1, HS1⟩ : ∃ s1, Hid (({ fS 3 2 with P := askP (bringP (fS 3 2).P 1 ((fS 3 2).D.at ((fS 3 2).P.at_ + 1))) 1 (frameB ((fS 3 2).D.at ((fS 3 2).P.at_ + 1))) } : St) = s1) := ⟨_, hide rfl⟩
  rw [HS1.out] at hp1
  rw [show ((1 : Nat) : Int) = 1 from rfl] at hp1
  have HP1 := hide hp1
  clear HS1
  obtain ⟨s0, HS0⟩ : ∃ s0, Hid (fS 3 2 = s0) := ⟨_, hide rfl⟩
  rw [HS0.out] at KF HFT HDL HP1
  obtain ⟨xi, HXI⟩ : ∃ xi : Int, Hid (44 - pg = xi) := ⟨_, hide rfl⟩
  obtain ⟨yi, HYI⟩ : ∃ yi : Int, Hid (504 - off = yi) := ⟨_, hide rfl⟩
  clear hT hrd hln hn hr hpg ho1 ho2 hft hp1 HS0
  go_enter Tryz.func4, Tryz.ntmps4
  go_upto_region 6 with (first
    | (go_at_call 5; (with_reducible refine KA.out.mono ?_); rintro e w1 ⟨rfl, hx1⟩; have HX1 := hide hx1; clear hx1)
    | (go_at_call 6; (with_reducible refine (KF.out w1 HX1.out).mono ?_); rintro e w2 ⟨b, g, q, p, rfl, HB, HW2⟩))
  clear KA KF
  have HT1 : Hid (Tab w1) := hide (HT.out.ext HX1.out)
  have HRD1 : Hid (Rd w1 A l) := hide (HRD.out.ext HX1.out)
  have d0 := HW2.out.c0
  have d1 := HW2.out.c1
  have KN : Hid (∀ W, Ext w2 W → Calls Tryz.prog 14 #[.pointer (some ⟨g, 0, none⟩), .pointer (some ⟨q, 0, none⟩), .int .i64 at_, .int .i64 pg, .int .i64 fr] W (fun e w' => e = .returned (.tuple #[.pointer none, .int .i64 1]) ∧ Ext W w')) := hide (fun W hW => by
    refine (wd_new_arg (HW2.out.ext_ hW) (by rw [HDL.out]; decide) at_ pg fr HPG.out (by rw [HDL.out]; have := HR.out; omega)).mono fun e w' hh => ?_
    obtain ⟨he, hw⟩ := hh
    subst hw
    exact ⟨he, Ext.refl _⟩)
  go_region_law (go_simp; go_at_call 14; (with_reducible refine (KN.out _ (Ext.drew _)).mono ?_); rintro e w3 ⟨rfl, hx3⟩; have HX3 : Hid (Ext w2 w3) := hide ((Ext.drew _).trans hx3); clear hx3)
  all_goals
    have HW3 : Hid (Wd w1 w3 b g q p s0) := hide (HW2.out.ext_ HX3.out)
    clear d0 d1 KN
    have d0 := HW3.out.c0
    have d1 := HW3.out.c1
    have d2 := HW3.out.c2
    have hr := HR.out
    have r1 : 0 ≤ at_ := hr.1
    have r2 : 1 ≤ pg := by omega
    have r3 : ¬ pg ≤ 4096 := by omega
    have hxw := HXI
    clear hr
    go_upto_region 12 with (first
      | (go_at_call 14; (with_reducible refine (pnew_nil1 _ _ _ _).mono ?_); rintro e wz ⟨rfl, hz⟩; subst hz)
      | (go_at_call 14; (with_reducible refine (pnew_nil2 _ _ _ _).mono ?_); rintro e wz ⟨rfl, hz⟩; subst hz))
    clear d0 d1 hxw r1 r2 r3
    by_cases o1 : off < 0
    · have KB := hide (fun (W : World) => wd_write_arg (w := W) (p := p) 1 off A n cc HN.out 480 (.inl o1))
      go_wp2_with (first
          | (go_at_call 15; (with_reducible refine (KB.out w3).mono ?_); rintro e wz ⟨rfl, hz⟩; subst hz)
          | (go_at_call 16; (with_reducible refine (pread_nil _).mono ?_); rintro e wz ⟨rfl, hz⟩; subst hz)
          | (go_at_call 15; (with_reducible refine (pwrite_nil _ _ _ _ _ _).mono ?_); rintro e wz ⟨rfl, hz⟩; subst hz)
          | (go_at_call 17; (with_reducible refine (ppin_nil _).mono ?_); rintro e wz ⟨rfl, hz⟩; subst hz)
          | (go_at_call 18; (with_reducible refine (punpin_nil _).mono ?_); rintro e wz ⟨rfl, hz⟩; subst hz)
          | (go_at_call 11; (with_reducible refine pflush_nil.mono ?_); rintro e wz ⟨rfl, hz⟩; subst hz)
          | (go_at_call 12; (with_reducible refine pdirty_nil.mono ?_); rintro e wz ⟨rfl, hz⟩; subst hz)
          | (go_at_call 9; (with_reducible refine plen_nil.mono ?_); rintro e wz ⟨rfl, hz⟩; subst hz))
      go_ret
      exact Ret.mk (HX1.out.trans HW3.out.ext) rfl
    · by_cases o2 : 504 < off
      · have KB := hide (fun (W : World) => wd_write_arg (w := W) (p := p) 1 off A n cc HN.out 480 (.inr (by omega)))
        go_wp2_with (first
            | (go_at_call 15; (with_reducible refine (KB.out w3).mono ?_); rintro e wz ⟨rfl, hz⟩; subst hz)
            | (go_at_call 16; (with_reducible refine (pread_nil _).mono ?_); rintro e wz ⟨rfl, hz⟩; subst hz)
            | (go_at_call 15; (with_reducible refine (pwrite_nil _ _ _ _ _ _).mono ?_); rintro e wz ⟨rfl, hz⟩; subst hz)
            | (go_at_call 17; (with_reducible refine (ppin_nil _).mono ?_); rintro e wz ⟨rfl, hz⟩; subst hz)
            | (go_at_call 18; (with_reducible refine (punpin_nil _).mono ?_); rintro e wz ⟨rfl, hz⟩; subst hz)
            | (go_at_call 11; (with_reducible refine pflush_nil.mono ?_); rintro e wz ⟨rfl, hz⟩; subst hz)
            | (go_at_call 12; (with_reducible refine pdirty_nil.mono ?_); rintro e wz ⟨rfl, hz⟩; subst hz)
            | (go_at_call 9; (with_reducible refine plen_nil.mono ?_); rintro e wz ⟨rfl, hz⟩; subst hz))
        go_ret
        exact Ret.mk (HX1.out.trans HW3.out.ext) rfl
      · have hyw : IntKind.i64.wrap (504 - off) = yi := by rw [IntKind.wrap_i64]; have := HYI.out; omega
        obtain ⟨nn, HNN⟩ : ∃ nn : Int, Hid ((n : Int) = nn) := ⟨_, hide rfl⟩
        by_cases o3 : yi < (n : Int)
        · have KB := hide (fun (W : World) => wd_write_arg (w := W) (p := p) 1 off A n cc HN.out 480 (.inr (by have := HYI.out; omega)))
          go_wp2_with (first
              | (go_at_call 15; (with_reducible refine (KB.out w3).mono ?_); rintro e wz ⟨rfl, hz⟩; subst hz)
              | (go_at_call 16; (with_reducible refine (pread_nil _).mono ?_); rintro e wz ⟨rfl, hz⟩; subst hz)
              | (go_at_call 15; (with_reducible refine (pwrite_nil _ _ _ _ _ _).mono ?_); rintro e wz ⟨rfl, hz⟩; subst hz)
              | (go_at_call 17; (with_reducible refine (ppin_nil _).mono ?_); rintro e wz ⟨rfl, hz⟩; subst hz)
              | (go_at_call 18; (with_reducible refine (punpin_nil _).mono ?_); rintro e wz ⟨rfl, hz⟩; subst hz)
              | (go_at_call 11; (with_reducible refine pflush_nil.mono ?_); rintro e wz ⟨rfl, hz⟩; subst hz)
              | (go_at_call 12; (with_reducible refine pdirty_nil.mono ?_); rintro e wz ⟨rfl, hz⟩; subst hz)
              | (go_at_call 9; (with_reducible refine plen_nil.mono ?_); rintro e wz ⟨rfl, hz⟩; subst hz))
          go_ret
          exact Ret.mk (HX1.out.trans HW3.out.ext) rfl
        · obtain ⟨o, HO⟩ : ∃ o : Nat, Hid ((o : Int) = off) := ⟨off.toNat, hide (by omega)⟩
          have KW : Hid (Calls Tryz.prog 15 #[.pointer (some ⟨p, 0, none⟩), .int .i64 1, .int .i64 off, .slice A n cc, .int .u64 480] w3 (fun e w' => e = .returned (.int .i64 0) ∧ Ext w1 w')) := hide (by
            have k1 := wd_write_out HW3.out HFT.out (by decide) HT1.out 1 s1 HP1.out o A l n cc HRD1.out HLN.out (by have h1 := HO.out; have h2 := HYI.out; omega) 480
            rw [HO.out] at k1
            refine k1.mono fun e w' hh => ?_
            obtain ⟨f, -, he, hw⟩ := hh
            exact ⟨he, hw.ext⟩)
          go_wp2_with (first
            | (go_at_call 15; (with_reducible refine KW.out.mono ?_); rintro e w4 ⟨rfl, hx4⟩; have HX4 := hide hx4; clear hx4)
            | (go_at_call 16; (with_reducible refine (pread_nil _).mono ?_); rintro e wz ⟨rfl, hz⟩; subst hz)
            | (go_at_call 15; (with_reducible refine (pwrite_nil _ _ _ _ _ _).mono ?_); rintro e wz ⟨rfl, hz⟩; subst hz)
            | (go_at_call 17; (with_reducible refine (ppin_nil _).mono ?_); rintro e wz ⟨rfl, hz⟩; subst hz)
            | (go_at_call 18; (with_reducible refine (punpin_nil _).mono ?_); rintro e wz ⟨rfl, hz⟩; subst hz)
            | (go_at_call 11; (with_reducible refine pflush_nil.mono ?_); rintro e wz ⟨rfl, hz⟩; subst hz)
            | (go_at_call 12; (with_reducible refine pdirty_nil.mono ?_); rintro e wz ⟨rfl, hz⟩; subst hz)
            | (go_at_call 9; (with_reducible refine plen_nil.mono ?_); rintro e wz ⟨rfl, hz⟩; subst hz))
          go_ret
          exact Ret.mk (HX1.out.trans HX4.out) rfl
end
end Go.Proofs.YtnkcneccolbbdaaGreatDoor
