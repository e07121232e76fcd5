/-
  Lines: their words, requests, what is written: plain functions over lists of bytes. No program is spoken of.
-/
import Derived.Test.YtmanflfanoddgabDoorNamP
namespace Go.Proofs.YtmanflfanoddgabDoor
open Go.Lib

/-- May a character stand in a line? -/
def okP (r n : Nat) : Bool := !(decide (r = 65533 ∧ n < 2) || decide (r < 32) || decide (r = 127))
/-- How far a reader is: 0 between words, 1 in a word, 2 in quotes, 3 behind a backslash, 4 behind the quote at the end; the word; the words ahead of it. -/
structure Rdr where
  q : Nat
  w : List UInt8
  o : List (List UInt8)
/-- One character more: what it is, may it stand, its bytes. -/
def stepM (ok : Bool) (r : Nat) (h : List UInt8) (x : Rdr) : Option Rdr :=
  if x.q = 0 then (if r = 32 then some x else if ok = false ∨ r = 92 then none else if r = 34 then some ⟨2, x.w, x.o⟩ else some ⟨1, x.w ++ h, x.o⟩)
  else if x.q = 1 then (if r = 32 then some ⟨0, [], x.o ++ [x.w]⟩ else if ok = false ∨ r = 34 ∨ r = 92 then none else some ⟨1, x.w ++ h, x.o⟩)
  else if x.q = 2 then (if ok = false then none else if r = 92 then some ⟨3, x.w, x.o⟩ else if r = 34 then some ⟨4, x.w, x.o⟩ else some ⟨2, x.w ++ h, x.o⟩)
  else if x.q = 3 then (if r = 34 ∨ r = 92 then some ⟨2, x.w ++ h, x.o⟩ else none)
  else (if r = 32 then some ⟨0, [], x.o ++ [x.w]⟩ else none)
/-- The end: how many bytes are left at the fault; or the words. -/
def finM (x : Rdr) : Sum Nat (List (List UInt8)) := if x.q = 2 ∨ x.q = 3 then .inl 0 else if x.q = 0 then .inr x.o else .inr (x.o ++ [x.w])
def mF : Nat → List UInt8 → Rdr → Sum Nat (List (List UInt8))
  | 0, _, x => finM x
  | f + 1, l, x => if l = [] then finM x else match stepM (okP (decodeL l).1 (decodeL l).2) (decodeL l).1 (l.take (decodeL l).2) x with
    | none => .inl l.length
    | some y => mF f (l.drop (decodeL l).2) y
/-- A reader over a text. -/
def mR (l : List UInt8) (x : Rdr) : Sum Nat (List (List UInt8)) := mF l.length l x
theorem mF_fuel : ∀ (n k : Nat) (l : List UInt8) (x : Rdr), l.length ≤ n → l.length ≤ k → mF n l x = mF k l x
  | 0, k, l, x, hn, _ => by
    have : l = [] := List.eq_nil_of_length_eq_zero (by omega)
    subst this
    cases k <;> simp [mF]
  | n + 1, 0, l, x, _, hk => by
    have : l = [] := List.eq_nil_of_length_eq_zero (by omega)
    subst this
    simp [mF]
  | n + 1, k + 1, l, x, hn, hk => by
    unfold mF
    by_cases hne : l = []
    · simp [hne]
    · have hw := decodeL_width l
      have hl : 0 < l.length := List.length_pos_iff.2 hne
      rw [if_neg hne, if_neg hne]
      cases stepM (okP (decodeL l).1 (decodeL l).2) (decodeL l).1 (l.take (decodeL l).2) x with
      | none => rfl
      | some y => exact mF_fuel n k _ _ (by rw [List.length_drop]; omega) (by rw [List.length_drop]; omega)
theorem mR_nil (x : Rdr) : mR [] x = finM x := rfl
theorem mR_step (l : List UInt8) (hne : l ≠ []) (x : Rdr) : mR l x = match stepM (okP (decodeL l).1 (decodeL l).2) (decodeL l).1 (l.take (decodeL l).2) x with
    | none => .inl l.length
    | some y => mR (l.drop (decodeL l).2) y := by
  have hl : 0 < l.length := List.length_pos_iff.2 hne
  have hw := decodeL_width l
  obtain ⟨n, hn⟩ : ∃ n, l.length = n + 1 := ⟨l.length - 1, by omega⟩
  have e : mR l x = mF (n + 1) l x := by unfold mR; rw [hn]
  rw [e]
  unfold mF
  rw [if_neg hne]
  cases stepM (okP (decodeL l).1 (decodeL l).2) (decodeL l).1 (l.take (decodeL l).2) x with
  | none => rfl
  | some y => exact mF_fuel n _ _ _ (by rw [List.length_drop]; omega) (Nat.le_refl _)
theorem mR_bad {l : List UInt8} {x : Rdr} (hne : l ≠ []) (h : stepM (okP (decodeL l).1 (decodeL l).2) (decodeL l).1 (l.take (decodeL l).2) x = none) : mR l x = .inl l.length := by
  rw [mR_step l hne, h]
theorem mR_on {l : List UInt8} {x y : Rdr} (hne : l ≠ []) (h : stepM (okP (decodeL l).1 (decodeL l).2) (decodeL l).1 (l.take (decodeL l).2) x = some y) : mR l x = mR (l.drop (decodeL l).2) y := by
  rw [mR_step l hne, h]
/-- A character below 128 is read by itself. -/
theorem mR_asc (b : UInt8) (t : List UInt8) (hb : b.toNat < 128) (x : Rdr) : mR (b :: t) x = match stepM (okP b.toNat 1) b.toNat [b] x with
    | none => .inl (t.length + 1)
    | some y => mR t y := by
  rw [mR_step _ (by simp), decodeL_ascii b t hb]
  rfl

/-! ### words that stand ahead -/
def Rdr.pre (A : List (List UInt8)) (x : Rdr) : Rdr := ⟨x.q, x.w, A ++ x.o⟩
def preR (A : List (List UInt8)) : Sum Nat (List (List UInt8)) → Sum Nat (List (List UInt8))
  | .inl k => .inl k
  | .inr W => .inr (A ++ W)
theorem stepM_pre (A : List (List UInt8)) (ok : Bool) (r : Nat) (h : List UInt8) (x : Rdr) : stepM ok r h (x.pre A) = (stepM ok r h x).map (Rdr.pre A) := by
  unfold stepM Rdr.pre
  simp only
  repeat' split
  all_goals simp [Rdr.pre]
theorem finM_pre (A : List (List UInt8)) (x : Rdr) : finM (x.pre A) = preR A (finM x) := by
  unfold finM Rdr.pre
  simp only
  repeat' split
  all_goals simp [preR]
theorem mR_pre (A : List (List UInt8)) (l : List UInt8) (x : Rdr) : mR l (x.pre A) = preR A (mR l x) := by
  induction l using chs_ind generalizing x with
  | h0 => exact finM_pre A x
  | h1 l hne ih =>
    rw [mR_step l hne, mR_step l hne, stepM_pre]
    cases stepM (okP (decodeL l).1 (decodeL l).2) (decodeL l).1 (l.take (decodeL l).2) x with
    | none => rfl
    | some y => exact ih y

/-! ### what comes behind -/
theorem okP_vch {l : List UInt8} (h : okP (decodeL l).1 (decodeL l).2 = true) : vch l := fun hv => by
  unfold okP at h
  rw [hv.1, hv.2] at h
  exact absurd h (by decide)
/-- Whoever goes on reads a character that is one. -/
theorem stepM_vch {l : List UInt8} {x y : Rdr} (h : stepM (okP (decodeL l).1 (decodeL l).2) (decodeL l).1 (l.take (decodeL l).2) x = some y) : vch l := by
  by_cases hv : vch l
  · exact hv
  · exfalso
    have hv' : (decodeL l).1 = 65533 ∧ (decodeL l).2 = 1 := Classical.not_not.1 hv
    rw [hv'.1, hv'.2] at h
    unfold stepM okP at h
    simp at h
/-- Between words no word has begun. -/
def Rdr.fit (x : Rdr) : Prop := x.q = 0 → x.w = []
theorem stepM_fit {ok : Bool} {r : Nat} {h : List UInt8} {x y : Rdr} (hx : x.fit) (e : stepM ok r h x = some y) : y.fit := by
  unfold stepM at e
  repeat' split at e
  all_goals (first | contradiction | (injection e with e; subst e; first | exact hx | (intro hq; first | rfl | (simp at hq))))
theorem step_app {l : List UInt8} (hne : l ≠ []) (b : List UInt8) (hv : vch l) : decodeL (l ++ b) = decodeL l ∧ (l ++ b).take (decodeL l).2 = l.take (decodeL l).2 ∧ (l ++ b).drop (decodeL l).2 = l.drop (decodeL l).2 ++ b := by
  have hle := decodeL_le l hne
  have ht : (l ++ b).take (decodeL l).2 = l.take (decodeL l).2 := List.take_append_of_le_length hle
  exact ⟨decode_pre l (l ++ b) hne hv ht, ht, List.drop_append_of_le_length hle⟩
/-- Read whole, and a blank behind it. -/
theorem mR_join {a : List UInt8} {x : Rdr} {W : List (List UInt8)} (hx : x.fit) (h : mR a x = .inr W) (b : List UInt8) : mR (a ++ 32 :: b) x = mR b ⟨0, [], W⟩ := by
  induction a using chs_ind generalizing x with
  | h0 =>
    rw [mR_nil] at h
    rw [List.nil_append, mR_asc 32 b (by decide)]
    obtain ⟨q, w, o⟩ := x
    unfold finM at h
    unfold stepM
    simp only at h ⊢
    repeat' split at h
    · contradiction
    all_goals (injection h with h; subst h)
    · rename_i h1 h2
      subst h2
      have : w = [] := hx rfl
      subst this
      rfl
    · rename_i h1 h2
      have e1 : q ≠ 2 := fun e => h1 (.inl e)
      have e2 : q ≠ 3 := fun e => h1 (.inr e)
      simp [e1, e2, h2]
  | h1 l hne ih =>
    rw [mR_step l hne] at h
    cases hs : stepM (okP (decodeL l).1 (decodeL l).2) (decodeL l).1 (l.take (decodeL l).2) x with
    | none => rw [hs] at h; cases h
    | some y =>
      rw [hs] at h
      obtain ⟨e1, e2, e3⟩ := step_app hne (32 :: b) (stepM_vch hs)
      rw [mR_step (l ++ 32 :: b) (by simp [hne]), e1, e2, e3, hs]
      exact ih (stepM_fit hx hs) h
theorem mR_blank {a : List UInt8} {x : Rdr} {W : List (List UInt8)} (hx : x.fit) (h : mR a x = .inr W) : mR (a ++ [32]) x = .inr W := mR_join hx h []
/-- A byte that is no part of a longer character makes none of what is none. -/
theorem bad_app {l : List UInt8} (hne : l ≠ []) (hv : ¬ vch l) : decodeL (l ++ [32]) = (65533, 1) := by
  have hv' : (decodeL l).1 = 65533 ∧ (decodeL l).2 = 1 := Classical.not_not.1 hv
  have hb : decodeL l = (65533, 1) := Prod.ext hv'.1 hv'.2
  have hg : ∀ i, (l ++ [32]).getD i 0 = l.getD i 0 ∨ (((l ++ [32]).getD i 0 = 32 ∧ l.getD i 0 = 0) ∧ l.length ≤ i) := fun i => by
    simp only [List.getD_eq_getElem?_getD]
    rcases Nat.lt_or_ge i l.length with h | h
    · left; rw [List.getElem?_append_left h]
    · rw [List.getElem?_append_right h, List.getElem?_eq_none h]
      rcases Nat.eq_or_lt_of_le h with h2 | h2
      · right; rw [← h2]; simp
      · left; rw [List.getElem?_eq_none (by simp; omega)]
  have h0 : (l ++ [32]).getD 0 0 = l.getD 0 0 := by
    rcases hg 0 with h | h
    · exact h
    · have : l = [] := List.eq_nil_of_length_eq_zero (by omega)
      exact absurd this hne
  rw [decodeL_N] at hb ⊢
  rw [h0, List.length_append]
  generalize (l.getD 0 0).toNat = b0 at *
  have n1 : ∀ i, ((l ++ [32]).getD i 0).toNat = (l.getD i 0).toNat ∨ (((l ++ [32]).getD i 0).toNat = 32 ∧ l.length ≤ i) := fun i => by
    rcases hg i with h | h
    · left; rw [h]
    · right; rw [h.1.1]; exact ⟨rfl, h.2⟩
  have g1 := n1 1
  have g2 := n1 2
  have g3 := n1 3
  have z : ∀ i, l.length ≤ i → (l.getD i 0).toNat = 0 := fun i h => by rw [List.getD_eq_getElem?_getD, List.getElem?_eq_none h]; rfl
  have z1 := z 1
  have z2 := z 2
  have z3 := z 3
  generalize ((l ++ [32]).getD 1 0).toNat = c1 at *
  generalize ((l ++ [32]).getD 2 0).toNat = c2 at *
  generalize ((l ++ [32]).getD 3 0).toNat = c3 at *
  generalize (l.getD 1 0).toNat = b1 at *
  generalize (l.getD 2 0).toNat = b2 at *
  generalize (l.getD 3 0).toNat = b3 at *
  have hp : 0 < l.length := List.length_pos_iff.2 hne
  clear n1 hg h0 z hv hv'
  rw [show [(32 : UInt8)].length = 1 from rfl]
  generalize l.length = n at *
  have key := decodeN_pre (n + 1) n b0 c1 c2 c3 b1 b2 b3
  rw [hb] at key
  rcases decodeN_shape (n + 1) b0 c1 c2 c3 with ⟨c, e⟩ | ⟨d1, d2, d3, dv, e⟩ | ⟨d1, d2, d3, d4, dv, ds, e⟩ | ⟨d1, d2, d3, d4, d5, dv, dw, e⟩ | e
  · rw [e] at key
    have := congrArg Prod.fst (key (by simp only; omega) (fun h => by simp only at h; omega) (fun h => by simp only at h; omega) (fun h => by simp only at h; omega) (by simp only; omega))
    simp only at this
    omega
  · rw [e] at key
    have := congrArg Prod.snd (key (by simp only; omega) (fun h => by omega) (fun h => by simp only at h; omega) (fun h => by simp only at h; omega) (by simp only; omega))
    simp only at this
    omega
  · rw [e] at key
    have := congrArg Prod.snd (key (by simp only; omega) (fun h => by omega) (fun h => by omega) (fun h => by simp only at h; omega) (by simp only; omega))
    simp only at this
    omega
  · rw [e] at key
    have := congrArg Prod.snd (key (by simp only; omega) (fun h => by omega) (fun h => by omega) (fun h => by omega) (by simp only; omega))
    simp only at this
    omega
  · exact e
/-- Not read whole: with a blank behind it the fault stays where it is, or is at the end. -/
theorem mR_blank_bad {a : List UInt8} {x : Rdr} {k : Nat} (h : mR a x = .inl k) : mR (a ++ [32]) x = .inl (k + 1) ∨ mR (a ++ [32]) x = .inl 0 := by
  induction a using chs_ind generalizing x with
  | h0 =>
    rw [mR_nil] at h
    rw [List.nil_append, mR_asc 32 [] (by decide)]
    obtain ⟨q, w, o⟩ := x
    unfold finM at h
    unfold stepM
    simp only at h ⊢
    split at h
    · rename_i h1
      injection h with h
      subst h
      rcases h1 with rfl | rfl
      · right; rfl
      · left; rfl
    · split at h <;> cases h
  | h1 l hne ih =>
    rw [mR_step l hne] at h
    cases hs : stepM (okP (decodeL l).1 (decodeL l).2) (decodeL l).1 (l.take (decodeL l).2) x with
    | none =>
      rw [hs] at h
      injection h with h
      subst h
      left
      have hne2 : l ++ [32] ≠ [] := by simp
      have : (l ++ [32]).length = l.length + 1 := by simp
      rw [← this]
      apply mR_bad hne2
      by_cases hv : vch l
      · obtain ⟨e1, e2, -⟩ := step_app hne [32] hv
        rw [e1, e2, hs]
      · rw [bad_app hne hv]
        unfold stepM okP
        simp
    | some y =>
      rw [hs] at h
      obtain ⟨e1, e2, e3⟩ := step_app hne [32] (stepM_vch hs)
      rw [mR_step (l ++ [32]) (by simp), e1, e2, e3, hs]
      exact ih h

/-! ### words that can stand -/
def canS (l : List UInt8) : Bool := (chs l 0).all fun c => okP c.r c.n
theorem all_shift (l : List UInt8) (p q : Nat) : ((chs l p).all fun c => okP c.r c.n) = ((chs l q).all fun c => okP c.r c.n) := by
  induction l using chs_ind generalizing p q with
  | h0 => rfl
  | h1 l hne ih => rw [chs_step l p hne, chs_step l q hne, List.all_cons, List.all_cons, ih (p + (decodeL l).2) (q + (decodeL l).2)]
theorem canS_step (l : List UInt8) (hne : l ≠ []) : canS l = (okP (decodeL l).1 (decodeL l).2 && canS (l.drop (decodeL l).2)) := by
  unfold canS
  rw [chs_step l 0 hne, List.all_cons, all_shift _ (0 + (decodeL l).2) 0]
theorem canS_valid {l : List UInt8} (h : canS l = true) : validD l = true := by
  induction l using chs_ind with
  | h0 => rfl
  | h1 l hne ih =>
    rw [canS_step l hne, Bool.and_eq_true] at h
    rw [validD_step l hne, if_neg (okP_vch h.1)]
    exact ih h.2
theorem canS_app (a b : List UInt8) (h : canS a = true) : canS (a ++ b) = canS b := by
  have hv := canS_valid h
  unfold canS at *
  rw [chs_app a b 0 hv, List.all_append, h, Bool.true_and, all_shift b _ 0]
/-- One character by itself. -/
theorem take_self {l : List UInt8} (hne : l ≠ []) (hv : vch l) : decodeL (l.take (decodeL l).2) = decodeL l ∧ l.take (decodeL l).2 ≠ [] := by
  have hw := decodeL_width l
  have hle := decodeL_le l hne
  refine ⟨decode_pre l _ hne hv (by rw [List.take_take, Nat.min_self]), fun e => ?_⟩
  have := congrArg List.length e
  rw [List.length_take, List.length_nil] at this
  omega
theorem canS_take {l : List UInt8} (hne : l ≠ []) (h : okP (decodeL l).1 (decodeL l).2 = true) : canS (l.take (decodeL l).2) = true := by
  obtain ⟨e, hn⟩ := take_self hne (okP_vch h)
  rw [canS_step _ hn, e, h, Bool.true_and, List.drop_of_length_le (by rw [List.length_take]; exact Nat.min_le_left _ _)]
  rfl
theorem okP_marked {r n : Nat} (h : r = 34 ∨ r = 92) : okP r n = true := by
  unfold okP
  rcases h with rfl | rfl <;> simp
def Rdr.can (x : Rdr) : Prop := canS x.w = true ∧ ∀ w ∈ x.o, canS w = true
theorem stepM_can {l : List UInt8} {x y : Rdr} (hne : l ≠ []) (hx : x.can) (e : stepM (okP (decodeL l).1 (decodeL l).2) (decodeL l).1 (l.take (decodeL l).2) x = some y) : y.can := by
  have happ : okP (decodeL l).1 (decodeL l).2 = true → canS (x.w ++ l.take (decodeL l).2) = true := fun h => by
    rw [canS_app _ _ hx.1]
    exact canS_take hne h
  have hsnoc : ∀ w ∈ x.o ++ [x.w], canS w = true := fun w hw => by
    rcases List.mem_append.1 hw with h | h
    · exact hx.2 w h
    · rw [List.mem_singleton.1 h]; exact hx.1
  have hok : ∀ {p : Prop}, ¬ (okP (decodeL l).1 (decodeL l).2 = false ∨ p) → okP (decodeL l).1 (decodeL l).2 = true := fun h => by
    cases hk : okP (decodeL l).1 (decodeL l).2 with
    | true => rfl
    | false => exact absurd (.inl hk) h
  have hok2 : ¬ (okP (decodeL l).1 (decodeL l).2 = false) → okP (decodeL l).1 (decodeL l).2 = true := fun h => by simpa using h
  unfold stepM at e
  repeat' split at e
  all_goals (first | contradiction | (injection e with e; subst e))
  all_goals first
    | exact hx
    | exact ⟨hx.1, hx.2⟩
    | exact ⟨rfl, hsnoc⟩
    | exact ⟨happ (okP_marked (by assumption)), hx.2⟩
    | exact ⟨happ (hok (by assumption)), hx.2⟩
    | exact ⟨happ (hok2 (by assumption)), hx.2⟩
theorem mR_can {l : List UInt8} {x : Rdr} {W : List (List UInt8)} (hx : x.can) (h : mR l x = .inr W) : ∀ w ∈ W, canS w = true := by
  induction l using chs_ind generalizing x with
  | h0 =>
    rw [mR_nil] at h
    unfold finM at h
    repeat' split at h
    · cases h
    · injection h with h; subst h; exact hx.2
    · injection h with h; subst h
      intro w hw
      rcases List.mem_append.1 hw with h | h
      · exact hx.2 w h
      · rw [List.mem_singleton.1 h]; exact hx.1
  | h1 l hne ih =>
    rw [mR_step l hne] at h
    cases hs : stepM (okP (decodeL l).1 (decodeL l).2) (decodeL l).1 (l.take (decodeL l).2) x with
    | none => rw [hs] at h; cases h
    | some y => rw [hs] at h; exact ih (stepM_can hne hx hs) h

/-! ### words as they are written -/
def special (b : UInt8) : Bool := b == 32 || b == 34 || b == 92
def marked (b : UInt8) : Bool := b == 34 || b == 92
def bareB (l : List UInt8) : Bool := !l.isEmpty && !l.any special
def escQ (l : List UInt8) : List UInt8 := l.flatMap fun b => if marked b then [92, b] else [b]
def wordW (l : List UInt8) : List UInt8 := if bareB l then l else 34 :: (escQ l ++ [34])
theorem escQ_append (a b : List UInt8) : escQ (a ++ b) = escQ a ++ escQ b := List.flatMap_append
theorem escQ_length (l : List UInt8) : l.length ≤ (escQ l).length ∧ (escQ l).length ≤ 2 * l.length := by
  induction l with
  | nil => exact ⟨Nat.le_refl _, Nat.le_refl _⟩
  | cons b l ih =>
    have e : escQ (b :: l) = (if marked b then [92, b] else [b]) ++ escQ l := rfl
    rw [e, List.length_append, List.length_cons]
    split <;> simp <;> omega
/-- A character from 128 on has no byte below 128. -/
theorem high_bytes {l : List UInt8} (hne : l ≠ []) (hv : vch l) (h : 128 ≤ (decodeL l).1) : ∀ x ∈ l.take (decodeL l).2, 128 ≤ x.toNat := by
  intro x hx
  have henc := encode_decode l hne hv
  rw [← henc] at hx
  have hle := decodeL_rune l
  generalize (decodeL l).1 = R at *
  unfold encodeRune at hx
  obtain ⟨z, hz, rfl⟩ := List.mem_map.1 hx
  have hby := encodeRuneZ_byte (R : Int) z hz
  have hz128 : 128 ≤ z := by
    unfold encodeRuneZ at hz
    rw [if_neg (by omega)] at hz
    split at hz
    · simp at hz; omega
    · split at hz
      · simp at hz; omega
      · split at hz
        · simp at hz; omega
        · simp at hz; omega
  show 128 ≤ (UInt8.ofNat z.toNat).toNat
  rw [UInt8.toNat_ofNat']
  omega
/-- A character: below 128 one byte, else none of its bytes is. -/
theorem chr_cases (l : List UInt8) (hne : l ≠ []) (hv : vch l) : (∃ b t, l = b :: t ∧ b.toNat < 128 ∧ decodeL l = (b.toNat, 1)) ∨ (128 ≤ (decodeL l).1 ∧ ∀ x ∈ l.take (decodeL l).2, 128 ≤ x.toNat) := by
  cases l with
  | nil => exact absurd rfl hne
  | cons b t =>
    by_cases hb : b.toNat < 128
    · exact .inl ⟨b, t, rfl, hb, decodeL_ascii b t hb⟩
    · have hh : 128 ≤ (decodeL (b :: t)).1 := by
        rw [decodeL_N]
        exact decodeN_high _ _ _ _ _ (by simp; omega)
      exact .inr ⟨hh, high_bytes hne hv hh⟩
theorem esc_high (h : List UInt8) (hh : ∀ x ∈ h, 128 ≤ x.toNat) : escQ h = h := by
  induction h with
  | nil => rfl
  | cons b t ih =>
    have hb := hh b (by simp)
    have e : escQ (b :: t) = (if marked b then [92, b] else [b]) ++ escQ t := rfl
    have hm : marked b = false := by
      unfold marked
      rw [Bool.or_eq_false_iff]
      refine ⟨beq_eq_false_iff_ne.2 fun e => ?_, beq_eq_false_iff_ne.2 fun e => ?_⟩ <;> (subst e; exact absurd hb (by decide))
    rw [e, hm, ih fun x hx => hh x (by simp [hx])]
    rfl
/-- In quotes: what is written is read. -/
theorem mR_quoted (a rest : List UInt8) (w : List UInt8) (o : List (List UInt8)) (h : canS a = true) : mR (escQ a ++ rest) ⟨2, w, o⟩ = mR rest ⟨2, w ++ a, o⟩ := by
  induction a using chs_ind generalizing w with
  | h0 => simp [escQ]
  | h1 l hne ih =>
    rw [canS_step l hne, Bool.and_eq_true] at h
    have hv := okP_vch h.1
    have hsplit : escQ l = escQ (l.take (decodeL l).2) ++ escQ (l.drop (decodeL l).2) := by rw [← escQ_append, List.take_append_drop]
    have hjoin : w ++ l = (w ++ l.take (decodeL l).2) ++ l.drop (decodeL l).2 := by rw [List.append_assoc, List.take_append_drop]
    rw [hsplit, hjoin, List.append_assoc]
    rw [← ih _ h.2]
    rcases chr_cases l hne hv with ⟨b, t, rfl, hb, hd⟩ | ⟨hh, hx⟩
    · rw [hd] at h ⊢
      simp only [List.take_succ_cons, List.take_zero, List.drop_succ_cons, List.drop_zero]
      by_cases hm : marked b = true
      · have e : escQ [b] = [92, b] := by simp [escQ, hm]
        rw [e]
        have hb2 : b.toNat = 34 ∨ b.toNat = 92 := by
          unfold marked at hm
          rw [Bool.or_eq_true, beq_iff_eq, beq_iff_eq] at hm
          rcases hm with rfl | rfl
          · left; rfl
          · right; rfl
        show mR (92 :: b :: (escQ t ++ rest)) _ = _
        rw [mR_asc 92 _ (by decide)]
        show mR (b :: (escQ t ++ rest)) ⟨3, w, o⟩ = _
        rw [mR_asc b _ hb]
        unfold stepM
        simp [hb2]
      · have e : escQ [b] = [b] := by simp [escQ, hm]
        rw [e]
        show mR (b :: (escQ t ++ rest)) _ = _
        rw [mR_asc b _ hb]
        have n1 : ¬ b.toNat = 92 := fun e2 => hm (by have : b = 92 := UInt8.toNat_inj.1 e2; subst this; rfl)
        have n2 : ¬ b.toNat = 34 := fun e2 => hm (by have : b = 34 := UInt8.toNat_inj.1 e2; subst this; rfl)
        unfold stepM
        simp [h.1, n1, n2]
    · obtain ⟨e1, hn⟩ := take_self hne hv
      rw [esc_high _ hx]
      have hv2 : vch (l.take (decodeL l).2) := by unfold vch; rw [e1]; exact hv
      obtain ⟨f1, f2, f3⟩ := step_app hn (escQ (l.drop (decodeL l).2) ++ rest) hv2
      rw [e1] at f1 f2 f3
      rw [List.take_take, Nat.min_self] at f2
      rw [show (l.take (decodeL l).2).drop (decodeL l).2 = [] from List.drop_of_length_le (by rw [List.length_take]; exact Nat.min_le_left _ _), List.nil_append] at f3
      rw [mR_step _ (by simp [hn]), f1, f2, f3]
      have n1 : ¬ (decodeL l).1 = 92 := by omega
      have n2 : ¬ (decodeL l).1 = 34 := by omega
      unfold stepM
      simp [h.1, n1, n2]
/-- Without quotes: so, too. -/
theorem mR_bare (a rest : List UInt8) (w : List UInt8) (o : List (List UInt8)) (h : canS a = true) (hs : a.any special = false) : mR (a ++ rest) ⟨1, w, o⟩ = mR rest ⟨1, w ++ a, o⟩ := by
  induction a using chs_ind generalizing w with
  | h0 => simp
  | h1 l hne ih =>
    rw [canS_step l hne, Bool.and_eq_true] at h
    have hv := okP_vch h.1
    have hjoin : w ++ l = (w ++ l.take (decodeL l).2) ++ l.drop (decodeL l).2 := by rw [List.append_assoc, List.take_append_drop]
    have hd : (l.drop (decodeL l).2).any special = false := by
      rw [List.any_eq_false] at hs ⊢
      exact fun x hx => hs x (List.mem_of_mem_drop hx)
    obtain ⟨f1, f2, f3⟩ := step_app hne rest hv
    have hsp : ¬ (decodeL l).1 = 32 ∧ ¬ (decodeL l).1 = 34 ∧ ¬ (decodeL l).1 = 92 := by
      rcases chr_cases l hne hv with ⟨b, t, rfl, hb, hd⟩ | ⟨hh, hx⟩
      · rw [hd]
        rw [List.any_cons, Bool.or_eq_false_iff] at hs
        have hb := hs.1
        unfold special at hb
        rw [Bool.or_eq_false_iff, Bool.or_eq_false_iff, beq_eq_false_iff_ne, beq_eq_false_iff_ne, beq_eq_false_iff_ne] at hb
        exact ⟨fun e => hb.1.1 (UInt8.toNat_inj.1 e), fun e => hb.1.2 (UInt8.toNat_inj.1 e), fun e => hb.2 (UInt8.toNat_inj.1 e)⟩
      · omega
    rw [mR_step _ (by simp [hne]), f1, f2, f3, hjoin, ← ih _ h.2 hd]
    unfold stepM
    simp [h.1, hsp]
/-- A word as it is written, at its place. -/
theorem mR_word (a rest : List UInt8) (o : List (List UInt8)) (h : canS a = true) (hr : rest = [] ∨ ∃ t, rest = 32 :: t) : mR (wordW a ++ rest) ⟨0, [], o⟩ = mR rest ⟨0, [], o ++ [a]⟩ ∨ (rest = [] ∧ mR (wordW a ++ rest) ⟨0, [], o⟩ = .inr (o ++ [a])) := by
  have key : ∃ q, (q = 1 ∨ q = 4) ∧ mR (wordW a ++ rest) ⟨0, [], o⟩ = mR rest ⟨q, a, o⟩ := by
    unfold wordW
    cases hb : bareB a with
    | true =>
      rw [if_pos rfl]
      unfold bareB at hb
      rw [Bool.and_eq_true, Bool.not_eq_true', Bool.not_eq_true'] at hb
      refine ⟨1, .inl rfl, ?_⟩
      have h1 := mR_bare a rest [] o h hb.2
      rw [List.nil_append] at h1
      rw [← h1]
      -- the first character begins the word
      have hne : a ≠ [] := by intro e; subst e; simp at hb
      rw [canS_step a hne, Bool.and_eq_true] at h
      have hv := okP_vch h.1
      obtain ⟨f1, f2, f3⟩ := step_app hne rest hv
      have hsp : ¬ (decodeL a).1 = 32 ∧ ¬ (decodeL a).1 = 34 ∧ ¬ (decodeL a).1 = 92 := by
        rcases chr_cases a hne hv with ⟨b, t, rfl, hb2, hd⟩ | ⟨hh, hx⟩
        · rw [hd]
          have hs := hb.2
          rw [List.any_cons, Bool.or_eq_false_iff] at hs
          have hb := hs.1
          unfold special at hb
          rw [Bool.or_eq_false_iff, Bool.or_eq_false_iff, beq_eq_false_iff_ne, beq_eq_false_iff_ne, beq_eq_false_iff_ne] at hb
          exact ⟨fun e => hb.1.1 (UInt8.toNat_inj.1 e), fun e => hb.1.2 (UInt8.toNat_inj.1 e), fun e => hb.2 (UInt8.toNat_inj.1 e)⟩
        · omega
      rw [mR_step (a ++ rest) (by simp [hne]), mR_step (a ++ rest) (by simp [hne]), f1, f2, f3]
      unfold stepM
      simp [h.1, hsp]
    | false =>
      rw [if_neg (by simp)]
      refine ⟨4, .inr rfl, ?_⟩
      show mR (34 :: ((escQ a ++ [34]) ++ rest)) _ = _
      rw [mR_asc 34 _ (by decide)]
      show mR ((escQ a ++ [34]) ++ rest) ⟨2, [], o⟩ = _
      rw [List.append_assoc, mR_quoted a _ [] o h, List.nil_append]
      show mR (34 :: rest) _ = _
      rw [mR_asc 34 _ (by decide)]
      rfl
  obtain ⟨q, hq, e⟩ := key
  rw [e]
  rcases hr with rfl | ⟨t, rfl⟩
  · right
    refine ⟨rfl, ?_⟩
    rw [mR_nil]
    unfold finM
    rcases hq with rfl | rfl <;> simp
  · left
    rw [mR_asc 32 _ (by decide), mR_asc 32 _ (by decide)]
    unfold stepM
    rcases hq with rfl | rfl <;> simp
theorem mR_words (l : List (List UInt8)) (a : List UInt8) (o : List (List UInt8)) (h : canS a = true) (hl : ∀ x ∈ l, canS x = true) :
    mR (wordW a ++ l.flatMap fun x => 32 :: wordW x) ⟨0, [], o⟩ = .inr (o ++ a :: l) := by
  induction l generalizing a o with
  | nil =>
    rcases mR_word a [] o h (.inl rfl) with e | ⟨-, e⟩
    · rw [List.flatMap_nil, e]; rfl
    · rw [List.flatMap_nil, e]
  | cons x t ih =>
    have e : ((x :: t).flatMap fun x => 32 :: wordW x) = 32 :: (wordW x ++ t.flatMap fun x => 32 :: wordW x) := by
      rw [List.flatMap_cons, List.cons_append]
    rw [e]
    rcases mR_word a _ o h (.inr ⟨_, rfl⟩) with e2 | ⟨e2, -⟩
    · rw [e2, mR_asc 32 _ (by decide)]
      show mR _ ⟨0, [], o ++ [a]⟩ = _
      rw [ih x (o ++ [a]) (hl x (by simp)) fun y hy => hl y (by simp [hy]), List.append_assoc]
      rfl
    · cases e2
end Go.Proofs.YtmanflfanoddgabDoor
