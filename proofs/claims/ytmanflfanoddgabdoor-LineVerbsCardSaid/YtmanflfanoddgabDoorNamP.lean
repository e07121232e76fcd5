/-
  The characters of a text, names, kinds of characters: plain functions over lists of bytes. No program is spoken of.
-/
import Derived.Lib.MapLaws
import Derived.Lib.ValidLaws
import Derived.Lib.TrimUEq
import Derived.Lib.RuneCount
import Derived.Lib.IndexMore
namespace Go.Proofs.YtmanflfanoddgabDoor
open Go.Lib

/-- A character: what it is, where it begins, how many bytes it has. -/
structure Chr where
  r : Nat
  p : Nat
  n : Nat
def chsF : Nat → List UInt8 → Nat → List Chr
  | 0, _, _ => []
  | f + 1, l, p => if l = [] then [] else ⟨(decodeL l).1, p, (decodeL l).2⟩ :: chsF f (l.drop (decodeL l).2) (p + (decodeL l).2)
def chs (l : List UInt8) (p : Nat) : List Chr := chsF l.length l p
theorem chsF_nil : ∀ f p, chsF f [] p = []
  | 0, _ => rfl
  | _ + 1, _ => by simp [chsF]
theorem chsF_fuel : ∀ (n m : Nat) (l : List UInt8) (p : Nat), l.length ≤ n → l.length ≤ m → chsF n l p = chsF m l p
  | 0, m, l, p, hn, _ => by
    have : l = [] := List.eq_nil_of_length_eq_zero (by omega)
    subst this
    rw [chsF_nil, chsF_nil]
  | n + 1, 0, l, p, _, hm => by
    have : l = [] := List.eq_nil_of_length_eq_zero (by omega)
    subst this
    rw [chsF_nil, chsF_nil]
  | n + 1, m + 1, l, p, hn, hm => by
    unfold chsF
    by_cases hne : l = []
    · simp [hne]
    · have hw := decodeL_width l
      have hl : 0 < l.length := List.length_pos_iff.2 hne
      rw [if_neg hne, if_neg hne, chsF_fuel n m _ _ (by rw [List.length_drop]; omega) (by rw [List.length_drop]; omega)]
theorem chs_nil (p : Nat) : chs [] p = [] := rfl
theorem chs_step (l : List UInt8) (p : Nat) (hne : l ≠ []) : chs l p = ⟨(decodeL l).1, p, (decodeL l).2⟩ :: chs (l.drop (decodeL l).2) (p + (decodeL l).2) := by
  have hl : 0 < l.length := List.length_pos_iff.2 hne
  have hw := decodeL_width l
  obtain ⟨n, hn⟩ : ∃ n, l.length = n + 1 := ⟨l.length - 1, by omega⟩
  unfold chs
  rw [hn]
  show (if l = [] then [] else _) = _
  rw [if_neg hne, chsF_fuel n (l.drop (decodeL l).2).length _ _ (by rw [List.length_drop]; omega) (Nat.le_refl _)]
theorem chs_empty (l : List UInt8) (p : Nat) : chs l p = [] ↔ l = [] := by
  constructor
  · intro h
    by_cases hne : l = []
    · exact hne
    · rw [chs_step l p hne] at h
      cases h
  · rintro rfl; rfl
/-- A proof along the characters. -/
theorem chs_ind {C : List UInt8 → Prop} (h0 : C []) (h1 : ∀ l, l ≠ [] → C (l.drop (decodeL l).2) → C l) : ∀ l, C l := by
  intro l
  obtain ⟨n, hn⟩ : ∃ n, l.length ≤ n := ⟨_, Nat.le_refl _⟩
  induction n generalizing l with
  | zero =>
    have : l = [] := List.eq_nil_of_length_eq_zero (by omega)
    subst this
    exact h0
  | succ n ih =>
    by_cases hne : l = []
    · subst hne; exact h0
    · have hw := decodeL_width l
      exact h1 l hne (ih _ (by rw [List.length_drop]; omega))
theorem chs_len (l : List UInt8) (p q : Nat) : (chs l p).length = (chs l q).length := by
  induction l using chs_ind generalizing p q with
  | h0 => rfl
  | h1 l hne ih => rw [chs_step l p hne, chs_step l q hne, List.length_cons, List.length_cons, ih (p + (decodeL l).2) (q + (decodeL l).2)]
theorem chs_le (l : List UInt8) (p : Nat) : (chs l p).length ≤ l.length := by
  induction l using chs_ind generalizing p with
  | h0 => exact Nat.le_refl _
  | h1 l hne ih =>
    have hl : 0 < l.length := List.length_pos_iff.2 hne
    have hw := decodeL_width l
    have := ih (p + (decodeL l).2)
    rw [chs_step l p hne, List.length_cons]
    rw [List.length_drop] at this
    omega
theorem count_chs (s : ByteArray) : ∀ (f pos : Nat), s.size ≤ pos + f → runeCountFrom s f pos = (chs (s.data.toList.drop pos) pos).length
  | 0, pos, h => by
    rw [List.drop_of_length_le (by rw [← size_eq]; omega)]
    rfl
  | f + 1, pos, h => by
    have hw := decodeL_width (s.data.toList.drop pos)
    rw [decodeL_drop] at hw
    unfold runeCountFrom
    by_cases hp : pos < s.size
    · have hne : s.data.toList.drop pos ≠ [] := by
        intro e
        have := congrArg List.length e
        rw [List.length_drop, ← size_eq] at this
        simp at this
        omega
      rw [if_pos hp, chs_step _ _ hne, decodeL_drop, List.drop_drop, List.length_cons, count_chs s f _ (by omega)]
      omega
    · rw [if_neg hp, List.drop_of_length_le (by rw [← size_eq]; omega)]
      rfl
theorem runeCount_chs (s : ByteArray) : runeCount s = (chs s.data.toList 0).length := by
  have := count_chs s s.size 0 (by omega)
  rwa [List.drop_zero] at this

/-! ### letters -/
def lowB (b : UInt8) : UInt8 := if 65 ≤ b.toNat ∧ b.toNat ≤ 90 then b + 32 else b
def upB (b : UInt8) : UInt8 := if 97 ≤ b.toNat ∧ b.toNat ≤ 122 then b - 32 else b
def lowL (l : List UInt8) : List UInt8 := l.map lowB
def upL (l : List UInt8) : List UInt8 := l.map upB
def smallR (r : Nat) : Nat := if 65 ≤ r ∧ r ≤ 90 then r + 32 else r
def greatR (r : Nat) : Nat := if 97 ≤ r ∧ r ≤ 122 then r - 32 else r
theorem lowB_nat (b : UInt8) : (lowB b).toNat = smallR b.toNat := by
  unfold lowB smallR
  split
  · rw [UInt8.toNat_add]
    have h2 : (32 : UInt8).toNat = 32 := rfl
    omega
  · rfl
theorem upB_nat (b : UInt8) : (upB b).toNat = greatR b.toNat := by
  unfold upB greatR
  split
  · have h2 : (32 : UInt8).toNat = 32 := rfl
    rw [UInt8.toNat_sub_of_le _ _ (by rw [UInt8.le_iff_toNat_le]; omega)]
    omega
  · rfl
/-- It turns bytes below 128 into such bytes, and no others. -/
structure AscMap (f : UInt8 → UInt8) (g : Nat → Nat) : Prop where
  nat : ∀ b, (f b).toNat = g b.toNat
  low : ∀ n, n < 128 → g n < 128
  high : ∀ n, 128 ≤ n → g n = n
theorem ascLow : AscMap lowB smallR := ⟨lowB_nat, fun n h => by unfold smallR; split <;> omega, fun n h => by unfold smallR; rw [if_neg (by omega)]⟩
theorem ascUp : AscMap upB greatR := ⟨upB_nat, fun n h => by unfold greatR; split <;> omega, fun n h => by unfold greatR; rw [if_neg (by omega)]⟩
theorem decodeN_same (n b0 b1 b2 b3 c1 c2 c3 : Nat) (h0 : 128 ≤ b0) (h1 : c1 = b1 ∨ (c1 < 128 ∧ b1 < 128)) (h2 : c2 = b2 ∨ (c2 < 128 ∧ b2 < 128)) (h3 : c3 = b3 ∨ (c3 < 128 ∧ b3 < 128)) :
    decodeN n b0 c1 c2 c3 = decodeN n b0 b1 b2 b3 := by
  have n0 : ¬ b0 < 128 := by omega
  rcases h1 with rfl | ⟨h1, h1'⟩
  · rcases h2 with rfl | ⟨h2, h2'⟩
    · rcases h3 with rfl | ⟨h3, h3'⟩
      · rfl
      · have e1 : ¬ c3 / 64 = 2 := by omega
        have e2 : ¬ b3 / 64 = 2 := by omega
        simp only [decodeN, e1, e2, and_false, if_false]
    · have e1 : ¬ c2 / 64 = 2 := by omega
      have e2 : ¬ b2 / 64 = 2 := by omega
      simp only [decodeN, e1, e2, and_false, false_and, if_false]
  · have e1 : ¬ c1 / 64 = 2 := by omega
    have e2 : ¬ b1 / 64 = 2 := by omega
    simp only [decodeN, e1, e2, and_false, false_and, if_false]
theorem decodeN_high (n b0 b1 b2 b3 : Nat) (h : 128 ≤ b0) : 128 ≤ (decodeN n b0 b1 b2 b3).1 := by
  unfold decodeN
  rw [if_neg (by omega)]
  repeat' split
  all_goals (simp only; omega)
theorem decode_map {f : UInt8 → UInt8} {g : Nat → Nat} (hf : AscMap f g) (l : List UInt8) (hne : l ≠ []) : decodeL (l.map f) = (g (decodeL l).1, (decodeL l).2) := by
  have hget : ∀ i, ((l.map f).getD i 0).toNat = (l.getD i 0).toNat ∨ (((l.map f).getD i 0).toNat < 128 ∧ (l.getD i 0).toNat < 128) := fun i => by
    simp only [List.getD, List.getElem?_map]
    cases h : l[i]? with
    | none => left; rfl
    | some b =>
      simp only [Option.map_some, Option.getD_some]
      by_cases hb : b.toNat < 128
      · right; exact ⟨by rw [hf.nat]; exact hf.low _ hb, hb⟩
      · left; rw [hf.nat]; exact hf.high _ (by omega)
  cases l with
  | nil => exact absurd rfl hne
  | cons b t =>
    by_cases hb : b.toNat < 128
    · rw [List.map_cons, decodeL_ascii (f b) _ (by rw [hf.nat]; exact hf.low _ hb), decodeL_ascii b t hb, hf.nat]
    · have e0 : f b = b := UInt8.toNat_inj.1 (by rw [hf.nat]; exact hf.high _ (by omega))
      rw [decodeL_N, decodeL_N, List.length_map]
      have h0 : ((b :: t).map f).getD 0 0 = b := by simp [e0]
      have h0' : (b :: t).getD 0 0 = b := by simp
      rw [h0, h0', decodeN_same _ _ _ _ _ _ _ _ (by omega) (hget 1) (hget 2) (hget 3)]
      apply Prod.ext
      · exact (hf.high _ (decodeN_high _ _ _ _ _ (by omega))).symm
      · rfl
def Chr.map (g : Nat → Nat) (c : Chr) : Chr := ⟨g c.r, c.p, c.n⟩
theorem chs_map {f : UInt8 → UInt8} {g : Nat → Nat} (hf : AscMap f g) (l : List UInt8) (p : Nat) : chs (l.map f) p = (chs l p).map (Chr.map g) := by
  induction l using chs_ind generalizing p with
  | h0 => rfl
  | h1 l hne ih =>
    rw [chs_step l p hne, chs_step (l.map f) p (by simpa using hne), decode_map hf l hne, ← List.map_drop, ih]
    rfl

/-! ### names -/
def nameOk (r : Nat) : Bool := if r < 128 then (97 ≤ r && r ≤ 122) || (65 ≤ r && r ≤ 90) || (48 ≤ r && r ≤ 57) || r == 46 || r == 45 || r == 95 else r != 65533
def okAt (k r : Nat) : Bool := nameOk r && !(k == 0 && (r == 46 || r == 45))
/-- The first fault, k characters being ahead: its place, the error's number. -/
def fault : List Chr → Nat → Option (Nat × Nat)
  | [], _ => none
  | c :: t, k => if okAt k c.r = false then some (c.p, 4) else if k = 16 then some (c.p, 2) else fault t (k + 1)
/-- The name of a text, the place, the error's number. -/
def foldS (l : List UInt8) : List UInt8 × Nat × Nat :=
  match fault (chs l 0) 0 with
  | some (p, e) => ([], p, e)
  | none => if l = [] then ([], 0, 4) else if 32 < l.length then ([], 0, 2) else (lowL l, 0, 0)
/-- What the characters are, written out, A to Z as a to z. -/
def flat (c : List Chr) : List UInt8 := c.flatMap fun c => encodeRune ((smallR c.r : Nat) : Int)
theorem okAt_name {k r : Nat} (h : okAt k r = true) : nameOk r = true := by
  unfold okAt at h
  rw [Bool.and_eq_true] at h
  exact h.1
theorem fault_cons_none {c : Chr} {t : List Chr} {k : Nat} (h : fault (c :: t) k = none) : okAt k c.r = true ∧ k ≠ 16 ∧ fault t (k + 1) = none := by
  unfold fault at h
  cases ho : okAt k c.r with
  | false => rw [ho] at h; simp at h
  | true =>
    rw [ho] at h
    by_cases hk : k = 16
    · simp [hk] at h
    · rw [if_neg (by simp), if_neg hk] at h
      exact ⟨rfl, hk, h⟩
theorem flat_low (l : List UInt8) (p k : Nat) (h : fault (chs l p) k = none) : flat (chs l p) = lowL l := by
  induction l using chs_ind generalizing p k with
  | h0 => rfl
  | h1 l hne ih =>
    rw [chs_step l p hne] at h ⊢
    obtain ⟨ho, _, ht⟩ := fault_cons_none h
    have hn := okAt_name ho
    simp only at hn
    show encodeRune ((smallR (decodeL l).1 : Nat) : Int) ++ flat (chs (l.drop (decodeL l).2) (p + (decodeL l).2)) = lowL l
    rw [ih _ _ ht]
    have e : encodeRune ((smallR (decodeL l).1 : Nat) : Int) = lowL (l.take (decodeL l).2) := by
      cases l with
      | nil => exact absurd rfl hne
      | cons b t =>
        by_cases hb : b.toNat < 128
        · rw [decodeL_ascii b t hb]
          simp only [List.take_succ_cons, List.take_zero]
          have hs : smallR b.toNat < 128 := ascLow.low _ hb
          unfold encodeRune
          rw [encodeRuneZ_one (by omega) (by omega)]
          show [(((smallR b.toNat : Nat) : Int).toNat).toUInt8] = [lowB b]
          congr 1
          apply UInt8.toNat_inj.1
          rw [lowB_nat, Int.toNat_natCast]
          show (UInt8.ofNat (smallR b.toNat)).toNat = _
          rw [UInt8.toNat_ofNat']
          omega
        · have hh : 128 ≤ (decodeL (b :: t)).1 := by
            rw [decodeL_N]
            exact decodeN_high _ _ _ _ _ (by simp; omega)
          have hr : (decodeL (b :: t)).1 ≠ 65533 := by
            intro e
            rw [e] at hn
            exact absurd hn (by decide)
          rw [ascLow.high _ hh, encode_decode (b :: t) (by simp) (fun h => hr h.1)]
          -- all its bytes are from 128 on
          have hall : ∀ x ∈ (b :: t).take (decodeL (b :: t)).2, lowB x = x := by
            intro x hx
            have henc := encode_decode (b :: t) (by simp) (fun h => hr h.1)
            rw [← henc] at hx
            have hle := decodeL_rune (b :: t)
            generalize (decodeL (b :: t)).1 = R at *
            have hx128 : 128 ≤ x.toNat := by
              unfold encodeRune at hx
              obtain ⟨z, hz, rfl⟩ := List.mem_map.1 hx
              have hby := encodeRuneZ_byte (R : Int) z hz
              have hz128 : 128 ≤ z := by
                unfold encodeRuneZ at hz
                rw [if_neg (by omega)] at hz
                split at hz
                · simp at hz; omega
                · split at hz
                  · simp at hz; omega
                  · split at hz
                    · simp at hz; omega
                    · simp at hz; omega
              show 128 ≤ (UInt8.ofNat z.toNat).toNat
              rw [UInt8.toNat_ofNat']
              omega
            unfold lowB
            rw [if_neg (by omega)]
          unfold lowL
          rw [List.map_congr_left hall, List.map_id']
    rw [e]
    unfold lowL
    rw [← List.map_append, List.take_append_drop]
theorem lowL_length (l : List UInt8) : (lowL l).length = l.length := by simp [lowL]
theorem upL_length (l : List UInt8) : (upL l).length = l.length := by simp [upL]
/-- The document's own way comes to the same. -/
def foldR (l : List UInt8) : List UInt8 × Nat × Nat :=
  match fault (chs l 0) 0 with
  | some (p, e) => ([], p, e)
  | none => if l = [] then ([], 0, 4) else if 32 < (flat (chs l 0)).length then ([], 0, 2) else (flat (chs l 0), 0, 0)
theorem foldR_eq (l : List UInt8) : foldR l = foldS l := by
  unfold foldR foldS
  cases h : fault (chs l 0) 0 with
  | some x => rfl
  | none => rw [flat_low l 0 0 h, lowL_length]

theorem smallR_idem (r : Nat) : smallR (smallR r) = smallR r := by
  unfold smallR
  by_cases h : 65 ≤ r ∧ r ≤ 90
  · simp only [if_pos h]
    rw [if_neg (by omega)]
  · simp only [if_neg h]
theorem lowB_idem (b : UInt8) : lowB (lowB b) = lowB b := UInt8.toNat_inj.1 (by rw [lowB_nat, lowB_nat, smallR_idem])
theorem lowB_up (b : UInt8) (h : lowB b = b) : lowB (upB b) = b := UInt8.toNat_inj.1 (by
  have h2 : smallR b.toNat = b.toNat := by rw [← lowB_nat, h]
  rw [lowB_nat, upB_nat]
  unfold greatR
  unfold smallR at h2 ⊢
  repeat' split
  all_goals (split at h2 <;> omega))
theorem lowL_idem (l : List UInt8) : lowL (lowL l) = lowL l := by
  unfold lowL
  rw [List.map_map]
  exact List.map_congr_left fun b _ => lowB_idem b
theorem lowL_up (l : List UInt8) (h : lowL l = l) : lowL (upL l) = l := by
  unfold lowL upL at *
  rw [List.map_map]
  have h2 : l.map (lowB ∘ upB) = l.map lowB := List.map_congr_left fun b hb => by
    have : lowB b = b := by
      obtain ⟨i, hi, rfl⟩ := List.mem_iff_getElem.1 hb
      have h3 := congrArg (fun x => x[i]?) h
      simp only [List.getElem?_map, List.getElem?_eq_getElem hi, Option.map_some] at h3
      exact Option.some.inj h3
    rw [Function.comp, lowB_up b this, this]
  rw [h2, h]
theorem okAt_map {g : Nat → Nat} (hg : ∀ r, nameOk (g r) = nameOk r ∧ ((g r == 46) = (r == 46)) ∧ ((g r == 45) = (r == 45))) (k r : Nat) : okAt k (g r) = okAt k r := by
  unfold okAt
  rw [(hg r).1, (hg r).2.1, (hg r).2.2]
theorem smallR_ok (r : Nat) : nameOk (smallR r) = nameOk r ∧ ((smallR r == 46) = (r == 46)) ∧ ((smallR r == 45) = (r == 45)) := by
  by_cases h : r < 128
  · have : ∀ i : Fin 128, nameOk (smallR i.val) = nameOk i.val ∧ ((smallR i.val == 46) = (i.val == 46)) ∧ ((smallR i.val == 45) = (i.val == 45)) := by decide
    exact this ⟨r, h⟩
  · rw [ascLow.high r (by omega)]; exact ⟨rfl, rfl, rfl⟩
theorem greatR_ok (r : Nat) : nameOk (greatR r) = nameOk r ∧ ((greatR r == 46) = (r == 46)) ∧ ((greatR r == 45) = (r == 45)) := by
  by_cases h : r < 128
  · have : ∀ i : Fin 128, nameOk (greatR i.val) = nameOk i.val ∧ ((greatR i.val == 46) = (i.val == 46)) ∧ ((greatR i.val == 45) = (i.val == 45)) := by decide
    exact this ⟨r, h⟩
  · rw [ascUp.high r (by omega)]; exact ⟨rfl, rfl, rfl⟩
theorem fault_map {g : Nat → Nat} (hg : ∀ r, nameOk (g r) = nameOk r ∧ ((g r == 46) = (r == 46)) ∧ ((g r == 45) = (r == 45))) (c : List Chr) (k : Nat) : fault (c.map (Chr.map g)) k = fault c k := by
  induction c generalizing k with
  | nil => rfl
  | cons c t ih =>
    show (if okAt k (g c.r) = false then _ else _) = (if okAt k c.r = false then _ else _)
    rw [okAt_map hg, ih]
    rfl
theorem fault_low (l : List UInt8) (p k : Nat) : fault (chs (lowL l) p) k = fault (chs l p) k := by unfold lowL; rw [chs_map ascLow, fault_map smallR_ok]
theorem fault_up (l : List UInt8) (p k : Nat) : fault (chs (upL l) p) k = fault (chs l p) k := by unfold upL; rw [chs_map ascUp, fault_map greatR_ok]
theorem map_nil_iff {f : UInt8 → UInt8} (l : List UInt8) : l.map f = [] ↔ l = [] := by simp
/-- What a name is, told by its fold. -/
theorem foldS_ok {l n : List UInt8} {p : Nat} (h : foldS l = (n, p, 0)) : fault (chs l 0) 0 = none ∧ l ≠ [] ∧ l.length ≤ 32 ∧ n = lowL l := by
  unfold foldS at h
  cases hf : fault (chs l 0) 0 with
  | some x =>
    rw [hf] at h
    obtain ⟨q, e⟩ := x
    simp only [Prod.mk.injEq] at h
    have : ∀ (c : List Chr) (k q e : Nat), fault c k = some (q, e) → e ≠ 0 := by
      intro c
      induction c with
      | nil => intro k q e h; cases h
      | cons c t ih =>
        intro k q e h
        unfold fault at h
        split at h
        · injection h with h; injection h with _ h; omega
        · split at h
          · injection h with h; injection h with _ h; omega
          · exact ih _ _ _ h
    exact absurd h.2.2 (this _ _ _ _ hf)
  | none =>
    rw [hf] at h
    simp only at h
    split at h
    · simp at h
    · split at h
      · simp at h
      · simp only [Prod.mk.injEq] at h
        exact ⟨rfl, by assumption, by omega, h.1.symm⟩
theorem foldS_of {l : List UInt8} (h1 : fault (chs l 0) 0 = none) (h2 : l ≠ []) (h3 : l.length ≤ 32) : foldS l = (lowL l, 0, 0) := by
  unfold foldS
  rw [h1]
  simp only
  rw [if_neg h2, if_neg (by omega)]
theorem foldS_err (l : List UInt8) (h : (foldS l).2.2 ≠ 0) : (foldS l).1 = [] := by
  unfold foldS at h ⊢
  split
  · rfl
  · rename_i hf
    rw [hf] at h
    simp only at h
    split
    · rfl
    · split
      · rfl
      · rename_i h1 h2; rw [if_neg h1, if_neg h2] at h; exact absurd rfl h
/-- A name stands for itself; in great letters for the same. -/
theorem fold_once {l n : List UInt8} {p : Nat} (h : foldS l = (n, p, 0)) : foldS n = (n, 0, 0) ∧ foldS (upL n) = (n, 0, 0) ∧ 1 ≤ n.length ∧ n.length ≤ 32 ∧ p = 0 := by
  obtain ⟨h1, h2, h3, rfl⟩ := foldS_ok h
  have hl : 0 < l.length := List.length_pos_iff.2 h2
  have hn : lowL l ≠ [] := by intro e; exact h2 ((map_nil_iff l).1 e)
  have hp : p = 0 := by
    rw [foldS_of h1 h2 h3] at h
    simp only [Prod.mk.injEq] at h
    exact h.2.1.symm
  refine ⟨?_, ?_, by rw [lowL_length]; omega, by rw [lowL_length]; omega, hp⟩
  · have := foldS_of (l := lowL l) (by rw [fault_low]; exact h1) hn (by rw [lowL_length]; exact h3)
    rwa [lowL_idem] at this
  · have := foldS_of (l := upL (lowL l)) (by rw [fault_up, fault_low]; exact h1) (by intro e; exact hn ((map_nil_iff _).1 e)) (by rw [upL_length, lowL_length]; exact h3)
    rwa [lowL_up _ (lowL_idem l)] at this

/-! ### kinds -/
def kd (r : Nat) : Nat := if 97 ≤ r ∧ r ≤ 122 then 0 else if 65 ≤ r ∧ r ≤ 90 then 1 else if 48 ≤ r ∧ r ≤ 57 then 2 else if r < 128 then 3 else 4
def kinds (c : List Chr) (m : Nat) : Nat := c.foldl (fun m c => m ||| 2 ^ kd c.r) m
theorem kinds_cons (c : Chr) (t : List Chr) (m : Nat) : kinds (c :: t) m = kinds t (m ||| 2 ^ kd c.r) := rfl
theorem kinds_append (a b : List Chr) (m : Nat) : kinds (a ++ b) m = kinds b (kinds a m) := List.foldl_append ..
theorem kinds_or (a : List Chr) (m n : Nat) : kinds a (m ||| n) = m ||| kinds a n := by
  induction a generalizing n with
  | nil => rfl
  | cons c t ih => rw [kinds_cons, kinds_cons, Nat.or_assoc, ih]
theorem kinds_from (a : List Chr) (m : Nat) : kinds a m = m ||| kinds a 0 := by
  have := kinds_or a m 0
  rwa [Nat.or_zero] at this
theorem kd_le (r : Nat) : kd r ≤ 4 := by
  unfold kd
  repeat' split
  all_goals omega
theorem kinds_lt (a : List Chr) (m : Nat) (h : m < 32) : kinds a m < 32 := by
  induction a generalizing m with
  | nil => exact h
  | cons c t ih =>
    refine ih _ (Nat.or_lt_two_pow (n := 5) h ?_)
    exact Nat.pow_lt_pow_right (by decide) (by have := kd_le c.r; omega)
theorem kinds_shift (l : List UInt8) (p q m : Nat) : kinds (chs l p) m = kinds (chs l q) m := by
  induction l using chs_ind generalizing p q m with
  | h0 => rfl
  | h1 l hne ih => rw [chs_step l p hne, chs_step l q hne, kinds_cons, kinds_cons]; exact ih _ _ _
/-- The kinds, how many, whether it is UTF-8. -/
def classS (l : List UInt8) : Nat × Nat × Bool := if validD l then (kinds (chs l 0) 0, (chs l 0).length, true) else (0, 0, false)

/-! ### texts one behind the other, and cut -/
def vch (l : List UInt8) : Prop := ¬ ((decodeL l).1 = 65533 ∧ (decodeL l).2 = 1)
theorem decodeN_pre (n n' b0 b1 b2 b3 c1 c2 c3 : Nat) (hw : (decodeN n b0 b1 b2 b3).2 ≤ n') (h1 : 1 < (decodeN n b0 b1 b2 b3).2 → c1 = b1) (h2 : 2 < (decodeN n b0 b1 b2 b3).2 → c2 = b2) (h3 : 3 < (decodeN n b0 b1 b2 b3).2 → c3 = b3)
    (hv : ¬ ((decodeN n b0 b1 b2 b3).1 = 65533 ∧ (decodeN n b0 b1 b2 b3).2 = 1)) : decodeN n' b0 c1 c2 c3 = decodeN n b0 b1 b2 b3 := by
  rcases decodeN_shape n b0 b1 b2 b3 with ⟨c, e⟩ | ⟨d1, d2, d3, dv, e⟩ | ⟨d1, d2, d3, d4, dv, ds, e⟩ | ⟨d1, d2, d3, d4, d5, dv, dw, e⟩ | e
  · rw [e]; simp [decodeN, c]
  · rw [e] at hw h1 ⊢
    simp only at hw h1
    obtain rfl := h1 (by omega)
    unfold decodeN
    rw [if_neg (by omega), if_pos ⟨by omega, by omega, by omega⟩, if_pos (by omega)]
  · rw [e] at hw h1 h2 ⊢
    simp only at hw h1 h2
    obtain rfl := h1 (by omega)
    obtain rfl := h2 (by omega)
    unfold decodeN
    rw [if_neg (by omega), if_neg (by omega), if_pos ⟨by omega, ⟨by omega, by omega⟩, by omega, by omega⟩, if_pos (by omega)]
  · rw [e] at hw h1 h2 h3 ⊢
    simp only at hw h1 h2 h3
    obtain rfl := h1 (by omega)
    obtain rfl := h2 (by omega)
    obtain rfl := h3 (by omega)
    unfold decodeN
    rw [if_neg (by omega), if_neg (by omega), if_neg (by omega), if_pos ⟨by omega, ⟨by omega, by omega⟩, ⟨by omega, by omega⟩, by omega, by omega⟩, if_pos (by omega)]
  · exact absurd ⟨by rw [e], by rw [e]⟩ hv
theorem decode_pre (l l' : List UInt8) (hne : l ≠ []) (hv : vch l) (ht : l'.take (decodeL l).2 = l.take (decodeL l).2) : decodeL l' = decodeL l := by
  have hw := decodeL_width l
  have hle := decodeL_le l hne
  have hn : (decodeL l).2 ≤ l'.length := by
    have := congrArg List.length ht
    rw [List.length_take, List.length_take] at this
    omega
  have hg : ∀ i, i < (decodeL l).2 → l'.getD i 0 = l.getD i 0 := fun i hi => by
    have h1 : (l'.take (decodeL l).2)[i]? = (l.take (decodeL l).2)[i]? := by rw [ht]
    rw [List.getElem?_take_of_lt hi, List.getElem?_take_of_lt hi] at h1
    rw [List.getD_eq_getElem?_getD, List.getD_eq_getElem?_getD, h1]
  unfold vch at hv
  rw [decodeL_N l'] 
  rw [hg 0 (by omega)]
  rw [decodeL_N l] at hv hw hle hn hg ⊢
  exact decodeN_pre _ _ _ _ _ _ _ _ _ hn (fun h => by rw [hg 1 h]) (fun h => by rw [hg 2 h]) (fun h => by rw [hg 3 h]) hv
theorem name_vch {l : List UInt8} (h : nameOk (decodeL l).1 = true) : vch l := fun hv => by
  rw [hv.1] at h
  exact absurd h (by decide)
theorem valid_vch {l : List UInt8} (hne : l ≠ []) (h : validD l = true) : vch l ∧ validD (l.drop (decodeL l).2) = true := by
  rw [validD_step l hne] at h
  split at h
  · cases h
  · exact ⟨by assumption, h⟩
theorem chs_app (a b : List UInt8) (p : Nat) (h : validD a = true) : chs (a ++ b) p = chs a p ++ chs b (p + a.length) := by
  induction a using chs_ind generalizing p with
  | h0 => simp [chs_nil]
  | h1 l hne ih =>
    obtain ⟨hv, ht⟩ := valid_vch hne h
    have hle := decodeL_le l hne
    have e := decode_pre l (l ++ b) hne hv (by rw [List.take_append_of_le_length hle])
    rw [chs_step (l ++ b) p (by simp [hne]), chs_step l p hne, e, List.drop_append_of_le_length hle, ih _ ht, List.length_drop, List.cons_append]
    congr 3
    omega
theorem valid_app (a b : List UInt8) (h : validD a = true) : validD (a ++ b) = validD b := by
  induction a using chs_ind with
  | h0 => rfl
  | h1 l hne ih =>
    obtain ⟨hv, ht⟩ := valid_vch hne h
    have hle := decodeL_le l hne
    have e := decode_pre l (l ++ b) hne hv (by rw [List.take_append_of_le_length hle])
    rw [validD_step (l ++ b) (by simp [hne]), e, if_neg hv, List.drop_append_of_le_length hle, ih ht]
/-- The kinds of two texts, one behind the other. -/
theorem class_app {a b : List UInt8} {x n y m : Nat} (ha : classS a = (x, n, true)) (hb : classS b = (y, m, true)) : classS (a ++ b) = (x ||| y, n + m, true) := by
  unfold classS at *
  split at ha
  · rename_i va
    split at hb
    · rename_i vb
      simp only [Prod.mk.injEq, and_true] at ha hb
      rw [valid_app a b va, vb, if_pos rfl, chs_app a b 0 va, kinds_append, kinds_from, List.length_append, ha.1, ha.2, kinds_shift b _ 0, hb.1, chs_len b _ 0, hb.2]
    · simp at hb
  · simp at ha
/-- Ahead of the first fault. -/
theorem fault_take (l : List UInt8) (q k p e : Nat) (h : fault (chs l q) k = some (p, e)) (hk : k ≤ 16) : ∃ j, p = q + j ∧ j < l.length ∧ fault (chs (l.take j) q) k = none ∧ (chs (l.take j) q).length + k ≤ 16 := by
  induction l using chs_ind generalizing q k with
  | h0 => cases h
  | h1 l hne ih =>
    have hl : 0 < l.length := List.length_pos_iff.2 hne
    rw [chs_step l q hne] at h
    unfold fault at h
    split at h
    · injection h with h; injection h with h _
      exact ⟨0, h.symm, hl, rfl, by simpa [chs_nil] using hk⟩
    · split at h
      · injection h with h; injection h with h _
        exact ⟨0, h.symm, hl, rfl, by simpa [chs_nil] using hk⟩
      · rename_i ho hk16
        simp only at ho h
        obtain ⟨j, hp, hj, hf, hc⟩ := ih _ _ h (by omega)
        have ho' : okAt k (decodeL l).1 = true := by simpa using ho
        have hle := decodeL_le l hne
        have hw := decodeL_width l
        rw [List.length_drop] at hj
        have e := decode_pre l (l.take ((decodeL l).2 + j)) hne (name_vch (okAt_name ho')) (by rw [List.take_take]; congr 1; omega)
        have hne2 : l.take ((decodeL l).2 + j) ≠ [] := by
          intro e
          have := congrArg List.length e
          rw [List.length_take, List.length_nil] at this
          omega
        have ed : (l.take ((decodeL l).2 + j)).drop (decodeL l).2 = (l.drop (decodeL l).2).take j := by rw [List.drop_take]; congr 1; omega
        refine ⟨(decodeL l).2 + j, by omega, by omega, ?_, ?_⟩
        · rw [chs_step _ _ hne2, e, ed]
          unfold fault
          rw [if_neg (by simp [ho']), if_neg hk16]
          exact hf
        · rw [chs_step _ _ hne2, e, ed, List.length_cons]
          omega
/-- What stands ahead of the first fault is a name, or nothing. -/
theorem fold_places {l n : List UInt8} {p e : Nat} (h : foldS l = (n, p, e)) (he : e ≠ 0) (hp : p ≠ 0) :
    p < l.length ∧ ((foldS (l.take p)).2.2 = 0 ∨ (foldS (l.take p)).2.2 = 2) ∧ ((foldS (l.take p)).2.2 = 0 → (chs (foldS (l.take p)).1 0).length ≤ 16) := by
  unfold foldS at h
  cases hf : fault (chs l 0) 0 with
  | none =>
    rw [hf] at h
    simp only at h
    repeat' split at h
    all_goals (simp only [Prod.mk.injEq] at h; exact absurd h.2.1.symm hp)
  | some x =>
    obtain ⟨q, e'⟩ := x
    rw [hf] at h
    simp only [Prod.mk.injEq] at h
    obtain ⟨-, rfl, rfl⟩ := h
    obtain ⟨j, rfl, hj, h1, h2⟩ := fault_take l 0 0 q e' hf (by omega)
    rw [Nat.zero_add] at hp ⊢
    have hne : l.take j ≠ [] := by
      intro e
      have := congrArg List.length e
      rw [List.length_take, List.length_nil] at this
      omega
    refine ⟨hj, ?_⟩
    have hlow : (chs (lowL (l.take j)) 0).length = (chs (l.take j) 0).length := by unfold lowL; rw [chs_map ascLow, List.length_map]
    unfold foldS
    rw [h1]
    simp only
    rw [if_neg hne]
    split
    · exact ⟨.inr rfl, fun h => by cases h⟩
    · exact ⟨.inl rfl, fun _ => by simp only; rw [hlow]; omega⟩

/-! ### passwords -/
def tellsB (pass name : List UInt8) : Bool := decide (3 ≤ (chs name 0).length) && contains (lowL pass) (lowL name)
def strongS (pass name : List UInt8) : Nat :=
  if (classS pass).2.2 = false then 4 else if 32 < (classS pass).2.1 then 2
  else if (classS pass).2.1 < 8 then 5 else if Nat.land (classS pass).1 ((classS pass).1 - 1) = 0 then 5 else if tellsB pass name then 5 else 0
theorem prefix_app (s b : List UInt8) : s.isPrefixOf (s ++ b) = true := by rw [List.isPrefixOf_iff_prefix]; exact List.prefix_append _ _
theorem index_app (a s b : List UInt8) : 0 ≤ index (a ++ (s ++ b)) s := by
  induction a with
  | nil =>
    rw [List.nil_append]
    have hp := prefix_app s b
    cases h : s ++ b with
    | nil =>
      have : s = [] := List.append_eq_nil_iff.1 h |>.1
      subst this
      simp [index]
    | cons x t =>
      rw [h] at hp
      simp [index, hp]
  | cons x t ih =>
    rw [List.cons_append]
    unfold index
    split
    · omega
    · split
      · rename_i h; simp at h; omega
      · omega
theorem strong_within {a name b n : List UInt8} {p : Nat} (h : foldS name = (n, p, 0)) (hn : 3 ≤ (chs n 0).length) : strongS (a ++ name ++ b) n ≠ 0 := by
  obtain ⟨-, -, -, rfl⟩ := foldS_ok h
  unfold strongS
  split
  · decide
  · split
    · decide
    · split
      · decide
      · split
        · decide
        · have : tellsB (a ++ name ++ b) (lowL name) = true := by
            unfold tellsB
            rw [lowL_idem, decide_eq_true hn, Bool.true_and]
            unfold contains
            rw [decide_eq_true_eq]
            unfold lowL
            rw [List.map_append, List.map_append, List.append_assoc]
            exact index_app _ _ _
          rw [this]
          decide
end Go.Proofs.YtmanflfanoddgabDoor
