/-
  The log's bytes on a disk that is on: what its parts hold, and what reading them gives (plain).
  A log on a disk whose parts hold it: through Append, Flush, Mark and Open it stays so (plain).
  A log on a disk whose parts hold it: Mark and Open (plain).
  Writes one behind the other and a Sync, on a disk in which the power may go off (plain).
  Behind a fall in a Flush an opening finds a prefix of the log's records, and all that were sure (plain).
-/
import Derived.Test.YtdifpbicdicggaaDoorPkLgAl6
set_option linter.unusedVariables false
set_option linter.unusedSimpArgs false

namespace Go.Proofs.YtdifpbicdicggaaDoor
open Go.RowKit

theorem rg_flW_bd (L : Lg) (T : Nat) (hT : L.tail.length ≤ T) : ∀ (f k : Nat) (D : Dk), Bd D → D.pen.length + ((T + 479) / 480 - k) < 900000 → D.ops + ((T + 479) / 480 - k) < 900000 →
    Bd (flW L f k D).2 ∧ (flW L f k D).2.pen.length ≤ D.pen.length + ((T + 479) / 480 - k) ∧ (flW L f k D).2.ops ≤ D.ops + ((T + 479) / 480 - k) ∧ (flW L f k D).2.dur.length = D.dur.length
  | 0, _, D, b, _, _ => ⟨b, by show D.pen.length ≤ _; omega, by show D.ops ≤ _; omega, rfl⟩
  | f + 1, k, D, b, hp, ho => by
    unfold flW
    split
    · exact ⟨b, by show D.pen.length ≤ _; omega, by show D.ops ≤ _; omega, rfl⟩
    · rename_i h1
      have hk : k < (T + 479) / 480 := by omega
      obtain ⟨b2, p2, o2, d2⟩ := wD_bd b (by omega) (by omega) (flS L k) (flP L k)
      split
      · exact ⟨b2, by show (wD D (flS L k) (flP L k)).pen.length ≤ _; omega, by show (wD D (flS L k) (flP L k)).ops ≤ _; omega, d2⟩
      · obtain ⟨b3, p3, o3, d3⟩ := rg_flW_bd L T hT f (k + 1) (wD D (flS L k) (flP L k)) b2 (by omega) (by omega)
        exact ⟨b3, by omega, by omega, by rw [d3, d2]⟩
theorem rg_flD_bd {D : Dk} {L : Lg} {T : Nat} (hT : L.tail.length ≤ T) (b : Bd D) (hp : D.pen.length + (T + 479) / 480 < 800000) (ho : D.ops + (T + 479) / 480 < 800000) :
    Bd (flD D L) ∧ (flD D L).pen.length ≤ D.pen.length + (T + 479) / 480 + 1 ∧ (flD D L).ops ≤ D.ops + (T + 479) / 480 + 1 ∧ (flD D L).dur.length = D.dur.length := by
  have h : Bd (flZ D L).2 ∧ (flZ D L).2.pen.length ≤ D.pen.length + ((T + 479) / 480 - 0) ∧ (flZ D L).2.ops ≤ D.ops + ((T + 479) / 480 - 0) ∧ (flZ D L).2.dur.length = D.dur.length := rg_flW_bd L T hT L.tail.length 0 D b (by omega) (by omega)
  unfold flD
  split
  · exact ⟨b, by omega, by omega, rfl⟩
  · split
    · exact ⟨b, by omega, by omega, rfl⟩
    · split
      · exact ⟨h.1, by omega, by omega, h.2.2.2⟩
      · obtain ⟨b3, p3, o3, d3⟩ := sD_bd h.1 (by omega)
        exact ⟨b3, by omega, by omega, by rw [d3, h.2.2.2]⟩
theorem rg_flL_hd (D : Dk) (L : Lg) : (flL D L).hd = L.hd ∧ (flL D L).at_ = L.at_ ∧ (flL D L).held = L.held ∧ (flL D L).tail.length ≤ L.tail.length ∧ (flL D L).sure ≤ L.sure + L.tail.length := by
  unfold flL
  split
  · refine ⟨rfl, rfl, rfl, ?_, ?_⟩
    · show (L.tail.drop _).length ≤ _
      rw [List.length_drop]; omega
    · show endOf L ≤ _
      unfold endOf
      have := flo_le L.sure
      omega
  · exact ⟨rfl, rfl, rfl, Nat.le_refl _, by omega⟩
theorem rg_flL_ok {D D' : Dk} {L : Lg} (ok : L.Ok D) (hs : L.sure + L.tail.length < 1152921504606846976) (hd : D'.dur.length = D.dur.length) : (flL D L).Ok D' := by
  obtain ⟨e1, e2, e3, e4, e5⟩ := rg_flL_hd D L
  exact ⟨by rw [e1]; exact ok.hd, by rw [e1]; exact ok.cn, by rw [e1, e2, hd]; exact ok.at_, by omega, by have := ok.tail; omega, by rw [e3]; exact ok.held⟩
section
variable {D : Dk} {L L2 : Lg} {n : Nat} {S H : List UInt8}
theorem rg_at_put (D : Dk) (hk : ∀ x ∈ D.pen, True) (i : Nat) (p : List UInt8) (j : Nat) (D' : Dk) (h1 : D'.dur = D.dur) (h2 : D'.pen = D.pen ++ [(i, p)]) : D'.at j = if j = i then p else D.at j := by
  have hl : lastP (D.pen ++ [(i, p)]) j = if j = i then D.pen.length + 1 else lastP D.pen j := by
    rw [lastP_snoc]
    by_cases e : j = i
    · rw [if_pos e, if_pos e.symm]
    · rw [if_neg e, if_neg (fun h => e h.symm)]
  unfold Dk.at
  rw [h1, h2, hl]
  by_cases e : j = i
  · rw [if_pos e, if_pos e, if_neg (by omega)]
    simp
  · rw [if_neg e, if_neg e]
    rcases lastP_at D.pen.length D.pen j rfl with h | ⟨s, h3, h4, h5⟩
    · rw [if_pos h, if_pos h]
    · rw [if_neg (by omega), if_neg (by omega)]
      simp only [List.getD_eq_getElem?_getD]
      rw [List.getElem?_append_left (by omega)]
theorem rg_at_wD (h : Awk D) (i : Nat) (p : List UInt8) (hi : i < D.dur.length) (hp : p.length = 512) (j : Nat) : (wD D (i : Int) p).at j = if j = i then p else D.at j := by
  obtain ⟨h1, h2⟩ := h
  refine rg_at_put D (fun _ _ => trivial) i p j _ ?_ ?_
  · unfold wD
    rw [if_neg (by omega), if_neg (by omega), if_neg (by rw [h1]; decide)]
    rfl
  · unfold wD
    rw [if_neg (by omega), if_neg (by omega), if_neg (by rw [h1]; decide), Int.toNat_natCast]
    rfl
theorem rg_durK_all (dur : List (List UInt8)) (pen : List (Nat × List UInt8)) (j : Nat) (hj : j < dur.length) : ∀ k, k ≤ pen.length → (durK (fun _ => true) dur pen k).getD j [] = if lastP (pen.take k) j = 0 then dur.getD j [] else (pen.getD (lastP (pen.take k) j - 1) (0, [])).2
  | 0, _ => by rw [durK_zero, List.take_zero, lastP_nil, if_pos rfl]
  | k + 1, hk => by
    have ih := rg_durK_all dur pen j hj k (by omega)
    have hx : pen[k]? = some pen[k] := List.getElem?_eq_getElem (by omega)
    rw [durK_succ _ _ _ _ _ hx, if_pos rfl, List.take_add_one, hx, Option.toList_some, lastP_snoc, List.length_take, Nat.min_eq_left (by omega)]
    by_cases e : pen[k].1 = j
    · rw [if_pos e, if_neg (by omega), Nat.add_sub_cancel, e]
      rw [List.getD_eq_getElem?_getD, List.getElem?_set_self (by rw [durK_len]; exact hj), List.getD_eq_getElem?_getD, hx]
      rfl
    · rw [if_neg e, ← ih, List.getD_eq_getElem?_getD, List.getElem?_set_ne e, ← List.getD_eq_getElem?_getD]
theorem rg_at_sD (h : Awk D) (j : Nat) (hj : j < D.dur.length) : (sD D).at j = D.at j := by
  obtain ⟨h1, h2⟩ := h
  unfold sD
  rw [if_neg (by rw [h1]; decide), if_neg (by omega)]
  show (if lastP [] j = 0 then (durK (fun _ => true) D.dur D.pen D.pen.length).getD j [] else _) = _
  rw [lastP_nil, if_pos rfl, rg_durK_all D.dur D.pen j hj _ (Nat.le_refl _), List.take_length]
  rfl
theorem rg_awk_sD (h : Awk D) : Awk (sD D) := by
  obtain ⟨h1, h2⟩ := h
  unfold sD
  rw [if_neg (by rw [h1]; decide), if_neg (by omega)]
  refine ⟨?_, ?_⟩
  · show (D.off || decide (D.arm = 1)) = false
    rw [h1, h2]; rfl
  · show D.arm - 1 = 0
    omega
theorem rg_sD_pen (h : Awk D) : (sD D).pen = [] := by
  obtain ⟨h1, h2⟩ := h
  unfold sD
  rw [if_neg (by rw [h1]; decide), if_neg (by omega)]
  rfl
theorem gE_on (hon : D.off = false) {i : Nat} (hi : i < D.dur.length) : gE D (i : Int) = 0 := by
  unfold gE
  rw [if_neg (by omega), if_neg (by rw [hon]; decide)]
theorem gB_on (hon : D.off = false) {i : Nat} (hi : i < D.dur.length) : gB D (i : Int) = D.at i := by
  unfold gB
  rw [if_neg (by omega), if_neg (by rw [hon]; decide), Int.toNat_natCast]
/-- What a part's sector reads as. -/
theorem ptAt_seal (hon : D.off = false) {i : Nat} (hi : i < D.dur.length) (num ep : Nat) (p : List UInt8) (hb : D.at i = sealB 2 (ptNs num ep p.length) p) (hp : p.length ≤ 480) (h1 : num < 18446744073709551616) (h2 : ep < 18446744073709551616) :
    ptIs D (i : Int) = true ∧ ptAt D (i : Int) = ⟨(num : Int), (ep : Int), (p.length : Int), p⟩ := by
  have hl : (ptNs num ep p.length).length ≤ 6 := by simp [ptNs]
  have h3 : ptIs D (i : Int) = true := by
    unfold ptIs
    rw [gE_on hon hi, gB_on hon hi, hb, unsE_seal hl hp]
    rfl
  refine ⟨h3, ?_⟩
  unfold ptAt
  rw [if_pos h3, gB_on hon hi, hb]
  have n0 := numAt_seal (kind := 2) hl hp 0 (num : Int) rfl (by omega) (.inr (by decide))
  have n1 := numAt_seal (kind := 2) hl hp 1 (ep : Int) rfl (by omega) (.inr (by decide))
  have n2 := numAt_seal (kind := 2) hl hp 2 (p.length : Int) rfl (by omega) (.inr (by decide))
  have hle : ptLen (sealB 2 (ptNs num ep p.length) p) = p.length := by
    unfold ptLen
    rw [n2]
    omega
  unfold ptOf
  rw [n0, n1, n2, hle, tail_seal hl hp]
/-- The j-th part is there, with that epoch and these bytes. -/
structure Prt (D : Dk) (L : Lg) (j e : Nat) (p : List UInt8) : Prop where
  there : ptThere D L (480 * j) = true
  ep : (ptAt D (secOf L (480 * j))).ep = (e : Int)
  by_ : (ptAt D (secOf L (480 * j))).by_ = p
theorem sec_part (L : Lg) (j : Nat) : secOf L (480 * j) = L.at_ + 1 + j % L.hd.cn := by
  unfold secOf
  rw [show 480 * j / 480 = j by omega]
theorem Prt.of_seal (hon : D.off = false) {j e : Nat} {p : List UInt8} (hi : secOf L (480 * j) < D.dur.length) (hb : D.at (secOf L (480 * j)) = sealB 2 (ptNs j e p.length) p) (hp : p.length ≤ 480) (h1 : j < 18446744073709551616) (h2 : e < 18446744073709551616) : Prt D L j e p := by
  obtain ⟨a, b⟩ := ptAt_seal hon hi j e p hb hp h1 h2
  refine ⟨?_, by rw [b], by rw [b]⟩
  unfold ptThere
  rw [a, b]
  simp
/-- The epoch below which a part is none, where it is read behind the others. -/
def thr (L : Lg) (ep : Nat → Nat) (j : Nat) : Nat := if L.hd.fi / 480 < j then ep (j - 1) else L.hd.old
/-- The bytes S stand on the parts, from the first needed one on; what stands behind them is of an earlier epoch, or empty. -/
structure Dur (D : Dk) (L : Lg) (S : List UInt8) (ep : Nat → Nat) : Prop where
  part : ∀ j, L.hd.fi / 480 ≤ j → 480 * j < S.length → Prt D L j (ep j) ((S.drop (480 * j)).take 480)
  mono : ∀ j k, j ≤ k → ep j ≤ ep k
  old : ∀ j, L.hd.old ≤ ep j ∧ ep j ≤ L.hd.ep
  last : ¬ S.length % 480 = 0 → ep (S.length / 480) = L.hd.ep
  stale : ∀ j, S.length ≤ 480 * j → ptThere D L (480 * j) = true → (ptAt D (secOf L (480 * j))).ep < (L.hd.ep : Int) ∨ ((ptAt D (secOf L (480 * j))).ep = (L.hd.ep : Int) ∧ 480 * j = S.length ∧ (ptAt D (secOf L (480 * j))).by_ = [])
  stop : ∀ j, 480 * j = S.length → ptThere D L (480 * j) = true → (ptAt D (secOf L (480 * j))).by_ = [] ∨ (ptAt D (secOf L (480 * j))).ep < (thr L ep j : Int)
/-- Reading through whole parts. -/
theorem thP_full {ep : Nat → Nat} {a T : Nat} (hp : ∀ j, a ≤ j → j < T → Prt D L j (ep j) ((S.drop (480 * j)).take 480)) (hm : ∀ j k, j ≤ k → ep j ≤ ep k) (hT : 480 * T ≤ S.length) : ∀ (d j f : Nat) (e : Int), a ≤ j → T = j + d → d ≤ f → (d = 0 ∨ e ≤ (ep j : Int)) →
    thP D L f (480 * j) e = (S.drop (480 * j)).take (480 * d) ++ thP D L (f - d) (480 * T) (if d = 0 then e else (ep (T - 1) : Int))
  | 0, j, f, e, _, h2, _, _ => by
    obtain rfl : T = j := by omega
    rw [if_pos rfl, Nat.mul_zero, List.take_zero, Nat.sub_zero]
    rfl
  | d + 1, j, f, e, h1, h2, h3, h4 => by
    obtain ⟨f, rfl⟩ : ∃ g, f = g + 1 := ⟨f - 1, by omega⟩
    have hj := hp j h1 (by omega)
    have he : e ≤ (ep j : Int) := by
      rcases h4 with h | h
      · omega
      · exact h
    have hl : ((S.drop (480 * j)).take 480).length = 480 := by rw [List.length_take, List.length_drop]; omega
    have ih := thP_full hp hm hT d (j + 1) f (ep j : Int) (by omega) (by omega) (by omega) (.inr (by have := hm j (j + 1) (by omega); omega))
    have hee : (if d = 0 then (ep j : Int) else (ep (T - 1) : Int)) = (ep (T - 1) : Int) := by
      split
      · rw [show T - 1 = j by omega]
      · rfl
    rw [hee] at ih
    have hst : thP D L (f + 1) (480 * j) e = (S.drop (480 * j)).take 480 ++ thP D L f (480 * j + 480) (ep j : Int) := by
      show (if ptThere D L (480 * j) = true ∧ ¬ (ptAt D (secOf L (480 * j))).ep < e then (if (ptAt D (secOf L (480 * j))).by_.length < 480 then (ptAt D (secOf L (480 * j))).by_ else (ptAt D (secOf L (480 * j))).by_ ++ thP D L f (480 * j + 480) (ptAt D (secOf L (480 * j))).ep) else []) = _
      rw [hj.there, hj.ep, hj.by_, if_pos ⟨rfl, by omega⟩, hl, if_neg (by omega)]
    rw [hst, show 480 * j + 480 = 480 * (j + 1) by omega, ih, if_neg (by omega), show f + 1 - (d + 1) = f - d by omega, ← List.append_assoc]
    congr 1
    rw [show 480 * (j + 1) = 480 * j + 480 by omega, ← List.drop_drop, show 480 * (d + 1) = 480 + 480 * d by omega, List.take_add]
/-! ### records one behind the other -/
def frm (p : List UInt8) : List UInt8 := be2 p.length ++ p
def recsB (rs : List (List UInt8)) : List UInt8 := (rs.map frm).flatten
def RecOk (p : List UInt8) : Prop := 0 < p.length ∧ p.length ≤ 1200
theorem frm_len (p : List UInt8) : (frm p).length = 2 + p.length := by unfold frm; rw [List.length_append, be2_length]
theorem recsB_nil : recsB [] = [] := rfl
theorem recsB_cons (p : List UInt8) (rs : List (List UInt8)) : recsB (p :: rs) = frm p ++ recsB rs := by simp [recsB]
theorem recsB_app (a b : List (List UInt8)) : recsB (a ++ b) = recsB a ++ recsB b := by simp [recsB]
theorem be2_get (m : Nat) (h : m ≤ 1200) (x : List UInt8) : szOf (be2 m ++ x) = m := by
  have e : be2 m = [b8 ((m : Int) / 256 % 256), b8 ((m : Int) % 256)] := rfl
  have h0 : (b8 ((m : Int) / 256 % 256)).toNat = m / 256 := by
    unfold b8
    rw [UInt8.toNat_ofNat']
    omega
  have h1 : (b8 ((m : Int) % 256)).toNat = m % 256 := by
    unfold b8
    rw [UInt8.toNat_ofNat']
    omega
  unfold szOf
  rw [e]
  show (if (b8 ((m : Int) / 256 % 256)).toNat * 256 + (b8 ((m : Int) % 256)).toNat > 1200 then 0 else (b8 ((m : Int) / 256 % 256)).toNat * 256 + (b8 ((m : Int) % 256)).toNat) = m
  rw [h0, h1, if_neg (by omega)]
  omega
theorem whSz_frm (p x : List UInt8) (h : RecOk p) : whSz (frm p ++ x) = 2 + p.length := by
  have hz : szOf (frm p ++ x) = p.length := by unfold frm; rw [List.append_assoc]; exact be2_get _ h.2 _
  obtain ⟨h1, h2⟩ := h
  unfold whSz
  rw [hz, List.length_append, frm_len, if_neg (by omega), if_neg (by omega)]
theorem runN_recs : ∀ (rs : List (List UInt8)) (pre : List UInt8) (f : Nat), (∀ p ∈ rs, RecOk p) → rs.length ≤ f → runN (pre ++ recsB rs) f pre.length = pre.length + (recsB rs).length
  | [], pre, f, _, _ => by
    rw [recsB_nil, List.append_nil]
    cases f with
    | zero => rfl
    | succ f =>
      unfold runN
      rw [List.drop_length, if_pos (by rfl)]
      rfl
  | p :: rs, pre, f, h, hf => by
    cases f with
    | zero => simp at hf
    | succ f =>
      have hp := h p (by simp)
      have e1 : (pre ++ recsB (p :: rs)).drop pre.length = frm p ++ recsB rs := by rw [List.drop_left, recsB_cons]
      unfold runN
      rw [e1, whSz_frm p _ hp, if_neg (by omega)]
      have ih := runN_recs rs (pre ++ frm p) f (fun q hq => h q (by simp [hq])) (by simpa using hf)
      rw [List.append_assoc, List.length_append, frm_len, ← recsB_cons] at ih
      rw [ih, recsB_cons, List.length_append, frm_len]
      omega
theorem runN_recsJ (J : List UInt8) (hJ : whSz J = 0) : ∀ (rs : List (List UInt8)) (pre : List UInt8) (f : Nat), (∀ p ∈ rs, RecOk p) → rs.length ≤ f → runN (pre ++ (recsB rs ++ J)) f pre.length = pre.length + (recsB rs).length
  | [], pre, f, _, _ => by
    rw [recsB_nil, List.nil_append]
    cases f with
    | zero => rfl
    | succ f =>
      unfold runN
      rw [List.drop_left, if_pos hJ]
      rfl
  | p :: rs, pre, f, h, hf => by
    cases f with
    | zero => simp at hf
    | succ f =>
      have hp := h p (by simp)
      have e1 : (pre ++ (recsB (p :: rs) ++ J)).drop pre.length = frm p ++ (recsB rs ++ J) := by rw [List.drop_left, recsB_cons, List.append_assoc]
      unfold runN
      rw [e1, whSz_frm p _ hp, if_neg (by omega)]
      have ih := runN_recsJ J hJ rs (pre ++ frm p) f (fun q hq => h q (by simp [hq])) (by simpa using hf)
      rw [List.append_assoc, List.length_append, frm_len, ← List.append_assoc (frm p), ← recsB_cons] at ih
      rw [ih, recsB_cons, List.length_append, frm_len]
      omega
/-- So many bytes of records: those that are whole, and what is none. -/
theorem recs_cut : ∀ (rs : List (List UInt8)) (y : Nat), (∀ p ∈ rs, RecOk p) → y ≤ (recsB rs).length → ∃ pre post, rs = pre ++ post ∧ (recsB pre).length ≤ y ∧ whSz ((recsB post).take (y - (recsB pre).length)) = 0
  | [], y, _, hy => ⟨[], [], rfl, Nat.zero_le _, by rw [recsB_nil, List.take_nil]; rfl⟩
  | p :: rs, y, h, hy => by
    have hp := h p (by simp)
    rw [recsB_cons, List.length_append, frm_len] at hy
    by_cases hl : y < 2 + p.length
    · refine ⟨[], p :: rs, rfl, Nat.zero_le _, ?_⟩
      rw [recsB_nil, recsB_cons]
      show whSz ((frm p ++ recsB rs).take y) = 0
      rw [List.take_append_of_le_length (by rw [frm_len]; omega)]
      unfold whSz
      by_cases h2 : y < 2
      · rw [if_pos (by rw [List.length_take, frm_len]; omega)]
      · rw [if_neg (by rw [List.length_take, frm_len]; omega)]
        have hz : szOf ((frm p).take y) = p.length := by
          unfold frm
          obtain ⟨k, rfl⟩ : ∃ k, y = 2 + k := ⟨y - 2, by omega⟩
          have e : (be2 p.length ++ p).take (2 + k) = be2 p.length ++ p.take k := by
            rw [List.take_append, be2_length, List.take_of_length_le (by rw [be2_length]; omega), Nat.add_sub_cancel_left]
          rw [e]
          exact be2_get _ hp.2 _
        rw [hz, if_pos (.inr (by rw [List.length_take, frm_len]; omega))]
    · obtain ⟨pre, post, e1, e2, e3⟩ := recs_cut rs (y - (2 + p.length)) (fun q hq => h q (by simp [hq])) (by omega)
      refine ⟨p :: pre, post, by rw [e1]; rfl, by rw [recsB_cons, List.length_append, frm_len]; omega, ?_⟩
      rw [recsB_cons, List.length_append, frm_len, show y - (2 + p.length + (recsB pre).length) = y - (2 + p.length) - (recsB pre).length by omega]
      exact e3
/-! ### reading -/
/-- Bytes of any place, if they are there. -/
theorem byR_is {ep : Nat → Nat} (hon : D.off = false) (h : Dur D L (H.take L.sure) ep) (hs : L.sure ≤ H.length) (ht : L.tail = H.drop (flo L.sure)) : ∀ (f a m : Nat), m ≤ f → L.hd.fi ≤ a → a + m ≤ H.length → byR D L f a m = (0, (H.drop a).take m)
  | 0, a, m, hf, _, _ => by
    obtain rfl : m = 0 := by omega
    rfl
  | f + 1, a, m, hf, hfi, ha => by
    unfold byR
    by_cases hm : m = 0
    · subst hm
      rw [if_pos rfl]
      rfl
    · rw [if_neg hm]
      have hfl := flo_le L.sure
      have hr : rsE D L a = 0 ∧ ∃ q, 0 < q ∧ rsB D L a = (H.drop a).take q := by
        unfold rsE rsB
        by_cases hin : flo L.sure ≤ a
        · rw [if_pos hin, if_pos hin]
          refine ⟨rfl, H.length, by omega, ?_⟩
          rw [ht, List.drop_drop, show flo L.sure + (a - flo L.sure) = a by omega, List.take_of_length_le (by rw [List.length_drop]; omega)]
        · have hj : 480 * (a / 480) + 480 ≤ L.sure := by unfold flo at hin; omega
          have hlen : (H.take L.sure).length = L.sure := by rw [List.length_take]; omega
          have hp := h.part (a / 480) (Nat.div_le_div_right hfi) (by rw [hlen]; omega)
          have hsec : secOf L (480 * (a / 480)) = secOf L a := by unfold secOf; rw [show 480 * (a / 480) / 480 = a / 480 by omega]
          have hth : ptThere D L a = true := by
            have k := hp.there
            unfold ptThere at k ⊢
            rw [hsec, show 480 * (a / 480) / 480 = a / 480 by omega] at k
            exact k
          have hby := hp.by_
          rw [hsec] at hby
          have hbl : (ptAt D (secOf L a)).by_.length = 480 := by rw [hby, List.length_take, List.length_drop, hlen]; omega
          rw [if_neg hin, if_neg hin, hon, if_neg Bool.false_ne_true, if_neg Bool.false_ne_true, if_pos ⟨hth, by omega⟩, if_pos ⟨hth, by omega⟩]
          refine ⟨rfl, 480 - a % 480, by omega, ?_⟩
          rw [hby]
          apply List.ext_getElem?
          intro i
          rw [List.getElem?_drop, List.getElem?_take, List.getElem?_take, List.getElem?_drop, List.getElem?_take, List.getElem?_drop, show 480 * (a / 480) + (a % 480 + i) = a + i by omega]
          by_cases hi : i < 480 - a % 480
          · rw [if_pos (by omega), if_pos (by omega), if_pos hi]
          · rw [if_neg (by omega), if_neg hi]
      obtain ⟨r0, q, hq, hrb⟩ := hr
      rw [r0, if_neg (by decide), hrb, List.take_take]
      have hl : ((H.drop a).take (min m q)).length = min m q := by rw [List.length_take, List.length_drop]; omega
      rw [hl, byR_is hon h hs ht f (a + min m q) (m - min m q) (by omega) (by omega) (by omega)]
      have e : (H.drop a).take m = (H.drop a).take (min m q) ++ (H.drop (a + min m q)).take (m - min m q) := by
        rw [← List.drop_drop, ← List.take_add, show min m q + (m - min m q) = m by omega]
      rw [e]
theorem byE_is {ep : Nat → Nat} (hon : D.off = false) (h : Dur D L (H.take L.sure) ep) (hs : L.sure ≤ H.length) (ht : L.tail = H.drop (flo L.sure)) (a m : Nat) (hfi : L.hd.fi ≤ a) (ha : a + m ≤ H.length) : byE D L a m = 0 ∧ byB D L a m = (H.drop a).take m := by
  have k := byR_is hon h hs ht m a m (Nat.le_refl _) hfi ha
  have k1 : byE D L a m = 0 := by unfold byE; rw [k]
  refine ⟨k1, ?_⟩
  unfold byB
  rw [if_pos k1, k]
/-- The first record from a place on, where one begins. -/
theorem ffR_is {ep : Nat → Nat} (hon : D.off = false) (h : Dur D L (H.take L.sure) ep) (hs : L.sure ≤ H.length) (ht : L.tail = H.drop (flo L.sure)) (he : endOf L = H.length) : ∀ (rs more : List (List UInt8)) (a f : Nat), (∀ p ∈ rs, RecOk p) → L.hd.fi ≤ a → H.drop a = recsB (rs ++ more) → rs.length < f → ffR D L (a + (recsB rs).length) f a = (0, a + (recsB rs).length)
  | [], more, a, f, _, _, _, hf => by
    cases f with
    | zero => simp at hf
    | succ f =>
      unfold ffR
      rw [recsB_nil, if_pos (by simp)]
      rfl
  | p :: rs, more, a, f, hr, hfi, hH, hf => by
    cases f with
    | zero => simp at hf
    | succ f =>
      have hp := hr p (by simp)
      have hH2 : H.drop a = frm p ++ recsB (rs ++ more) := by rw [hH, List.cons_append, recsB_cons]
      have hlen : H.length - a = 2 + p.length + (recsB (rs ++ more)).length := by rw [← List.length_drop, hH2, List.length_append, frm_len]
      have hb := byE_is hon h hs ht a 2 hfi (by omega)
      have h2 : by2E D L a = 0 := by unfold by2E; rw [he, if_pos (by omega)]; exact hb.1
      have h3 : szOf (by2B D L a) = p.length := by
        unfold by2B
        rw [he, if_pos (by omega), hb.2, hH2]
        unfold frm
        rw [List.append_assoc, show (be2 p.length ++ (p ++ recsB (rs ++ more))).take 2 = be2 p.length ++ [] by rw [List.append_nil]; exact List.take_left' (be2_length _)]
        exact be2_get _ hp.2 _
      unfold ffR
      rw [recsB_cons, List.length_append, frm_len, if_neg (by omega), h2, if_neg (by decide), h3]
      have ih := ffR_is hon h hs ht he rs more (a + (2 + p.length)) f (fun q hq => hr q (by simp [hq])) (by omega) (by
        rw [← List.drop_drop, hH2]
        exact List.drop_left' (frm_len p)) (by simpa using hf)
      rw [show a + (2 + p.length + (recsB rs).length) = a + (2 + p.length) + (recsB rs).length by omega]
      exact ih
end
end Go.Proofs.YtdifpbicdicggaaDoor
namespace Go.Proofs.YtdifpbicdicggaaDoor
open Go.RowKit

/-- All is right with a log whose bytes are H, from place 0 on. -/
structure Rg (D : Dk) (L : Lg) (H : List UInt8) : Prop where
  awk : Awk D
  pen : D.pen = []
  bd : Bd D
  hd : L.hd.Ok
  cn : 4 ≤ L.hd.cn ∧ L.hd.cn ≤ 4096
  at_ : L.at_ + 1 + L.hd.cn ≤ D.dur.length
  tail : L.tail = H.drop (flo L.sure)
  sure : L.sure ≤ H.length
  st : 480 ≤ L.hd.st ∧ L.hd.st ≤ L.hd.fi ∧ L.hd.fi ≤ L.sure
  fs : L.hd.fi = L.hd.st
  ck : L.hd.ck ≤ L.sure
  held : L.held = 0
  ring : H.length ≤ (L.hd.st / 480 + L.hd.cn) * 480
  big : H.length < 1000000000000
  epo : L.hd.ep < 1000000000000
  head : D.at L.at_ = sealB 1 L.hd.ns []
  dur : ∃ ep, Dur D L (H.take L.sure) ep
section
variable {D D2 : Dk} {L L2 : Lg} {H S : List UInt8} {ep : Nat → Nat} {n : Nat}
theorem Rg.end_ (h : Rg D L H) : endOf L = H.length := by
  have h1 := h.sure
  have h2 := flo_le L.sure
  unfold endOf
  rw [h.tail, List.length_drop]
  omega
theorem Rg.tail_len (h : Rg D L H) : L.tail.length ≤ 480 * L.hd.cn := by
  have h1 := h.ring
  have h2 := h.st
  rw [h.tail, List.length_drop]
  unfold flo
  omega
theorem Rg.ok (h : Rg D L H) : L.Ok D := ⟨h.hd, h.cn, h.at_, by have := h.sure; have := h.big; omega, by have := h.tail_len; have := h.cn; omega, by rw [h.held]; decide⟩
theorem Rg.on (h : Rg D L H) : D.off = false := h.awk.1
theorem Rg.sec (h : Rg D L H) (a : Nat) : secOf L a < D.dur.length ∧ secOf L a ≠ L.at_ := by
  have h1 := Nat.mod_lt (a / 480) (show 0 < L.hd.cn by have := h.cn; omega)
  have h2 := h.at_
  unfold secOf
  omega
theorem sec_ne {cn a b : Nat} (h : a < b) (h2 : b < a + cn) : a % cn ≠ b % cn := fun e => by
  have h3 := Nat.div_add_mod a cn
  have h4 := Nat.div_add_mod b cn
  rw [← e] at h4
  rcases Nat.lt_or_ge (a / cn) (b / cn) with h5 | h5
  · have h6 := Nat.mul_le_mul_left cn (show a / cn + 1 ≤ b / cn from h5)
    rw [Nat.mul_add, Nat.mul_one] at h6
    omega
  · have h6 := Nat.mul_le_mul_left cn h5
    omega
theorem sec_far {L : Lg} {a b : Nat} (h : a ≠ b) (h1 : a < b + L.hd.cn) (h2 : b < a + L.hd.cn) : secOf L (480 * a) ≠ secOf L (480 * b) := by
  rw [sec_part, sec_part]
  rcases Nat.lt_or_gt_of_ne h with h3 | h3
  · have := sec_ne h3 h2
    omega
  · have := sec_ne h3 h1
    omega
theorem ptAt_same (hon : D.off = false) (hon2 : D2.off = false) (hl : D2.dur.length = D.dur.length) {s : Nat} (hs : s < D.dur.length) (h : D2.at s = D.at s) : ptIs D2 (s : Int) = ptIs D (s : Int) ∧ ptAt D2 (s : Int) = ptAt D (s : Int) := by
  have e1 : ptIs D2 (s : Int) = ptIs D (s : Int) := by
    unfold ptIs
    rw [gE_on hon hs, gE_on hon2 (by rw [hl]; exact hs), gB_on hon hs, gB_on hon2 (by rw [hl]; exact hs), h]
  refine ⟨e1, ?_⟩
  unfold ptAt
  rw [e1, gB_on hon hs, gB_on hon2 (by rw [hl]; exact hs), h]
theorem sec_log (h1 : L2.at_ = L.at_) (h2 : L2.hd.cn = L.hd.cn) (a : Nat) : secOf L2 a = secOf L a := by unfold secOf; rw [h1, h2]
theorem there_same (hon : D.off = false) (hon2 : D2.off = false) (hl : D2.dur.length = D.dur.length) (h1 : L2.at_ = L.at_) (h2 : L2.hd.cn = L.hd.cn) {a : Nat} (hs : secOf L a < D.dur.length) (h : D2.at (secOf L a) = D.at (secOf L a)) : ptThere D2 L2 a = ptThere D L a ∧ ptAt D2 (secOf L2 a) = ptAt D (secOf L a) := by
  obtain ⟨e1, e2⟩ := ptAt_same hon hon2 hl hs h
  rw [sec_log h1 h2]
  refine ⟨?_, e2⟩
  unfold ptThere
  rw [sec_log h1 h2, e1, e2]
theorem Prt.same {j e : Nat} {p : List UInt8} (hp : Prt D L j e p) (hon : D.off = false) (hon2 : D2.off = false) (hl : D2.dur.length = D.dur.length) (h1 : L2.at_ = L.at_) (h2 : L2.hd.cn = L.hd.cn) (hs : secOf L (480 * j) < D.dur.length) (h : D2.at (secOf L (480 * j)) = D.at (secOf L (480 * j))) : Prt D2 L2 j e p := by
  obtain ⟨e1, e2⟩ := there_same hon hon2 hl h1 h2 hs h
  exact ⟨by rw [e1]; exact hp.there, by rw [e2]; exact hp.ep, by rw [e2]; exact hp.by_⟩
theorem thr_log {ep : Nat → Nat} (h3 : L2.hd.fi = L.hd.fi) (h4 : L2.hd.old = L.hd.old) (j : Nat) : thr L2 ep j = thr L ep j := by unfold thr; rw [h3, h4]
/-- The parts stay where their sectors do. -/
theorem Dur.same (h : Dur D L S ep) (hon : D.off = false) (hon2 : D2.off = false) (hl : D2.dur.length = D.dur.length) (h1 : L2.at_ = L.at_) (h2 : L2.hd.cn = L.hd.cn) (h3 : L2.hd.fi = L.hd.fi) (h4 : L2.hd.old = L.hd.old) (h5 : L2.hd.ep = L.hd.ep) (hs : ∀ a, secOf L a < D.dur.length) (hd : ∀ a, D2.at (secOf L a) = D.at (secOf L a)) : Dur D2 L2 S ep := by
  refine ⟨fun j k1 k2 => (h.part j (by rw [← h3]; exact k1) k2).same hon hon2 hl h1 h2 (hs _) (hd _), h.mono, fun j => by rw [h4, h5]; exact h.old j, fun k => by rw [h5]; exact h.last k, fun j k1 k2 => ?_, fun j k1 k2 => ?_⟩
  · obtain ⟨e1, e2⟩ := there_same hon hon2 hl h1 h2 (hs (480 * j)) (hd _)
    rw [e1] at k2
    rw [e2, h5]
    exact h.stale j k1 k2
  · obtain ⟨e1, e2⟩ := there_same hon hon2 hl h1 h2 (hs (480 * j)) (hd _)
    rw [e1] at k2
    rw [e2, thr_log h3 h4]
    exact h.stop j k1 k2
/-! ### Append -/
theorem Rg.room (h : Rg D L H) : roomOf L = (((L.hd.st / 480 + L.hd.cn) * 480 : Nat) : Int) - (H.length : Int) := by
  unfold roomOf
  rw [h.end_, h.held]
  omega
theorem Rg.app (h : Rg D L H) (p : List UInt8) (hp : RecOk p) (hr : H.length + 2 + p.length ≤ (L.hd.st / 480 + L.hd.cn) * 480) (hb : H.length + 2 + p.length < 1000000000000) :
    apE L p.length 0 = 0 ∧ Rg D (apL L p 0) (H ++ frm p) ∧ (apL L p 0).hd = L.hd ∧ (apL L p 0).sure = L.sure ∧ (apL L p 0).at_ = L.at_ := by
  have hE : apE L p.length 0 = 0 := by
    unfold apE
    have h1 := hp.1
    have h2 := hp.2
    rw [h.room, if_neg (by omega), if_neg (by omega), if_neg (by omega)]
  have hL : apL L p 0 = addL (heldL L 0) p := by unfold apL; rw [hE, if_pos rfl]
  rw [hL]
  have hsu := h.sure
  have hlen : (H ++ frm p).length = H.length + 2 + p.length := by rw [List.length_append, frm_len]; omega
  refine ⟨hE, ⟨h.awk, h.pen, h.bd, h.hd, h.cn, h.at_, ?_, ?_, h.st, h.fs, h.ck, h.held, ?_, ?_, h.epo, h.head, ?_⟩, rfl, rfl, rfl⟩
  · show (L.tail ++ be2 p.length) ++ p = (H ++ frm p).drop (flo L.sure)
    rw [List.drop_append_of_le_length (Nat.le_trans (flo_le _) hsu), h.tail, List.append_assoc]
    rfl
  · show L.sure ≤ _
    omega
  · show _ ≤ (L.hd.st / 480 + L.hd.cn) * 480
    omega
  · omega
  · obtain ⟨ep, hd⟩ := h.dur
    refine ⟨ep, ?_⟩
    show Dur D (addL (heldL L 0) p) ((H ++ frm p).take L.sure) ep
    rw [List.take_append_of_le_length hsu]
    exact hd.same h.on h.on rfl rfl rfl rfl rfl rfl (fun a => (h.sec a).1) (fun a => rfl)
/-! ### Flush -/
theorem flA_part (L : Lg) (i : Nat) : flA L i = 480 * (L.sure / 480 + i) := by unfold flA flo; omega
theorem flP_len (L : Lg) (i : Nat) : (flP L i).length = 512 := by
  unfold flP partB
  exact sealB_length (by simp [ptNs]) (by rw [List.length_take]; omega)
/-- What the sectors hold behind the writes. -/
theorem flW_read (L : Lg) (hc : L.at_ + 1 + L.hd.cn ≤ n) (h0 : 0 < L.hd.cn) (ht : L.tail.length ≤ 480 * L.hd.cn) : ∀ (f k : Nat) (D : Dk), Awk D → D.dur.length = n → L.tail.length ≤ 480 * (k + f) →
    (∀ i, k ≤ i → 480 * i < L.tail.length → (flW L f k D).2.at (secOf L (flA L i)) = flP L i) ∧ (∀ s, (∀ i, k ≤ i → 480 * i < L.tail.length → secOf L (flA L i) ≠ s) → (flW L f k D).2.at s = D.at s)
  | 0, k, D, _, _, hf => ⟨fun i h1 h2 => absurd h2 (by omega), fun s _ => rfl⟩
  | f + 1, k, D, h, hd, hf => by
    unfold flW
    split
    · rename_i hk
      exact ⟨fun i h1 h2 => absurd h2 (by omega), fun s _ => rfl⟩
    · rename_i hk
      have hlt : secOf L (flA L k) < D.dur.length := by
        have := Nat.mod_lt (flA L k / 480) h0
        unfold secOf
        omega
      have hw := awk_write h (secOf L (flA L k)) (flP L k) hlt (flP_len L k)
      have e1 : wE D (flS L k) (flP L k) = 0 := hw.1
      rw [e1, if_neg (by decide)]
      obtain ⟨a1, a2⟩ := flW_read L hc h0 ht f (k + 1) (wD D (flS L k) (flP L k)) hw.2.1 (by rw [← hd]; exact hw.2.2) (by omega)
      have hat := fun j => rg_at_wD h (secOf L (flA L k)) (flP L k) hlt (flP_len L k) j
      refine ⟨fun i h1 h2 => ?_, fun s hs => ?_⟩
      · rcases Nat.lt_or_ge k i with h3 | h3
        · exact a1 i h3 h2
        · obtain rfl : i = k := by omega
          rw [a2 (secOf L (flA L i)) (fun i2 h4 h5 => by
            rw [flA_part, flA_part]
            exact sec_far (by omega) (by omega) (by omega))]
          have h6 := hat (secOf L (flA L i))
          rw [if_pos rfl] at h6
          exact h6
      · rw [a2 s (fun i h1 h2 => hs i (by omega) h2)]
        have h6 := hat s
        rw [if_neg (fun e => hs k (Nat.le_refl _) (by omega) e.symm)] at h6
        exact h6
theorem Rg.flush (h : Rg D L H) (ho : D.ops < 400000) : flE D L = 0 ∧ Rg (flD D L) (flL D L) H ∧ (flL D L).sure = H.length ∧ (flL D L).hd = L.hd ∧ (flL D L).at_ = L.at_ ∧ (flD D L).ops ≤ D.ops + (L.tail.length + 479) / 480 + 1 ∧ (flD D L).dur.length = D.dur.length := by
  have hc0 : 0 < L.hd.cn := by have := h.cn; omega
  have htl := h.tail_len
  have hcn := h.cn
  have hz := awk_flW L h.at_ hc0 L.tail.length 0 D h.awk rfl
  have hz1 : (flZ D L).1 = 0 := hz.1
  have hz2 : Awk (flZ D L).2 := hz.2.1
  have hz3 : (flZ D L).2.dur.length = D.dur.length := hz.2.2
  obtain ⟨b1, b2, b3, b4⟩ := rg_flD_bd (D := D) (L := L) (T := L.tail.length) (Nat.le_refl _) h.bd (by rw [h.pen]; show 0 + _ < _; omega) (by omega)
  have hE : flE D L = 0 := by
    unfold flE
    rw [if_neg (by rw [h.on]; decide)]
    split
    · rfl
    · rw [hz1, if_neg (by decide)]
      exact awk_sync hz2
  by_cases hs : L.sure = endOf L
  · have e1 : flD D L = D := by unfold flD; rw [if_neg (by rw [h.on]; decide), if_pos hs]
    have e2 : flL D L = L := by unfold flL; rw [if_neg (fun hh => hh.2 hs)]
    rw [e1] at b3
    rw [e1, e2]
    exact ⟨hE, h, by rw [hs, h.end_], rfl, rfl, b3, rfl⟩
  · have e1 : flD D L = sD (flZ D L).2 := by unfold flD; rw [if_neg (by rw [h.on]; decide), if_neg hs, hz1, if_neg (by decide)]
    have e2 : flL D L = sureL L := by unfold flL; rw [if_pos ⟨hE, hs⟩]
    rw [e1] at b1 b2 b3 b4
    rw [e1, e2]
    have hsl : H.length = endOf L := h.end_.symm
    have hsu := h.sure
    have hri := h.ring
    have hst := h.st
    have hne : L.sure < H.length := by omega
    have hawk := rg_awk_sD hz2
    have hlt : L.tail.length = H.length - flo L.sure := by rw [h.tail, List.length_drop]
    obtain ⟨r1, r2⟩ := flW_read L h.at_ hc0 htl L.tail.length 0 D h.awk rfl (by omega)
    have hat : ∀ s, s < D.dur.length → (sD (flZ D L).2).at s = (flZ D L).2.at s := fun s hs => rg_at_sD hz2 s (by rw [hz3]; exact hs)
    have hold : ∀ s, s < D.dur.length → (∀ i, 480 * i < L.tail.length → secOf L (flA L i) ≠ s) → (sD (flZ D L).2).at s = D.at s := fun s h1 h2 => by
      rw [hat s h1]
      exact r2 s (fun i _ h3 => h2 i h3)
    have hnew : ∀ i, 480 * i < L.tail.length → (sD (flZ D L).2).at (secOf L (flA L i)) = flP L i := fun i h1 => by
      rw [hat _ (h.sec _).1]
      exact r1 i (Nat.zero_le _) h1
    obtain ⟨ep, hd⟩ := h.dur
    have htk : (H.take L.sure).length = L.sure := by rw [List.length_take]; omega
    have hfl : flo L.sure = 480 * (L.sure / 480) := by unfold flo; omega
    refine ⟨hE, ⟨hawk, rg_sD_pen hz2, b1, h.hd, h.cn, by rw [b4]; exact h.at_, ?_, ?_, ?_, h.fs, ?_, h.held, h.ring, h.big, h.epo, ?_, ?_⟩, by show endOf L = _; omega, rfl, rfl, b3, b4⟩
    · show L.tail.drop (flo L.tail.length) = H.drop (flo (endOf L))
      rw [h.tail, List.drop_drop, List.length_drop, ← hsl]
      congr 1
      unfold flo
      omega
    · show endOf L ≤ _
      omega
    · show 480 ≤ L.hd.st ∧ L.hd.st ≤ L.hd.fi ∧ L.hd.fi ≤ endOf L
      omega
    · show L.hd.ck ≤ endOf L
      have := h.ck
      omega
    · show (sD (flZ D L).2).at L.at_ = sealB 1 L.hd.ns []
      rw [hold L.at_ (by have := h.at_; omega) (fun i _ => (h.sec _).2)]
      exact h.head
    · refine ⟨fun j => if j < L.sure / 480 then ep j else L.hd.ep, ?_⟩
      show Dur _ (sureL L) (H.take (endOf L)) _
      rw [← hsl, List.take_length]
      have hnst : ∀ j, H.length ≤ 480 * j → ptThere (sD (flZ D L).2) L (480 * j) = true → (ptAt (sD (flZ D L).2) (secOf L (480 * j))).ep < (L.hd.ep : Int) := fun j k1 k2 => by
        by_cases hex : ∃ i, 480 * i < L.tail.length ∧ secOf L (flA L i) = secOf L (480 * j)
        · exfalso
          obtain ⟨i, hi, hse⟩ := hex
          have hn := hnew i hi
          rw [hse] at hn
          have hpl : ((L.tail.drop (480 * i)).take 480).length ≤ 480 := by rw [List.length_take]; omega
          obtain ⟨p1, p2⟩ := ptAt_seal (D := sD (flZ D L).2) hawk.1 (i := secOf L (480 * j)) (by rw [b4]; exact (h.sec _).1) (flA L i / 480) L.hd.ep ((L.tail.drop (480 * i)).take 480) hn hpl (by rw [flA_part]; have := h.big; omega) h.hd.ep
          unfold ptThere at k2
          rw [p1, p2] at k2
          simp only [Bool.true_and, decide_eq_true_eq] at k2
          rw [flA_part] at k2
          omega
        · have hsm := hold (secOf L (480 * j)) (h.sec _).1 (fun i hi e => hex ⟨i, hi, e⟩)
          obtain ⟨q1, q2⟩ := there_same (L2 := L) h.on hawk.1 b4 rfl rfl (h.sec _).1 hsm
          rw [q1] at k2
          rw [q2]
          rcases hd.stale j (by omega) k2 with q3 | ⟨-, q3, -⟩
          · exact q3
          · omega
      refine ⟨fun j k1 k2 => ?_, fun j k hjk => ?_, fun j => ?_, fun _ => ?_, fun j k1 k2 => .inl (hnst j k1 k2), fun j k1 k2 => .inr ?_⟩
      · have k1 : L.hd.fi / 480 ≤ j := k1
        by_cases hj : j < L.sure / 480
        · rw [if_pos hj]
          have hp := hd.part j k1 (by omega)
          have e5 : ((H.take L.sure).drop (480 * j)).take 480 = (H.drop (480 * j)).take 480 := by
            rw [List.drop_take, List.take_take, Nat.min_eq_left (by omega)]
          rw [e5] at hp
          refine hp.same h.on hawk.1 b4 rfl rfl (h.sec _).1 (hold _ (h.sec _).1 (fun i hi => ?_))
          rw [flA_part]
          exact sec_far (by omega) (by omega) (by omega)
        · rw [if_neg hj]
          obtain ⟨i, rfl⟩ : ∃ i, j = L.sure / 480 + i := ⟨j - L.sure / 480, by omega⟩
          have hi : 480 * i < L.tail.length := by omega
          have hn := hnew i hi
          rw [flA_part] at hn
          have e6 : (L.tail.drop (480 * i)).take 480 = (H.drop (480 * (L.sure / 480 + i))).take 480 := by
            rw [h.tail, List.drop_drop, hfl]
            congr 2
            omega
          refine Prt.of_seal (L := sureL L) hawk.1 (by rw [b4]; exact (h.sec _).1) ?_ (by rw [List.length_take]; omega) (by have := h.big; omega) h.hd.ep
          show (sD (flZ D L).2).at (secOf L (480 * (L.sure / 480 + i))) = _
          rw [hn]
          unfold flP partB
          rw [e6, flA_part, show 480 * (L.sure / 480 + i) / 480 = L.sure / 480 + i by omega]
      · have o1 := (hd.old j).2
        have o2 := hd.mono j k hjk
        show (if j < L.sure / 480 then ep j else L.hd.ep) ≤ (if k < L.sure / 480 then ep k else L.hd.ep)
        split
        · split
          · exact o2
          · exact o1
        · rw [if_neg (by omega)]
          exact Nat.le_refl _
      · show L.hd.old ≤ (if j < L.sure / 480 then ep j else L.hd.ep) ∧ (if j < L.sure / 480 then ep j else L.hd.ep) ≤ L.hd.ep
        have o1 := hd.old j
        split
        · exact o1
        · exact ⟨Nat.le_trans o1.1 o1.2, Nat.le_refl _⟩
      · show (if H.length / 480 < L.sure / 480 then ep (H.length / 480) else L.hd.ep) = L.hd.ep
        rw [if_neg (by omega)]
      · have k3 := hnst j (by omega) k2
        have e7 : thr (sureL L) (fun j => if j < L.sure / 480 then ep j else L.hd.ep) j = L.hd.ep := by
          unfold thr
          rw [if_pos (show (sureL L).hd.fi / 480 < j by show L.hd.fi / 480 < j; omega)]
          show (if j - 1 < L.sure / 480 then ep (j - 1) else L.hd.ep) = L.hd.ep
          rw [if_neg (by omega)]
        rw [e7]
        exact k3
end
end Go.Proofs.YtdifpbicdicggaaDoor
namespace Go.Proofs.YtdifpbicdicggaaDoor
open Go.RowKit

section
variable {D D2 : Dk} {L L2 : Lg} {H S : List UInt8} {ep : Nat → Nat} {n : Nat}
theorem recs_le : ∀ (rs : List (List UInt8)), rs.length ≤ (recsB rs).length
  | [] => Nat.zero_le _
  | p :: rs => by
    have := recs_le rs
    rw [recsB_cons, List.length_append, frm_len, List.length_cons]
    omega
theorem seal1_len (h : Hd) : (sealB 1 h.ns []).length = 512 := sealB_length (by simp [Hd.ns]) (by simp)
/-- One sector written, and a Sync. -/
theorem put_sync (h : Awk D) (hb : Bd D) (hp : D.pen = []) (ho : D.ops < 400000) (s : Nat) (b : List UInt8) (hs : s < D.dur.length) (hl : b.length = 512) :
    wE D (s : Int) b = 0 ∧ sE (wD D (s : Int) b) = 0 ∧ Awk (sD (wD D (s : Int) b)) ∧ (sD (wD D (s : Int) b)).pen = [] ∧ Bd (sD (wD D (s : Int) b)) ∧ (sD (wD D (s : Int) b)).ops ≤ D.ops + 2 ∧ (sD (wD D (s : Int) b)).dur.length = D.dur.length ∧ ∀ j, j < D.dur.length → (sD (wD D (s : Int) b)).at j = if j = s then b else D.at j := by
  have hw := awk_write h s b hs hl
  obtain ⟨b1, b2, b3, b4⟩ := wD_bd hb (by rw [hp]; decide) (by omega) (s : Int) b
  obtain ⟨c1, c2, c3, c4⟩ := sD_bd b1 (by omega)
  refine ⟨hw.1, awk_sync hw.2.1, rg_awk_sD hw.2.1, rg_sD_pen hw.2.1, c1, by omega, by rw [c4, b4], fun j hj => ?_⟩
  rw [rg_at_sD hw.2.1 j (by rw [b4]; exact hj), rg_at_wD h s b hs hl j]
/-- Mark of a place at which a record begins. -/
theorem Rg.mark (h : Rg D L H) (ho : D.ops < 400000) (rs more : List (List UInt8)) (pl : Nat) (hr : ∀ p ∈ rs, RecOk p) (hH : H.drop L.hd.fi = recsB (rs ++ more)) (hpl : pl = L.hd.fi + (recsB rs).length) (hs : pl ≤ L.sure) :
    mkE D L 0 pl = 0 ∧ Rg (mkD D L 0 pl) (mkL D L 0 pl) H ∧ (mkL D L 0 pl).hd = { L.hd with st := pl, fi := pl, ck := 0, old := mkO L pl } ∧ (mkL D L 0 pl).sure = L.sure ∧ (mkL D L 0 pl).at_ = L.at_ ∧ (mkD D L 0 pl).ops ≤ D.ops + 2 ∧ (mkD D L 0 pl).dur.length = D.dur.length := by
  obtain ⟨ep, hd⟩ := h.dur
  have hst := h.st
  have hsu := h.sure
  have hff : ffZ D L pl = (0, pl) := by
    have k := ffR_is h.on hd h.sure h.tail h.end_ rs more L.hd.fi (pl + 1 - L.hd.fi) hr (Nat.le_refl _) hH (by have := recs_le rs; omega)
    rw [← hpl] at k
    exact k
  have hbad : ¬ (pl < L.hd.st ∨ L.sure < pl ∨ L.sure < 0) := by omega
  have hlt : L.at_ < D.dur.length := by have := h.at_; omega
  obtain ⟨w1, w2, w3, w4, w5, w6, w7, w8⟩ := put_sync h.awk h.bd h.pen ho L.at_ (mkB L 0 pl pl) hlt (seal1_len _)
  have hE : mkE D L 0 pl = 0 := by
    unfold mkE
    rw [if_neg hbad, hff, if_neg (fun e => e rfl), w1, if_neg (fun e => e rfl)]
    exact w2
  have e1 : mkD D L 0 pl = sD (wD D (L.at_ : Int) (mkB L 0 pl pl)) := by
    unfold mkD
    rw [if_neg hbad, hff, if_neg (fun e => e rfl), w1, if_neg (fun e => e rfl)]
  have e2 : mkL D L 0 pl = { L with hd := mkH L 0 pl pl } := by
    unfold mkL
    rw [hE, if_pos rfl, hff]
  rw [e1, e2]
  have hbg := h.big
  have hoo : mkO L pl < 18446744073709551616 ∧ mkO L pl ≤ L.hd.ep := by
    have h1 := h.hd.ep
    have h2 := (hd.old 0)
    unfold mkO
    split <;> omega
  refine ⟨hE, ⟨w3, w4, w5, ⟨h.hd.ep, hoo.1, by show pl < _; omega, by show pl < _; omega, by show 0 < _; decide, h.hd.cn⟩, h.cn, by rw [w7]; exact h.at_, h.tail, h.sure, ?_, rfl, Nat.zero_le _, h.held, ?_, h.big, h.epo, ?_, ?_⟩, rfl, rfl, rfl, w6, w7⟩
  · show 480 ≤ pl ∧ pl ≤ pl ∧ pl ≤ L.sure
    omega
  · show H.length ≤ (pl / 480 + L.hd.cn) * 480
    exact Nat.le_trans h.ring (Nat.mul_le_mul_right _ (Nat.add_le_add_right (Nat.div_le_div_right (by omega)) _))
  · have k := w8 L.at_ hlt
    rw [if_pos rfl] at k
    exact k
  · have htk : (H.take L.sure).length = L.sure := by rw [List.length_take]; omega
    have hsec : ∀ a, secOf L a < D.dur.length := fun a => (h.sec a).1
    have hsm : ∀ a, (sD (wD D (L.at_ : Int) (mkB L 0 pl pl))).at (secOf L a) = D.at (secOf L a) := fun a => by rw [w8 _ (h.sec a).1, if_neg (h.sec a).2]
    by_cases hpe : pl = L.sure
    · have hmo : mkO L pl = L.hd.ep := by unfold mkO; rw [if_pos hpe]
      refine ⟨fun _ => L.hd.ep, ?_⟩
      show Dur _ ({ L with hd := mkH L 0 pl pl }) (H.take L.sure) _
      refine ⟨fun j k1 k2 => ?_, fun _ _ _ => Nat.le_refl _, fun _ => ⟨?_, Nat.le_refl _⟩, fun _ => rfl, fun j k1 k2 => ?_, fun j k1 k2 => ?_⟩
      · have k1 : pl / 480 ≤ j := k1
        rw [htk] at k2
        obtain rfl : j = L.sure / 480 := by omega
        have hp := hd.part (L.sure / 480) (Nat.div_le_div_right hst.2.2) (by rw [htk]; omega)
        have hl := hd.last (by rw [htk]; omega)
        rw [htk] at hl
        rw [hl] at hp
        exact hp.same h.on w3.1 w7 rfl rfl (hsec _) (hsm _)
      · show mkO L pl ≤ L.hd.ep
        exact hoo.2
      · obtain ⟨q1, q2⟩ := there_same (L2 := { L with hd := mkH L 0 pl pl }) h.on w3.1 w7 rfl rfl (hsec (480 * j)) (hsm _)
        rw [q1] at k2
        rw [q2]
        exact hd.stale j k1 k2
      · obtain ⟨q1, q2⟩ := there_same (L2 := { L with hd := mkH L 0 pl pl }) h.on w3.1 w7 rfl rfl (hsec (480 * j)) (hsm _)
        rw [q1] at k2
        rw [q2]
        have ht : thr { L with hd := mkH L 0 pl pl } (fun _ => L.hd.ep) j = L.hd.ep := by
          unfold thr
          show (if pl / 480 < j then L.hd.ep else mkO L pl) = L.hd.ep
          rw [hmo]
          split <;> rfl
        rw [ht]
        rcases hd.stale j (by omega) k2 with q3 | ⟨-, -, q3⟩
        · exact .inr q3
        · exact .inl q3
    · have hmo : mkO L pl = L.hd.old := by unfold mkO; rw [if_neg hpe]
      refine ⟨ep, ?_⟩
      show Dur _ ({ L with hd := mkH L 0 pl pl }) (H.take L.sure) _
      refine ⟨fun j k1 k2 => ?_, hd.mono, fun j => ⟨?_, (hd.old j).2⟩, hd.last, fun j k1 k2 => ?_, fun j k1 k2 => ?_⟩
      · have k1 : pl / 480 ≤ j := k1
        have h1 : L.hd.fi / 480 ≤ pl / 480 := Nat.div_le_div_right (by omega)
        exact (hd.part j (Nat.le_trans h1 k1) k2).same h.on w3.1 w7 rfl rfl (hsec _) (hsm _)
      · show mkO L pl ≤ _
        rw [hmo]
        exact (hd.old j).1
      · obtain ⟨q1, q2⟩ := there_same (L2 := { L with hd := mkH L 0 pl pl }) h.on w3.1 w7 rfl rfl (hsec (480 * j)) (hsm _)
        rw [q1] at k2
        rw [q2]
        exact hd.stale j k1 k2
      · obtain ⟨q1, q2⟩ := there_same (L2 := { L with hd := mkH L 0 pl pl }) h.on w3.1 w7 rfl rfl (hsec (480 * j)) (hsm _)
        rw [q1] at k2
        rw [q2]
        have ht : thr { L with hd := mkH L 0 pl pl } ep j = thr L ep j := by
          rw [htk] at k1
          unfold thr
          show (if pl / 480 < j then ep (j - 1) else mkO L pl) = _
          rw [if_pos (by omega), if_pos (by omega)]
        rw [ht]
        exact hd.stop j k1 k2
/-! ### Open -/
theorem hdOf_seal (h : Hd) (ok : h.Ok) : hdOf (sealB 1 h.ns []) = h := by
  have hl : h.ns.length ≤ 6 := by simp [Hd.ns]
  have ht : ([] : List UInt8).length ≤ 480 := by decide
  have k := fun i n hi hn => numAt_seal (kind := 1) (tail := []) hl ht i n hi hn (.inl rfl)
  unfold hdOf
  rw [k 0 h.ep rfl ⟨by omega, by have := ok.ep; omega⟩, k 1 h.old rfl ⟨by omega, by have := ok.old; omega⟩, k 2 h.st rfl ⟨by omega, by have := ok.st; omega⟩, k 3 h.fi rfl ⟨by omega, by have := ok.fi; omega⟩, k 4 h.ck rfl ⟨by omega, by have := ok.ck; omega⟩, k 5 h.cn rfl ⟨by omega, by have := ok.cn; omega⟩]
  rfl
theorem Rg.rhE (h : Rg D L H) : rhE D (L.at_ : Int) = 0 ∧ rhH D (L.at_ : Int) = L.hd := by
  have hlt : L.at_ < D.dur.length := by have := h.at_; omega
  have e : Proofs.YtdifpbicdicggaaDoor.rhE D (L.at_ : Int) = 0 := by
    unfold Proofs.YtdifpbicdicggaaDoor.rhE
    rw [gE_on h.on hlt, if_neg (by decide), gB_on h.on hlt, h.head, unsE_seal (by simp [Hd.ns]) (by simp)]
    rfl
  refine ⟨e, ?_⟩
  unfold rhH
  rw [e, if_pos rfl, gB_on h.on hlt, h.head]
  exact hdOf_seal _ h.hd
/-- What lies on the disk behind a fall: the bytes S and, behind them, no whole record. -/
structure FDur (D : Dk) (L : Lg) (S : List UInt8) (ep : Nat → Nat) : Prop where
  full : ∀ j, L.hd.fi / 480 ≤ j → 480 * j + 480 ≤ S.length → Prt D L j (ep j) ((S.drop (480 * j)).take 480)
  mono : ∀ j k, j ≤ k → ep j ≤ ep k
  old : ∀ j, L.hd.old ≤ ep j ∧ ep j ≤ L.hd.ep
  found : ∃ J, thP D L (L.hd.cn + 1) (480 * (L.hd.fi / 480)) (L.hd.old : Int) = S.drop (480 * (L.hd.fi / 480)) ++ J ∧ whSz J = 0
  stale : ∀ j, S.length < 480 * j + 480 → ptThere D L (480 * j) = true → (ptAt D (secOf L (480 * j))).ep ≤ (L.hd.ep : Int) ∨ ((ptAt D (secOf L (480 * j))).ep = ((L.hd.ep + 1 : Nat) : Int) ∧ j = S.length / 480)
/-- A disk behind a fall: an opening finds S. L: what it finds. -/
structure Fal (D : Dk) (L : Lg) (S : List UInt8) : Prop where
  awk : Awk D
  pen : D.pen = []
  bd : Bd D
  hd : L.hd.Ok
  cn : 4 ≤ L.hd.cn ∧ L.hd.cn ≤ 4096
  at_ : L.at_ + 1 + L.hd.cn ≤ D.dur.length
  tail : L.tail = S.drop (flo L.sure)
  sure : L.sure = S.length
  st : 480 ≤ L.hd.st ∧ L.hd.fi = L.hd.st ∧ L.hd.fi ≤ S.length
  ck : L.hd.ck ≤ S.length
  held : L.held = 0
  ring : S.length ≤ (L.hd.st / 480 + L.hd.cn) * 480
  big : S.length < 1000000000000
  epo : L.hd.ep < 1000000000000
  head : D.at L.at_ = sealB 1 L.hd.ns []
  recs : ∃ rs, (∀ p ∈ rs, RecOk p) ∧ S.drop L.hd.fi = recsB rs
  dur : ∃ ep, FDur D L S ep
theorem Fal.on (h : Fal D L S) : D.off = false := h.awk.1
theorem Fal.sec (h : Fal D L S) (a : Nat) : secOf L a < D.dur.length ∧ secOf L a ≠ L.at_ := by
  have h1 := Nat.mod_lt (a / 480) (show 0 < L.hd.cn by have := h.cn; omega)
  have h2 := h.at_
  unfold secOf
  omega
theorem Fal.rhE (h : Fal D L S) : rhE D (L.at_ : Int) = 0 ∧ rhH D (L.at_ : Int) = L.hd := by
  have hlt : L.at_ < D.dur.length := by have := h.at_; omega
  have e : Proofs.YtdifpbicdicggaaDoor.rhE D (L.at_ : Int) = 0 := by
    unfold Proofs.YtdifpbicdicggaaDoor.rhE
    rw [gE_on h.on hlt, if_neg (by decide), gB_on h.on hlt, h.head, unsE_seal (by simp [Hd.ns]) (by simp)]
    rfl
  refine ⟨e, ?_⟩
  unfold rhH
  rw [e, if_pos rfl, gB_on h.on hlt, h.head]
  exact hdOf_seal _ h.hd
theorem thP_log (h1 : L2.at_ = L.at_) (h2 : L2.hd.cn = L.hd.cn) (hon : D.off = false) (hon2 : D2.off = false) (hl : D2.dur.length = D.dur.length) (hs : ∀ a, secOf L a < D.dur.length) (hd : ∀ a, D2.at (secOf L a) = D.at (secOf L a)) : ∀ (f a : Nat) (e : Int), thP D2 L2 f a e = thP D L f a e
  | 0, _, _ => rfl
  | f + 1, a, e => by
    obtain ⟨e1, e2⟩ := there_same hon hon2 hl h1 h2 (hs a) (hd a)
    unfold thP
    rw [e1, e2, thP_log h1 h2 hon hon2 hl hs hd f]
/-- What find finds. -/
theorem Fal.find (h : Fal D L S) : fnE D (op0 D (L.at_ : Int)) = 0 ∧ opF D (L.at_ : Int) = L := by
  obtain ⟨e1, e2⟩ := h.rhE
  obtain ⟨ep, hd⟩ := h.dur
  obtain ⟨rs, hr, hH⟩ := h.recs
  obtain ⟨J, hJ, hJ0⟩ := hd.found
  have hst := h.st
  have hri := h.ring
  have hs := h.sure
  have ho : op0 D (L.at_ : Int) = ⟨L.at_, L.hd, 0, [], 0⟩ := by unfold op0; rw [e2, Int.toNat_natCast]
  have hb : fnBase (op0 D (L.at_ : Int)) = 480 * (L.hd.fi / 480) := by rw [ho]; unfold fnBase flo; show L.hd.fi - L.hd.fi % 480 = _; omega
  have hall : fnAll D (op0 D (L.at_ : Int)) = S.drop (480 * (L.hd.fi / 480)) ++ J := by
    unfold fnAll
    rw [hb, ho, ← hJ]
    exact thP_log (L := L) (L2 := ⟨L.at_, L.hd, 0, [], 0⟩) rfl rfl h.on h.on rfl (fun a => (h.sec a).1) (fun _ => rfl) _ _ _
  have hfi : (op0 D (L.at_ : Int)).hd.fi = L.hd.fi := by rw [ho]
  have hsp : S.drop (480 * (L.hd.fi / 480)) = (S.drop (480 * (L.hd.fi / 480))).take (L.hd.fi - 480 * (L.hd.fi / 480)) ++ recsB rs := by
    rw [← hH]
    have h1 : S.drop L.hd.fi = (S.drop (480 * (L.hd.fi / 480))).drop (L.hd.fi - 480 * (L.hd.fi / 480)) := by rw [List.drop_drop]; congr 1; omega
    rw [h1, List.take_append_drop]
  have hpl : ((S.drop (480 * (L.hd.fi / 480))).take (L.hd.fi - 480 * (L.hd.fi / 480))).length = L.hd.fi - 480 * (L.hd.fi / 480) := by rw [List.length_take, List.length_drop]; omega
  have hrl : (recsB rs).length = S.length - L.hd.fi := by rw [← hH, List.length_drop]
  have hdl : (S.drop (480 * (L.hd.fi / 480))).length = S.length - 480 * (L.hd.fi / 480) := List.length_drop
  have hend : fnEnd D (op0 D (L.at_ : Int)) = S.length - 480 * (L.hd.fi / 480) := by
    unfold fnEnd
    rw [hall, hb, hfi]
    have k := runN_recsJ J hJ0 rs ((S.drop (480 * (L.hd.fi / 480))).take (L.hd.fi - 480 * (L.hd.fi / 480))) (S.drop (480 * (L.hd.fi / 480)) ++ J).length hr (by
      have := recs_le rs
      rw [List.length_append, List.length_drop]
      omega)
    rw [← List.append_assoc, ← hsp, hpl, hrl] at k
    rw [k]
    omega
  have hsure : fnSure D (op0 D (L.at_ : Int)) = S.length := by unfold fnSure; rw [hend, hb]; omega
  have htail : fnTail D (op0 D (L.at_ : Int)) = L.tail := by
    unfold fnTail
    rw [hall, hend, hsure, hb, h.tail, hs, List.take_append_of_le_length (by omega), List.take_of_length_le (by omega), List.drop_drop]
    congr 1
    unfold flo
    omega
  refine ⟨?_, ?_⟩
  · unfold fnE
    rw [if_neg (by rw [h.on]; decide), if_neg (by rw [hfi, hb, hall, List.length_append]; omega), if_neg (by rw [hsure, ho]; show ¬ S.length < L.hd.ck; have := h.ck; omega)]
  · unfold opF fnL
    rw [hsure, htail, ho, ← hs]
    have e : (⟨L.at_, L.hd, L.sure, L.tail, L.held⟩ : Lg) = L := rfl
    rw [h.held] at e
    exact e
theorem fallen_still (h : Awk D) (hp : D.pen = []) : D.fallen [] = D := by
  unfold Dk.fallen
  rw [hp]
  obtain ⟨h1, h2⟩ := h
  cases D
  simp only at h1 h2 hp
  subst h1 h2 hp
  rfl
theorem nextL_hd (he : L.hd.ep < 1000000000000) : (nextL L).hd = { L.hd with ep := L.hd.ep + 1 } := by
  unfold nextL
  rw [Nat.mod_eq_of_lt (by omega)]
theorem Fal.room (h : Fal D L S) : roomOf (nextL L) = (((L.hd.st / 480 + L.hd.cn) * 480 : Nat) : Int) - (S.length : Int) := by
  have h1 := h.sure
  have h2 := flo_le L.sure
  unfold roomOf endOf
  show (((L.hd.st / 480 + L.hd.cn) * 480 : Nat) : Int) - ((flo L.sure + L.tail.length : Nat) : Int) - ((nextL L).held : Int) = _
  rw [h.tail, List.length_drop, show (nextL L).held = 0 from h.held]
  omega
/-- Open is begin there. -/
theorem Fal.op_bg (h : Fal D L S) : opE D (L.at_ : Int) (L.hd.cn : Int) = bgE D L ∧ opD D (L.at_ : Int) (L.hd.cn : Int) = bgD D L ∧ opL D (L.at_ : Int) = nextL L := by
  obtain ⟨e1, e2⟩ := h.rhE
  obtain ⟨f1, f2⟩ := h.find
  have hcn := h.cn
  have hat_ := h.at_
  have hfit : fitsE D.dur.length (L.at_ : Int) (L.hd.cn : Int) = 0 := by unfold fitsE; rw [if_neg (by omega)]
  refine ⟨?_, ?_, by unfold opL; rw [f2]⟩
  · unfold opE
    rw [hfit, e1, e2, f1, f2, if_neg (fun e => e rfl), if_neg (fun e => e rfl), if_neg (fun e => e rfl), if_neg (fun e => e rfl)]
  · unfold opD
    rw [hfit, e1, e2, f1, f2, if_neg (fun e => e rfl), if_neg (fun e => e rfl), if_neg (fun e => e rfl), if_neg (fun e => e rfl)]
set_option maxHeartbeats 3200000 in
theorem Fal.open_ (h : Fal D L S) (ho : D.ops < 400000) (he : L.hd.ep + 1 < 1000000000000) :
    opE D (L.at_ : Int) (L.hd.cn : Int) = 0 ∧ Rg (opD D (L.at_ : Int) (L.hd.cn : Int)) (opL D (L.at_ : Int)) S ∧ opL D (L.at_ : Int) = nextL L ∧ (opD D (L.at_ : Int) (L.hd.cn : Int)).ops ≤ D.ops + 3 ∧ (opD D (L.at_ : Int) (L.hd.cn : Int)).dur.length = D.dur.length := by
  obtain ⟨hEE, hDD, hL⟩ := h.op_bg
  have hcn := h.cn
  have hat_ := h.at_
  have hs := h.sure
  rw [hEE, hDD, hL]
  have hlt : L.at_ < D.dur.length := by omega
  have hhd := nextL_hd h.epo
  have hep := h.epo
  obtain ⟨ep, hd⟩ := h.dur
  have hokn : (nextL L).hd.Ok := by
    rw [hhd]
    exact ⟨by show L.hd.ep + 1 < _; omega, h.hd.old, h.hd.st, h.hd.fi, h.hd.ck, h.hd.cn⟩
  have hcnn : (nextL L).hd.cn = L.hd.cn := by rw [hhd]
  have hfin : (nextL L).hd.fi = L.hd.fi := by rw [hhd]
  have holn : (nextL L).hd.old = L.hd.old := by rw [hhd]
  have hroom := h.room
  have hri := h.ring
  have hst := h.st
  have hbg := h.big
  -- the head
  have hwh := awk_write h.awk L.at_ (bgB L) hlt (seal1_len _)
  obtain ⟨b1, b2, b3, b4⟩ := wD_bd h.bd (by rw [h.pen]; decide) (by omega) (L.at_ : Int) (bgB L)
  have hrd1 : ∀ j, (wD D (L.at_ : Int) (bgB L)).at j = if j = L.at_ then bgB L else D.at j := fun j => rg_at_wD h.awk L.at_ (bgB L) hlt (seal1_len _) j
  have hts : (nextL L).sure = S.length := hs
  by_cases hrm : roomOf (nextL L) > 0
  · -- the tail is written again
    have hroom2 : S.length < (L.hd.st / 480 + L.hd.cn) * 480 := by rw [hroom] at hrm; omega
    have hfs : flo L.sure = 480 * (S.length / 480) := by rw [hs]; unfold flo; omega
    obtain ⟨s, hse⟩ : ∃ s, secOf L (480 * (S.length / 480)) = s := ⟨_, rfl⟩
    have hbs : bgS L = (s : Int) := by unfold bgS; rw [sec_log (L := L) (L2 := nextL L) rfl hcnn, hfs, hse]
    have hslt : s < D.dur.length := by rw [← hse]; exact (h.sec _).1
    have hsne : s ≠ L.at_ := by rw [← hse]; exact (h.sec _).2
    have htl : L.tail = S.drop (480 * (S.length / 480)) := by rw [h.tail, hfs]
    have htll : L.tail.length ≤ 480 := by rw [htl, List.length_drop]; omega
    have hpl : (bgP L).length = 512 := by unfold bgP partB; exact sealB_length (by simp [ptNs]) htll
    have hw2 := awk_write hwh.2.1 s (bgP L) (by rw [b4]; exact hslt) hpl
    obtain ⟨c1, c2, c3, c4⟩ := wD_bd b1 (by rw [h.pen] at b2; simp at b2; omega) (by omega) (s : Int) (bgP L)
    obtain ⟨d1, d2, d3, d4⟩ := sD_bd c1 (by omega)
    have hE : bgE D L = 0 := by
      unfold bgE
      rw [hwh.1, if_neg (by decide), if_pos hrm, hbs, hw2.1, if_neg (by decide)]
      exact awk_sync hw2.2.1
    have hDe : bgD D L = sD (wD (wD D (L.at_ : Int) (bgB L)) (s : Int) (bgP L)) := by
      unfold bgD
      rw [hwh.1, if_neg (by decide), if_pos hrm, hbs, hw2.1, if_neg (by decide)]
    rw [hDe]
    have hawk := rg_awk_sD hw2.2.1
    have hlen : (sD (wD (wD D (L.at_ : Int) (bgB L)) (s : Int) (bgP L))).dur.length = D.dur.length := by rw [d4, c4, b4]
    have hrd : ∀ j, j < D.dur.length → (sD (wD (wD D (L.at_ : Int) (bgB L)) (s : Int) (bgP L))).at j = if j = s then bgP L else if j = L.at_ then bgB L else D.at j := fun j hj => by
      rw [rg_at_sD hw2.2.1 j (by rw [c4, b4]; exact hj), rg_at_wD hwh.2.1 s (bgP L) (by rw [b4]; exact hslt) hpl j, hrd1 j]
    have hbp : bgP L = sealB 2 (ptNs (S.length / 480) (L.hd.ep + 1) L.tail.length) L.tail := by
      unfold bgP partB
      rw [hhd, hfs, show 480 * (S.length / 480) / 480 = S.length / 480 by omega]
    have hpn := rg_sD_pen hw2.2.1
    generalize sD (wD (wD D (L.at_ : Int) (bgB L)) (s : Int) (bgP L)) = DZ at *
    refine ⟨hE, ⟨hawk, hpn, d1, hokn, by rw [hcnn]; exact hcn, by rw [hcnn, hlen]; exact hat_, h.tail, by rw [hts]; exact Nat.le_refl _, by rw [hhd, hts]; show 480 ≤ L.hd.st ∧ L.hd.st ≤ L.hd.fi ∧ L.hd.fi ≤ S.length; omega, by rw [hhd]; exact hst.2.1, by rw [hhd, hts]; exact h.ck, h.held, by rw [hhd]; exact h.ring, h.big, by rw [hhd]; exact he, ?_, ?_⟩, rfl, by omega, hlen⟩
    · show DZ.at L.at_ = _
      rw [hrd _ hlt, if_neg hsne.symm, if_pos rfl]
      rfl
    · refine ⟨fun j => if j < S.length / 480 then ep j else L.hd.ep + 1, ?_⟩
      rw [hts, List.take_length]
      have hsame : ∀ j, secOf L (480 * j) ≠ s → DZ.at (secOf L (480 * j)) = D.at (secOf L (480 * j)) := fun j hj => by rw [hrd _ (h.sec _).1, if_neg hj, if_neg (h.sec _).2]
      have hnew : ∀ j, secOf L (480 * j) = s → ptThere DZ (nextL L) (480 * j) = true → j = S.length / 480 ∧ (ptAt DZ (secOf (nextL L) (480 * j))).ep = ((L.hd.ep + 1 : Nat) : Int) ∧ (ptAt DZ (secOf (nextL L) (480 * j))).by_ = L.tail := fun j hjs k2 => by
        have hbj0 := hrd s hslt
        rw [if_pos rfl] at hbj0
        obtain ⟨p1, p2⟩ := ptAt_seal (D := DZ) hawk.1 (i := s) (by rw [hlen]; exact hslt) (S.length / 480) (L.hd.ep + 1) L.tail (hbj0.trans hbp) htll (by omega) (by omega)
        unfold ptThere at k2
        rw [sec_log (L := L) (L2 := nextL L) rfl hcnn, hjs] at k2 ⊢
        rw [p1, p2] at k2
        simp only [Bool.true_and, decide_eq_true_eq] at k2
        exact ⟨by omega, by rw [p2], by rw [p2]⟩
      refine ⟨fun j k1 k2 => ?_, fun j k hjk => ?_, fun j => ?_, fun k => ?_, fun j k1 k2 => ?_, fun j k1 k2 => ?_⟩
      · rw [hfin] at k1
        by_cases hj : j < S.length / 480
        · rw [if_pos hj]
          exact (hd.full j k1 (by omega)).same h.on hawk.1 hlen rfl hcnn (h.sec _).1 (hsame j (by rw [← hse]; exact sec_far (by omega) (by omega) (by omega)))
        · rw [if_neg hj]
          obtain rfl : j = S.length / 480 := by omega
          have htk : (S.drop (480 * (S.length / 480))).take 480 = L.tail := by rw [htl]; exact List.take_of_length_le (by rw [List.length_drop]; omega)
          rw [htk]
          refine Prt.of_seal (L := nextL L) hawk.1 (by rw [sec_log (L := L) (L2 := nextL L) rfl hcnn, hlen]; exact (h.sec _).1) ?_ htll (by omega) (by omega)
          rw [sec_log (L := L) (L2 := nextL L) rfl hcnn, hse, hrd _ hslt, if_pos rfl, hbp]
      · have o1 := (hd.old j).2
        have o2 := hd.mono j k hjk
        show (if j < S.length / 480 then ep j else L.hd.ep + 1) ≤ (if k < S.length / 480 then ep k else L.hd.ep + 1)
        split
        · split
          · exact o2
          · omega
        · rw [if_neg (by omega)]
          exact Nat.le_refl _
      · rw [hhd]
        show L.hd.old ≤ (if j < S.length / 480 then ep j else L.hd.ep + 1) ∧ (if j < S.length / 480 then ep j else L.hd.ep + 1) ≤ L.hd.ep + 1
        have o1 := hd.old j
        split
        · exact ⟨o1.1, by omega⟩
        · exact ⟨by omega, Nat.le_refl _⟩
      · rw [hhd]
        show (if S.length / 480 < S.length / 480 then ep (S.length / 480) else L.hd.ep + 1) = L.hd.ep + 1
        rw [if_neg (by omega)]
      · rw [show ((nextL L).hd.ep : Int) = ((L.hd.ep + 1 : Nat) : Int) by rw [hhd]]
        by_cases hjs : secOf L (480 * j) = s
        · obtain ⟨q1, q2, q3⟩ := hnew j hjs k2
          exact .inr ⟨q2, by omega, by rw [q3, htl, List.drop_of_length_le (by omega)]⟩
        · obtain ⟨q1, q2⟩ := there_same (L := L) (L2 := nextL L) h.on hawk.1 hlen rfl hcnn (h.sec _).1 (hsame j hjs)
          rw [q1] at k2
          rw [q2]
          rcases hd.stale j (by omega) k2 with q3 | ⟨-, q4⟩
          · left; omega
          · exact absurd (by rw [q4]; exact hse) hjs
      · obtain rfl : j = S.length / 480 := by omega
        obtain ⟨-, -, q3⟩ := hnew _ hse k2
        exact .inl (by rw [q3, htl, List.drop_of_length_le (by omega)])
  · -- the log is full
    have hfull : S.length = (L.hd.st / 480 + L.hd.cn) * 480 := by rw [hroom] at hrm; omega
    obtain ⟨d1, d2, d3, d4⟩ := sD_bd b1 (by omega)
    have hE : bgE D L = 0 := by
      unfold bgE
      rw [hwh.1, if_neg (by decide), if_neg hrm]
      exact awk_sync hwh.2.1
    have hDe : bgD D L = sD (wD D (L.at_ : Int) (bgB L)) := by
      unfold bgD
      rw [hwh.1, if_neg (by decide), if_neg hrm]
    rw [hDe]
    have hawk := rg_awk_sD hwh.2.1
    have hlen : (sD (wD D (L.at_ : Int) (bgB L))).dur.length = D.dur.length := by rw [d4, b4]
    have hrd : ∀ j, j < D.dur.length → (sD (wD D (L.at_ : Int) (bgB L))).at j = if j = L.at_ then bgB L else D.at j := fun j hj => by
      rw [rg_at_sD hwh.2.1 j (by rw [b4]; exact hj), hrd1 j]
    have hsame : ∀ a, (sD (wD D (L.at_ : Int) (bgB L))).at (secOf L a) = D.at (secOf L a) := fun a => by rw [hrd _ (h.sec a).1, if_neg (h.sec a).2]
    have hpn := rg_sD_pen hwh.2.1
    generalize sD (wD D (L.at_ : Int) (bgB L)) = DZ at *
    have hno : ∀ j, 480 * j = S.length → ptThere D L (480 * j) = false := fun j hj => by
      have h1 := there_ring (D := D) (L := L) (by omega) (480 * (L.hd.fi / 480)) (hd.full (L.hd.fi / 480) (Nat.le_refl _) (by omega)).there
      have h2 : 480 * (L.hd.fi / 480) + 480 * L.hd.cn = 480 * j := by rw [hst.2.1]; omega
      rw [h2] at h1
      exact h1
    refine ⟨hE, ⟨hawk, hpn, d1, hokn, by rw [hcnn]; exact hcn, by rw [hcnn, hlen]; exact hat_, h.tail, by rw [hts]; exact Nat.le_refl _, by rw [hhd, hts]; show 480 ≤ L.hd.st ∧ L.hd.st ≤ L.hd.fi ∧ L.hd.fi ≤ S.length; omega, by rw [hhd]; exact hst.2.1, by rw [hhd, hts]; exact h.ck, h.held, by rw [hhd]; exact h.ring, h.big, by rw [hhd]; exact he, ?_, ep, ?_⟩, rfl, by omega, hlen⟩
    · show DZ.at L.at_ = _
      rw [hrd _ hlt, if_pos rfl]
      rfl
    · rw [hts, List.take_length]
      refine ⟨fun j k1 k2 => ?_, hd.mono, fun j => ?_, fun k => absurd (by omega) k, fun j k1 k2 => ?_, fun j k1 k2 => ?_⟩
      · rw [hfin] at k1
        exact (hd.full j k1 (by omega)).same h.on hawk.1 hlen rfl hcnn (h.sec _).1 (hsame _)
      · rw [hhd]
        have := hd.old j
        exact ⟨this.1, Nat.le_succ_of_le this.2⟩
      · rw [show ((nextL L).hd.ep : Int) = ((L.hd.ep + 1 : Nat) : Int) by rw [hhd]]
        obtain ⟨q1, q2⟩ := there_same (L := L) (L2 := nextL L) h.on hawk.1 hlen rfl hcnn (h.sec _).1 (hsame (480 * j))
        rw [q1] at k2
        rw [q2]
        rcases hd.stale j (by omega) k2 with q3 | ⟨-, q4⟩
        · left; omega
        · rw [hno j (by omega)] at k2
          cases k2
      · obtain ⟨q1, q2⟩ := there_same (L := L) (L2 := nextL L) h.on hawk.1 hlen rfl hcnn (h.sec _).1 (hsame (480 * j))
        rw [q1, hno j k1] at k2
        cases k2
end
end Go.Proofs.YtdifpbicdicggaaDoor
namespace Go.Proofs.YtdifpbicdicggaaDoor
open Go.RowKit

/-- These writes, then a Sync: what is answered last, and the disk behind it. -/
def wsE : Dk → List (Nat × List UInt8) → Int × Dk
  | D, [] => (sE D, sD D)
  | D, (s, b) :: ws => if wE D (s : Int) b ≠ 0 then (wE D (s : Int) b, wD D (s : Int) b) else wsE (wD D (s : Int) b) ws
def Wr (n : Nat) (ws : List (Nat × List UInt8)) : Prop := ∀ x ∈ ws, x.1 < n ∧ x.2.length = 512
/-- The same disk, with the power going off in that operation. -/
def Dk.armed (D : Dk) (a : Nat) : Dk := { D with arm := a }
theorem armed_wD {D : Dk} (hoff : D.off = false) (s : Nat) (b : List UInt8) (hs : s < D.dur.length) (hb : b.length = 512) (a : Nat) :
    wE (D.armed a) (s : Int) b = (if a = 1 then 8 else 0) ∧ wD (D.armed a) (s : Int) b = { D with pen := D.pen ++ [(s, b)], ops := D.ops + 1, arm := a - 1, off := decide (a = 1) } := by
  have h1 : ¬ ((s : Int) < 0 ∨ (((D.armed a).dur.length : Nat) : Int) ≤ (s : Int)) := by
    show ¬ ((s : Int) < 0 ∨ ((D.dur.length : Nat) : Int) ≤ (s : Int))
    omega
  have h3 : ¬ (D.armed a).off = true := by show ¬ D.off = true; rw [hoff]; decide
  have h2 : ¬ b.length ≠ 512 := by omega
  unfold wE wD
  rw [if_neg h1, if_neg h2, if_neg h3, if_neg h1, if_neg h2, if_neg h3, Int.toNat_natCast]
  refine ⟨rfl, ?_⟩
  unfold Dk.put Dk.op
  show ({ D with pen := D.pen ++ [(s, b)], ops := D.ops + 1, arm := a - 1, off := D.off || decide (a = 1) } : Dk) = _
  rw [hoff, Bool.false_or]
theorem armed_sD {D : Dk} (hoff : D.off = false) (a : Nat) :
    (a = 1 → sE (D.armed a) = 8 ∧ sD (D.armed a) = { D with ops := D.ops + 1, arm := 0, off := true }) ∧
    (a ≠ 1 → sE (D.armed a) = 0 ∧ sD (D.armed a) = ⟨durK (fun _ => true) D.dur D.pen D.pen.length, [], D.ops + 1, a - 1, false⟩) := by
  have h3 : ¬ (D.armed a).off = true := by show ¬ D.off = true; rw [hoff]; decide
  refine ⟨fun h => ?_, fun h => ?_⟩
  · have h1 : (D.armed a).arm = 1 := h
    unfold sE sD
    rw [if_neg h3, if_pos h1, if_neg h3, if_pos h1]
    refine ⟨rfl, ?_⟩
    subst h
    unfold Dk.op
    show ({ D with ops := D.ops + 1, arm := 0, off := D.off || true } : Dk) = _
    rw [Bool.or_true]
  · have h1 : ¬ (D.armed a).arm = 1 := h
    unfold sE sD
    rw [if_neg h3, if_neg h1, if_neg h3, if_neg h1]
    refine ⟨rfl, ?_⟩
    unfold Dk.op Dk.settled
    show (⟨durK (fun _ => true) D.dur D.pen D.pen.length, [], D.ops + 1, a - 1, D.off || decide (a = 1)⟩ : Dk) = _
    rw [hoff, decide_eq_false h]
    rfl
theorem ws_arm (n : Nat) : ∀ (ws : List (Nat × List UInt8)) (D : Dk), Wr n ws → D.off = false → D.dur.length = n → ∀ a,
    (wsE (D.armed 0) ws).1 = 0 ∧ (((wsE (D.armed a) ws).1 = 0 ∧ ∃ a', (wsE (D.armed a) ws).2 = ((wsE (D.armed 0) ws).2).armed a' ∧ a' ≤ a) ∨ ((wsE (D.armed a) ws).1 = 8 ∧ (wsE (D.armed a) ws).2.off = true ∧ (wsE (D.armed a) ws).2.dur = D.dur ∧ (∃ m, (wsE (D.armed a) ws).2.pen = D.pen ++ ws.take m) ∧ (wsE (D.armed a) ws).2.ops ≤ D.ops + ws.length + 1 ∧ (wsE (D.armed a) ws).2.arm = 0))
  | [], D, _, ho, hn, a => by
    obtain ⟨s1, s2⟩ := armed_sD ho a
    obtain ⟨-, z2⟩ := armed_sD ho 0
    obtain ⟨z3, z4⟩ := z2 (by decide)
    show sE (D.armed 0) = 0 ∧ ((sE (D.armed a) = 0 ∧ ∃ a', sD (D.armed a) = (sD (D.armed 0)).armed a' ∧ a' ≤ a) ∨ _)
    refine ⟨z3, ?_⟩
    by_cases h : a = 1
    · obtain ⟨s3, s4⟩ := s1 h
      right
      show sE (D.armed a) = 8 ∧ (sD (D.armed a)).off = true ∧ (sD (D.armed a)).dur = D.dur ∧ (∃ m, (sD (D.armed a)).pen = D.pen ++ List.take m []) ∧ (sD (D.armed a)).ops ≤ D.ops + 0 + 1 ∧ (sD (D.armed a)).arm = 0
      rw [s4]
      exact ⟨s3, rfl, rfl, ⟨0, by simp⟩, Nat.le_refl _, rfl⟩
    · obtain ⟨s3, s4⟩ := s2 h
      left
      exact ⟨s3, a - 1, by rw [s4, z4]; rfl, Nat.sub_le _ _⟩
  | (s, b) :: ws, D, hw, ho, hn, a => by
    obtain ⟨hs, hb⟩ := hw (s, b) (by simp)
    have hs : s < D.dur.length := by rw [hn]; exact hs
    have hb : b.length = 512 := hb
    obtain ⟨p1, p2⟩ := armed_wD ho s b hs hb a
    obtain ⟨q1, q2⟩ := armed_wD ho s b hs hb 0
    rw [if_neg (by decide)] at q1
    have e0 : wsE (D.armed 0) ((s, b) :: ws) = wsE (({ D with pen := D.pen ++ [(s, b)], ops := D.ops + 1 } : Dk).armed 0) ws := by
      show (if wE (D.armed 0) (s : Int) b ≠ 0 then _ else wsE (wD (D.armed 0) (s : Int) b) ws) = _
      rw [q1, if_neg (fun h => h rfl), q2]
      unfold Dk.armed
      rw [show decide (0 = 1) = false from rfl, ← ho]
    have ih := ws_arm n ws { D with pen := D.pen ++ [(s, b)], ops := D.ops + 1 } (fun x hx => hw x (by simp [hx])) ho hn
    by_cases h : a = 1
    · have e1 : wsE (D.armed a) ((s, b) :: ws) = (8, { D with pen := D.pen ++ [(s, b)], ops := D.ops + 1, arm := 0, off := true }) := by
        show (if wE (D.armed a) (s : Int) b ≠ 0 then (wE (D.armed a) (s : Int) b, wD (D.armed a) (s : Int) b) else _) = _
        rw [p1, p2, if_pos h, if_pos (by decide)]
        subst h
        rfl
      rw [e0, e1]
      exact ⟨(ih 0).1, .inr ⟨rfl, rfl, rfl, ⟨1, by simp⟩, by show D.ops + 1 ≤ D.ops + (ws.length + 1) + 1; omega, rfl⟩⟩
    · have e1 : wsE (D.armed a) ((s, b) :: ws) = wsE (({ D with pen := D.pen ++ [(s, b)], ops := D.ops + 1 } : Dk).armed (a - 1)) ws := by
        show (if wE (D.armed a) (s : Int) b ≠ 0 then _ else wsE (wD (D.armed a) (s : Int) b) ws) = _
        rw [p1, p2, if_neg h, if_neg (fun h => h rfl)]
        unfold Dk.armed
        rw [decide_eq_false h, ← ho]
      rw [e0, e1]
      obtain ⟨i1, i2⟩ := ih (a - 1)
      refine ⟨i1, ?_⟩
      rcases i2 with ⟨j1, a', j2, j3⟩ | ⟨j1, j2, j3, ⟨m, j4⟩, j5, j6⟩
      · exact .inl ⟨j1, a', j2, by omega⟩
      · refine .inr ⟨j1, j2, j3, ⟨m + 1, ?_⟩, ?_, j6⟩
        · rw [j4]
          show (D.pen ++ [(s, b)]) ++ ws.take m = D.pen ++ ((s, b) :: ws.take m)
          rw [List.append_assoc]
          rfl
        · show _ ≤ D.ops + (ws.length + 1) + 1
          have : (wsE (({ D with pen := D.pen ++ [(s, b)], ops := D.ops + 1 } : Dk).armed (a - 1)) ws).2.ops ≤ D.ops + 1 + ws.length + 1 := j5
          omega
/-! ### what a fall keeps -/
theorem durK_or (kept : Nat → Bool) (dur : List (List UInt8)) (pen : List (Nat × List UInt8)) (s : Nat) (hs : s < dur.length) : ∀ k, k ≤ pen.length → (durK kept dur pen k).getD s [] = dur.getD s [] ∨ (s, (durK kept dur pen k).getD s []) ∈ pen
  | 0, _ => .inl rfl
  | k + 1, hk => by
    have ih := durK_or kept dur pen s hs k (by omega)
    have hx : pen[k]? = some pen[k] := List.getElem?_eq_getElem (by omega)
    rw [durK_succ _ _ _ _ _ hx]
    split
    · by_cases e : pen[k].1 = s
      · right
        have h1 : ((durK kept dur pen k).set pen[k].1 pen[k].2).getD s [] = pen[k].2 := by
          rw [e, List.getD_eq_getElem?_getD, List.getElem?_set_self (by rw [durK_len]; exact hs)]
          rfl
        rw [h1, ← e]
        exact List.getElem_mem _
      · have h1 : ((durK kept dur pen k).set pen[k].1 pen[k].2).getD s [] = (durK kept dur pen k).getD s [] := by
          rw [List.getD_eq_getElem?_getD, List.getElem?_set_ne e, ← List.getD_eq_getElem?_getD]
        rw [h1]
        exact ih
    · exact ih
theorem at_nopen {D : Dk} (h : D.pen = []) (s : Nat) : D.at s = D.dur.getD s [] := by
  unfold Dk.at
  rw [h, lastP_nil, if_pos rfl]
/-- Behind a fall in these writes each sector is what it was, or one of them. -/
theorem fallen_mix {D D1 : Dk} {ws : List (Nat × List UInt8)} (hp : D.pen = []) (h1 : D1.dur = D.dur) (h2 : ∃ m, D1.pen = ws.take m) (keep : List Bool) (s : Nat) (hs : s < D.dur.length) : (D1.fallen keep).at s = D.at s ∨ (s, (D1.fallen keep).at s) ∈ ws := by
  obtain ⟨m, h2⟩ := h2
  rw [at_nopen hp, at_nopen (D := D1.fallen keep) rfl]
  rcases durK_or (fun k => keep.getD k false) D1.dur D1.pen s (by rw [h1]; exact hs) D1.pen.length (Nat.le_refl _) with h | h
  · left
    rw [← h1]
    exact h
  · right
    have h3 := h
    rw [h2] at h3
    rw [← h2] at h3
    have h4 : (s, (D1.fallen keep).dur.getD s []) ∈ D1.pen := h
    rw [h2] at h4
    exact List.mem_of_mem_take h4
theorem awk_fallen (D : Dk) (keep : List Bool) : Awk (D.fallen keep) := ⟨rfl, rfl⟩
/-! ### the calls as writes -/
def flWs (L : Lg) : Nat → Nat → List (Nat × List UInt8)
  | 0, _ => []
  | f + 1, k => if L.tail.length ≤ 480 * k then [] else (secOf L (flA L k), flP L k) :: flWs L f (k + 1)
theorem flWs_mem (L : Lg) : ∀ (f k : Nat) (x : Nat × List UInt8), x ∈ flWs L f k → ∃ i, 480 * i < L.tail.length ∧ x = (secOf L (flA L i), flP L i)
  | 0, _, x, h => by cases h
  | f + 1, k, x, h => by
    unfold flWs at h
    split at h
    · cases h
    · rcases List.mem_cons.1 h with h | h
      · exact ⟨k, by omega, h⟩
      · exact flWs_mem L f (k + 1) x h
theorem flWs_len (L : Lg) : ∀ (f k : Nat), (flWs L f k).length ≤ (L.tail.length + 479) / 480 - k
  | 0, _ => Nat.zero_le _
  | f + 1, k => by
    have ih := flWs_len L f (k + 1)
    unfold flWs
    split
    · exact Nat.zero_le _
    · rw [List.length_cons]
      omega
theorem fl_ws (L : Lg) : ∀ (f k : Nat) (D : Dk), (if (flW L f k D).1 ≠ 0 then (flW L f k D).1 else sE (flW L f k D).2) = (wsE D (flWs L f k)).1 ∧ (if (flW L f k D).1 ≠ 0 then (flW L f k D).2 else sD (flW L f k D).2) = (wsE D (flWs L f k)).2
  | 0, k, D => ⟨rfl, rfl⟩
  | f + 1, k, D => by
    by_cases h1 : L.tail.length ≤ 480 * k
    · have e1 : flW L (f + 1) k D = (0, D) := by unfold flW; rw [if_pos h1]
      have e2 : flWs L (f + 1) k = [] := by unfold flWs; rw [if_pos h1]
      rw [e1, e2]
      exact ⟨rfl, rfl⟩
    · have e2 : flWs L (f + 1) k = (secOf L (flA L k), flP L k) :: flWs L f (k + 1) := by
        show (if L.tail.length ≤ 480 * k then [] else _) = _
        rw [if_neg h1]
      have e3 : wsE D ((secOf L (flA L k), flP L k) :: flWs L f (k + 1)) = if wE D (flS L k) (flP L k) ≠ 0 then (wE D (flS L k) (flP L k), wD D (flS L k) (flP L k)) else wsE (wD D (flS L k) (flP L k)) (flWs L f (k + 1)) := rfl
      rw [e2]
      by_cases h2 : wE D (flS L k) (flP L k) ≠ 0
      · have e1 : flW L (f + 1) k D = (wE D (flS L k) (flP L k), wD D (flS L k) (flP L k)) := by unfold flW; rw [if_neg h1, if_pos h2]
        rw [e1, e3.trans (if_pos h2)]
        exact ⟨if_pos h2, if_pos h2⟩
      · have e1 : flW L (f + 1) k D = flW L f (k + 1) (wD D (flS L k) (flP L k)) := by
          show (if L.tail.length ≤ 480 * k then _ else _) = _
          rw [if_neg h1, if_neg h2]
        rw [e1, e3.trans (if_neg h2)]
        exact fl_ws L f (k + 1) _
theorem fl_is {D : Dk} {L : Lg} (hon : D.off = false) (hs : L.sure ≠ endOf L) : flE D L = (wsE D (flWs L L.tail.length 0)).1 ∧ flD D L = (wsE D (flWs L L.tail.length 0)).2 := by
  obtain ⟨h1, h2⟩ := fl_ws L L.tail.length 0 D
  have h3 : ¬ D.off = true := by rw [hon]; decide
  unfold flE flD
  rw [if_neg h3, if_neg hs, if_neg h3, if_neg hs]
  exact ⟨h1, h2⟩
def bgWs (L : Lg) : List (Nat × List UInt8) := (L.at_, bgB L) :: (if roomOf (nextL L) > 0 then [(secOf (nextL L) (flo L.sure), bgP L)] else [])
theorem bg_is (D : Dk) (L : Lg) : bgE D L = (wsE D (bgWs L)).1 ∧ bgD D L = (wsE D (bgWs L)).2 := by
  unfold bgE bgD bgWs bgS
  by_cases h1 : roomOf (nextL L) > 0
  · rw [if_pos h1, if_pos h1, if_pos h1]
    unfold wsE
    split
    · exact ⟨rfl, rfl⟩
    · unfold wsE
      split
      · exact ⟨rfl, rfl⟩
      · exact ⟨rfl, rfl⟩
  · rw [if_neg h1, if_neg h1, if_neg h1]
    unfold wsE
    split
    · exact ⟨rfl, rfl⟩
    · exact ⟨rfl, rfl⟩
end Go.Proofs.YtdifpbicdicggaaDoor
namespace Go.Proofs.YtdifpbicdicggaaDoor
open Go.RowKit

/-- The log as an opening finds it, with so many bytes. -/
def cutL (L : Lg) (H : List UInt8) (e : Nat) : Lg := ⟨L.at_, L.hd, e, (H.take e).drop (flo e), 0⟩
section
variable {D D2 : Dk} {L L2 : Lg} {H S : List UInt8} {ep : Nat → Nat} {n : Nat}
/-- Behind some of a Flush's writes. -/
structure Mx (D D2 : Dk) (L : Lg) : Prop where
  awk : Awk D2
  pen : D2.pen = []
  bd : Bd D2
  len : D2.dur.length = D.dur.length
  mix : ∀ s, s < D.dur.length → D2.at s = D.at s ∨ ∃ i, 480 * i < L.tail.length ∧ s = secOf L (flA L i) ∧ D2.at s = flP L i
/-- The j-th part is one of the new ones. -/
def NewP (D2 : Dk) (L : Lg) (j : Nat) : Prop := ∃ i, j = L.sure / 480 + i ∧ 480 * i < L.tail.length ∧ D2.at (secOf L (480 * j)) = flP L i
theorem NewP.prt (h : Rg D L H) (m : Mx D D2 L) {j : Nat} (hn : NewP D2 L j) : Prt D2 L j L.hd.ep ((H.drop (480 * j)).take 480) := by
  obtain ⟨i, rfl, hi, hb⟩ := hn
  have hfl : flo L.sure = 480 * (L.sure / 480) := by unfold flo; omega
  have e6 : (L.tail.drop (480 * i)).take 480 = (H.drop (480 * (L.sure / 480 + i))).take 480 := by
    rw [h.tail, List.drop_drop, hfl]
    congr 2
    omega
  have hlt : L.tail.length = H.length - flo L.sure := by rw [h.tail, List.length_drop]
  refine Prt.of_seal (L := L) m.awk.1 (by rw [m.len]; exact (h.sec _).1) ?_ (by rw [List.length_take]; omega) (by have := h.big; omega) h.hd.ep
  rw [hb]
  unfold flP partB
  rw [e6, flA_part, show 480 * (L.sure / 480 + i) / 480 = L.sure / 480 + i by omega]
/-- A part that is there and isn't new is as it was. -/
theorem Mx.old (h : Rg D L H) (m : Mx D D2 L) {j : Nat} (hn : ¬ NewP D2 L j) (ht : ptThere D2 L (480 * j) = true) : D2.at (secOf L (480 * j)) = D.at (secOf L (480 * j)) := by
  rcases m.mix (secOf L (480 * j)) (h.sec _).1 with h1 | ⟨i, hi, hs, hb⟩
  · exact h1
  · exfalso
    have hbg := h.big
    have hsu := h.sure
    have hfl : flo L.sure = 480 * (L.sure / 480) := by unfold flo; omega
    have hlt : L.tail.length = H.length - flo L.sure := by rw [h.tail, List.length_drop]
    obtain ⟨p1, p2⟩ := ptAt_seal (D := D2) m.awk.1 (i := secOf L (480 * j)) (by rw [m.len]; exact (h.sec _).1) (flA L i / 480) L.hd.ep ((L.tail.drop (480 * i)).take 480) hb (by rw [List.length_take]; omega) (by rw [flA_part]; omega) h.hd.ep
    unfold ptThere at ht
    rw [p1, p2] at ht
    simp only [Bool.true_and, decide_eq_true_eq] at ht
    rw [flA_part] at ht
    have hj : j = L.sure / 480 + i := by omega
    exact hn ⟨i, hj, hi, hb⟩
theorem Mx.thereOld (h : Rg D L H) (m : Mx D D2 L) {j : Nat} (hn : ¬ NewP D2 L j) (ht : ptThere D2 L (480 * j) = true) : ptThere D L (480 * j) = true ∧ ptAt D2 (secOf L (480 * j)) = ptAt D (secOf L (480 * j)) := by
  obtain ⟨e1, e2⟩ := there_same (L2 := L) h.on m.awk.1 m.len rfl rfl (h.sec (480 * j)).1 (m.old h hn ht)
  exact ⟨e1 ▸ ht, e2⟩
/-- The parts ahead of the tail's are as they were. -/
theorem Mx.before (h : Rg D L H) (m : Mx D D2 L) {j : Nat} (h1 : L.hd.fi / 480 ≤ j) (h2 : j < L.sure / 480) : D2.at (secOf L (480 * j)) = D.at (secOf L (480 * j)) := by
  rcases m.mix (secOf L (480 * j)) (h.sec _).1 with h3 | ⟨i, hi, hs, hb⟩
  · exact h3
  · exfalso
    have hlt : L.tail.length = H.length - flo L.sure := by rw [h.tail, List.length_drop]
    have hri := h.ring
    have hfs := h.fs
    have hfl : flo L.sure = 480 * (L.sure / 480) := by unfold flo; omega
    have hsu := h.sure
    rw [flA_part] at hs
    exact sec_far (L := L) (a := j) (b := L.sure / 480 + i) (by omega) (by omega) (by omega) hs
theorem Mx.read (h : Rg D L H) (hd : Dur D L (H.take L.sure) ep) (m : Mx D D2 L) : ∀ (f i : Nat) (e : Int), (i = 0 ∧ e = (thr L ep (L.sure / 480) : Int) ∨ 0 < i ∧ e = (L.hd.ep : Int)) → 480 * (L.sure / 480 + i) ≤ H.length → H.length ≤ 480 * (L.sure / 480 + i + f) →
    ∃ x, L.sure ≤ x ∧ 480 * (L.sure / 480 + i) ≤ x ∧ x ≤ H.length ∧ thP D2 L f (480 * (L.sure / 480 + i)) e = (H.take x).drop (480 * (L.sure / 480 + i)) ∧ ∀ i', i ≤ i' → 480 * (L.sure / 480 + i') + 480 ≤ x → NewP D2 L (L.sure / 480 + i')
  | 0, i, e, he, h1, h2 => by
    have hsu := h.sure
    refine ⟨H.length, hsu, h1, Nat.le_refl _, ?_, fun i' h3 h4 => by omega⟩
    rw [List.take_length, List.drop_of_length_le (by omega)]
    rfl
  | f + 1, i, e, he, h1, h2 => by
    have hsu := h.sure
    have htk : (H.take L.sure).length = L.sure := by rw [List.length_take]; omega
    obtain ⟨T, hT⟩ : ∃ T, L.sure / 480 = T := ⟨_, rfl⟩
    rw [hT] at he h1 h2 ⊢
    have hthr : thr L ep T ≤ L.hd.ep := by
      unfold thr
      split
      · exact (hd.old _).2
      · exact Nat.le_trans (hd.old 0).1 (hd.old 0).2
    have hee : e ≤ (L.hd.ep : Int) := by
      rcases he with ⟨-, rfl⟩ | ⟨-, rfl⟩
      · exact Int.ofNat_le.2 hthr
      · exact Int.le_refl _
    by_cases hN : NewP D2 L (T + i)
    · have hp := NewP.prt h m hN
      have hl : ((H.drop (480 * (T + i))).take 480).length = min 480 (H.length - 480 * (T + i)) := by rw [List.length_take, List.length_drop]
      have hst : thP D2 L (f + 1) (480 * (T + i)) e = if min 480 (H.length - 480 * (T + i)) < 480 then (H.drop (480 * (T + i))).take 480 else (H.drop (480 * (T + i))).take 480 ++ thP D2 L f (480 * (T + i) + 480) (L.hd.ep : Int) := by
        show (if ptThere D2 L (480 * (T + i)) = true ∧ ¬ (ptAt D2 (secOf L (480 * (T + i)))).ep < e then (if (ptAt D2 (secOf L (480 * (T + i)))).by_.length < 480 then (ptAt D2 (secOf L (480 * (T + i)))).by_ else (ptAt D2 (secOf L (480 * (T + i)))).by_ ++ thP D2 L f (480 * (T + i) + 480) (ptAt D2 (secOf L (480 * (T + i)))).ep) else []) = _
        rw [hp.there, hp.ep, hp.by_, if_pos ⟨rfl, by omega⟩, hl]
      rw [hst]
      by_cases hsh : H.length < 480 * (T + i) + 480
      · rw [if_pos (by omega)]
        refine ⟨H.length, hsu, h1, Nat.le_refl _, ?_, fun i' h3 h4 => by omega⟩
        rw [List.take_length, List.take_of_length_le (by rw [List.length_drop]; omega)]
      · rw [if_neg (by omega)]
        obtain ⟨x, x1, x2, x3, x4, x5⟩ := Mx.read h hd m f (i + 1) (L.hd.ep : Int) (.inr ⟨by omega, rfl⟩) (by rw [hT]; omega) (by rw [hT]; omega)
        rw [hT] at x2 x4 x5
        refine ⟨x, x1, by omega, x3, ?_, fun i' h3 h4 => ?_⟩
        · rw [show 480 * (T + i) + 480 = 480 * (T + (i + 1)) by omega, x4]
          have e1 : (H.drop (480 * (T + i))).take 480 = ((H.take x).drop (480 * (T + i))).take 480 := by
            rw [List.drop_take, List.take_take, Nat.min_eq_left (by omega)]
          rw [e1, show 480 * (T + (i + 1)) = 480 * (T + i) + 480 by omega, ← List.drop_drop, List.take_append_drop]
        · rcases Nat.lt_or_ge i i' with h5 | h5
          · exact x5 i' h5 h4
          · obtain rfl : i' = i := by omega
            exact hN
    · -- the reading ends here
      have hx0 : ∀ x0, L.sure ≤ x0 → 480 * (T + i) ≤ x0 → (x0 = L.sure ∨ x0 = 480 * (T + i)) → (∀ i', i ≤ i' → 480 * (T + i') + 480 ≤ x0 → NewP D2 L (T + i')) := fun x0 a1 a2 a3 i' a4 a5 => by
        exfalso
        rcases a3 with rfl | rfl <;> omega
      have hunf : thP D2 L (f + 1) (480 * (T + i)) e = if ptThere D2 L (480 * (T + i)) = true ∧ ¬ (ptAt D2 (secOf L (480 * (T + i)))).ep < e then (if (ptAt D2 (secOf L (480 * (T + i)))).by_.length < 480 then (ptAt D2 (secOf L (480 * (T + i)))).by_ else (ptAt D2 (secOf L (480 * (T + i)))).by_ ++ thP D2 L f (480 * (T + i) + 480) (ptAt D2 (secOf L (480 * (T + i)))).ep) else [] := rfl
      by_cases hb : i = 0 ∧ ¬ L.sure % 480 = 0
      · obtain ⟨rfl, hb⟩ := hb
        have hp := hd.part T (by rw [← hT]; exact Nat.div_le_div_right h.st.2.2) (by rw [htk]; omega)
        have hl := hd.last (by rw [htk]; exact hb)
        rw [htk, hT] at hl
        rw [hl] at hp
        have hat : D2.at (secOf L (480 * T)) = D.at (secOf L (480 * T)) := by
          rcases m.mix (secOf L (480 * T)) (h.sec _).1 with h3 | ⟨i2, hi2, hs2, hb2⟩
          · exact h3
          · exfalso
            have htl := h.tail_len
            have hlt : L.tail.length = H.length - flo L.sure := by rw [h.tail, List.length_drop]
            rw [flA_part, hT] at hs2
            rcases Nat.eq_zero_or_pos i2 with rfl | hpos
            · exact hN ⟨0, by rw [hT], hi2, hb2⟩
            · exact sec_far (L := L) (a := T) (b := T + i2) (by omega) (by omega) (by omega) hs2
        have hp2 := hp.same (L2 := L) h.on m.awk.1 m.len rfl rfl (h.sec _).1 hat
        have hby : ((H.take L.sure).drop (480 * T)).take 480 = (H.take L.sure).drop (480 * T) := List.take_of_length_le (by rw [List.length_drop, htk]; omega)
        rw [hby] at hp2
        refine ⟨L.sure, Nat.le_refl _, by omega, hsu, ?_, hx0 L.sure (Nat.le_refl _) (by omega) (.inl rfl)⟩
        rw [hunf, Nat.add_zero, hp2.there, hp2.ep, hp2.by_, if_pos ⟨rfl, by omega⟩, if_pos (by rw [List.length_drop, htk]; omega)]
      · have hge : L.sure ≤ 480 * (T + i) := by omega
        have hnil : thP D2 L (f + 1) (480 * (T + i)) e = [] := by
          rw [hunf]
          by_cases hth : ptThere D2 L (480 * (T + i)) = true
          · obtain ⟨t1, t2⟩ := m.thereOld h hN hth
            rw [t2]
            by_cases hi0 : i = 0
            · subst hi0
              have he1 : e = (thr L ep T : Int) := by
                rcases he with ⟨-, h5⟩ | ⟨h5, -⟩
                · exact h5
                · omega
              rcases hd.stop (T + 0) (by rw [htk]; omega) t1 with q | q
              · rw [q]
                split
                · rfl
                · rfl
              · rw [if_neg]
                rintro ⟨-, h6⟩
                rw [he1] at h6
                exact h6 q
            · have he1 : e = (L.hd.ep : Int) := by
                rcases he with ⟨h5, -⟩ | ⟨-, h5⟩
                · omega
                · exact h5
              rcases hd.stale (T + i) (by rw [htk]; exact hge) t1 with q | ⟨-, q, -⟩
              · rw [if_neg]
                rintro ⟨-, h6⟩
                rw [he1] at h6
                exact h6 q
              · rw [htk] at q
                omega
          · rw [if_neg (fun h6 => hth h6.1)]
        rw [hnil]
        refine ⟨480 * (T + i), hge, Nat.le_refl _, h1, ?_, hx0 _ hge (Nat.le_refl _) (.inr rfl)⟩
        rw [List.drop_of_length_le (by rw [List.length_take]; omega)]
set_option maxHeartbeats 1600000 in
/-- Behind such a fall an opening finds all that was sure, and some of the next records. -/
theorem Mx.fal (h : Rg D L H) (m : Mx D D2 L) (rsS rsM : List (List UInt8)) (hr : ∀ p ∈ rsS ++ rsM, RecOk p) (hH : H.drop L.hd.fi = recsB (rsS ++ rsM)) (hsr : L.sure = L.hd.fi + (recsB rsS).length) :
    ∃ pre post, rsM = pre ++ post ∧ Fal D2 (cutL L H (L.sure + (recsB pre).length)) (H.take (L.sure + (recsB pre).length)) := by
  obtain ⟨ep, hd⟩ := h.dur
  have hsu := h.sure
  have hst := h.st
  have hfs := h.fs
  have hri := h.ring
  have hcn := h.cn
  have htk : (H.take L.sure).length = L.sure := by rw [List.length_take]; omega
  obtain ⟨T, hT⟩ : ∃ T, L.sure / 480 = T := ⟨_, rfl⟩
  obtain ⟨a, ha⟩ : ∃ a, L.hd.fi / 480 = a := ⟨_, rfl⟩
  have haT : a ≤ T := by rw [← ha, ← hT]; exact Nat.div_le_div_right hst.2.2
  have hrl : (recsB rsS).length + (recsB rsM).length = H.length - L.hd.fi := by rw [← List.length_append, ← recsB_app, ← hH, List.length_drop]
  rw [← hfs, ha] at hri
  have hbef : ∀ j, a ≤ j → j < T → Prt D2 L j (ep j) ((H.drop (480 * j)).take 480) := fun j h1 h2 => by
    have hp := hd.part j (by rw [ha]; exact h1) (by rw [htk]; omega)
    have e5 : ((H.take L.sure).drop (480 * j)).take 480 = (H.drop (480 * j)).take 480 := by
      rw [List.drop_take, List.take_take, Nat.min_eq_left (by omega)]
    rw [e5] at hp
    exact hp.same (L2 := L) h.on m.awk.1 m.len rfl rfl (h.sec _).1 (m.before h (by rw [ha]; exact h1) (by rw [hT]; exact h2))
  have hfull := thP_full (S := H) hbef hd.mono (by omega) (T - a) a (L.hd.cn + 1) (L.hd.old : Int) (Nat.le_refl _) (by omega) (by omega) (.inr (Int.ofNat_le.2 (hd.old a).1))
  have hthr : (if T - a = 0 then (L.hd.old : Int) else (ep (T - 1) : Int)) = (thr L ep T : Int) := by
    unfold thr
    rw [ha]
    by_cases h1 : T - a = 0
    · rw [if_pos h1, if_neg (by omega)]
    · rw [if_neg h1, if_pos (by omega)]
  rw [hthr] at hfull
  obtain ⟨x, x1, x2, x3, x4, x5⟩ := m.read h hd (L.hd.cn + 1 - (T - a)) 0 (thr L ep T : Int) (.inl ⟨rfl, by rw [hT]⟩) (by rw [hT]; omega) (by rw [hT]; omega)
  simp only [hT, Nat.add_zero] at x2 x4
  rw [hT] at x5
  rw [x4] at hfull
  have hall : thP D2 L (L.hd.cn + 1) (480 * a) (L.hd.old : Int) = (H.take x).drop (480 * a) := by
    rw [hfull]
    have e1 : (H.drop (480 * a)).take (480 * (T - a)) = ((H.take x).drop (480 * a)).take (480 * (T - a)) := by
      rw [List.drop_take, List.take_take, Nat.min_eq_left (by omega)]
    rw [e1, show 480 * T = 480 * a + 480 * (T - a) by omega, ← List.drop_drop, List.take_append_drop]
  obtain ⟨pre, post, c1, c2, c3⟩ := recs_cut rsM (x - L.sure) (fun p hp => hr p (by simp [hp])) (by omega)
  refine ⟨pre, post, c1, ?_⟩
  obtain ⟨e, he⟩ : ∃ e, L.sure + (recsB pre).length = e := ⟨_, rfl⟩
  rw [he]
  have hel : (H.take e).length = e := by rw [List.length_take]; omega
  have hJ : (H.take x).drop e = (recsB post).take (x - L.sure - (recsB pre).length) := by
    rw [List.drop_take]
    have h1 : H.drop e = recsB post := by
      rw [show e = L.hd.fi + ((recsB rsS).length + (recsB pre).length) by omega, ← List.drop_drop, hH, c1, ← List.append_assoc, recsB_app, recsB_app]
      exact List.drop_left' (by rw [List.length_append])
    rw [h1]
    congr 1
    omega
  have hbg := h.big
  refine ⟨m.awk, m.pen, m.bd, h.hd, h.cn, by rw [m.len]; exact h.at_, rfl, hel.symm, ?_, ?_, rfl, ?_, by rw [hel]; omega, h.epo, ?_, ?_, fun j => if j < T then ep j else L.hd.ep, ?_⟩
  · rw [hel]
    show 480 ≤ L.hd.st ∧ L.hd.fi = L.hd.st ∧ L.hd.fi ≤ e
    omega
  · rw [hel]
    show L.hd.ck ≤ e
    have := h.ck
    omega
  · rw [hel]
    show e ≤ (L.hd.st / 480 + L.hd.cn) * 480
    rw [← hfs, ha]
    omega
  · show D2.at L.at_ = sealB 1 L.hd.ns []
    rw [← h.head]
    rcases m.mix L.at_ (by have := h.at_; omega) with h1 | ⟨i, -, h1, -⟩
    · exact h1
    · exact absurd h1.symm (h.sec _).2
  · refine ⟨rsS ++ pre, fun p hp => hr p ?_, ?_⟩
    · rcases List.mem_append.1 hp with h1 | h1
      · simp [h1]
      · rw [c1]; simp [h1]
    · show (H.take e).drop L.hd.fi = _
      rw [List.drop_take, hH, c1, ← List.append_assoc, recsB_app (rsS ++ pre)]
      exact List.take_left' (by rw [recsB_app, List.length_append]; omega)
  · have hfi : (cutL L H e).hd.fi = L.hd.fi := rfl
    refine ⟨fun j k1 k2 => ?_, fun j k hjk => ?_, fun j => ?_, ⟨(H.take x).drop e, ?_, ?_⟩, fun j k1 k2 => ?_⟩
    · rw [hfi, ha] at k1
      rw [hel] at k2
      have e5 : ((H.take e).drop (480 * j)).take 480 = (H.drop (480 * j)).take 480 := by
        rw [List.drop_take, List.take_take, Nat.min_eq_left (by omega)]
      rw [e5]
      show Prt D2 (cutL L H e) j (if j < T then ep j else L.hd.ep) _
      by_cases hj : j < T
      · rw [if_pos hj]
        have hp := hbef j k1 hj
        exact ⟨hp.there, hp.ep, hp.by_⟩
      · rw [if_neg hj]
        have hn := x5 (j - T) (Nat.zero_le _) (by omega)
        rw [show T + (j - T) = j by omega] at hn
        have hp := NewP.prt h m hn
        exact ⟨hp.there, hp.ep, hp.by_⟩
    · have o1 := (hd.old j).2
      have o2 := hd.mono j k hjk
      show (if j < T then ep j else L.hd.ep) ≤ (if k < T then ep k else L.hd.ep)
      split
      · split
        · exact o2
        · exact o1
      · rw [if_neg (by omega)]
        exact Nat.le_refl _
    · show L.hd.old ≤ (if j < T then ep j else L.hd.ep) ∧ (if j < T then ep j else L.hd.ep) ≤ L.hd.ep
      have o1 := hd.old j
      split
      · exact o1
      · exact ⟨Nat.le_trans o1.1 o1.2, Nat.le_refl _⟩
    · rw [hfi, ha]
      have h1 : thP D2 (cutL L H e) (L.hd.cn + 1) (480 * a) (L.hd.old : Int) = thP D2 L (L.hd.cn + 1) (480 * a) (L.hd.old : Int) := thP_log (L := L) (L2 := cutL L H e) rfl rfl m.awk.1 m.awk.1 rfl (fun a => by rw [m.len]; exact (h.sec a).1) (fun _ => rfl) _ _ _
      show thP D2 (cutL L H e) (L.hd.cn + 1) (480 * a) (L.hd.old : Int) = _
      rw [h1, hall]
      have h2 : (H.take e).drop (480 * a) = ((H.take x).drop (480 * a)).take (e - 480 * a) := by
        rw [List.drop_take, List.drop_take, List.take_take, Nat.min_eq_left (by omega)]
      have h3 : (H.take x).drop e = ((H.take x).drop (480 * a)).drop (e - 480 * a) := by
        rw [List.drop_drop, show 480 * a + (e - 480 * a) = e by omega]
      rw [h2, h3, List.take_append_drop]
    · rw [hJ]
      exact c3
    · rw [hel] at k1
      left
      show (ptAt D2 (secOf L (480 * j))).ep ≤ (L.hd.ep : Int)
      have k2 : ptThere D2 L (480 * j) = true := k2
      by_cases hn : NewP D2 L j
      · rw [(NewP.prt h m hn).ep]
        exact Int.le_refl _
      · obtain ⟨t1, t2⟩ := m.thereOld h hn k2
        rw [t2]
        by_cases hj : L.sure ≤ 480 * j
        · rcases hd.stale j (by rw [htk]; exact hj) t1 with q | ⟨q, -, -⟩
          · exact Int.le_of_lt q
          · exact Int.le_of_eq q
        · rw [(hd.part j (by rw [ha]; omega) (by rw [htk]; omega)).ep]
          exact Int.ofNat_le.2 (hd.old j).2
/-- Where nothing is under way an opening finds all. -/
theorem Rg.fal (h : Rg D L H) (rs : List (List UInt8)) (hr : ∀ p ∈ rs, RecOk p) (hH : H.drop L.hd.fi = recsB rs) (hs : L.sure = H.length) : Fal D L H := by
  have hst := h.st
  obtain ⟨pre, post, e1, hf⟩ := Mx.fal (D2 := D) h ⟨h.awk, h.pen, h.bd, rfl, fun _ _ => .inl rfl⟩ rs [] (by rw [List.append_nil]; exact hr) (by rw [List.append_nil]; exact hH) (by rw [← hH, List.length_drop]; omega)
  obtain ⟨rfl, rfl⟩ := List.append_eq_nil_iff.1 e1.symm
  rw [recsB_nil] at hf
  have e2 : cutL L H (L.sure + ([] : List UInt8).length) = L := by
    unfold cutL
    show (⟨L.at_, L.hd, L.sure, (H.take L.sure).drop (flo L.sure), 0⟩ : Lg) = L
    rw [hs, List.take_length, ← hs, ← h.tail, ← h.held]
  rw [e2] at hf
  have e3 : H.take (L.sure + ([] : List UInt8).length) = H := List.take_of_length_le (by rw [hs]; exact Nat.le_add_right _ _)
  rw [e3] at hf
  exact hf
end
end Go.Proofs.YtdifpbicdicggaaDoor
