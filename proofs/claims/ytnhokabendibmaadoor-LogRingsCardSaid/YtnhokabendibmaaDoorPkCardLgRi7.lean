/-
  The log's bytes on a disk that is on: what its parts hold, and what reading them gives (plain).
  A log on a disk whose parts hold it: through Append, Flush, Mark and Open it stays so (plain).
  A log on a disk whose parts hold it: Mark and Open (plain).
  The laws' model of a log, in memory: its records, its numbers.
  The laws' model of a log: put, room, same.
  The laws' model of a log: same, all.
  The laws' model of a log: all its records are read.
-/
import Derived.ArgAppend
import Derived.Test.YtnhokabendibmaaDoorPkCardLgRi6
set_option linter.unusedVariables false
set_option linter.unusedSimpArgs false

namespace Go.Proofs.YtnhokabendibmaaDoor
open Go.RowKit

theorem rg_flW_bd (L : Lg) (T : Nat) (hT : L.tail.length ≤ T) : ∀ (f k : Nat) (D : Dk), Bd D → D.pen.length + ((T + 479) / 480 - k) < 900000 → D.ops + ((T + 479) / 480 - k) < 900000 →
    Bd (flW L f k D).2 ∧ (flW L f k D).2.pen.length ≤ D.pen.length + ((T + 479) / 480 - k) ∧ (flW L f k D).2.ops ≤ D.ops + ((T + 479) / 480 - k) ∧ (flW L f k D).2.dur.length = D.dur.length
  | 0, _, D, b, _, _ => ⟨b, by show D.pen.length ≤ _; omega, by show D.ops ≤ _; omega, rfl⟩
  | f + 1, k, D, b, hp, ho => by
    unfold flW
    split
    · exact ⟨b, by show D.pen.length ≤ _; omega, by show D.ops ≤ _; omega, rfl⟩
    · rename_i h1
      have hk : k < (T + 479) / 480 := by omega
      obtain ⟨b2, p2, o2, d2⟩ := wD_bd b (by omega) (by omega) (flS L k) (flP L k)
      split
      · exact ⟨b2, by show (wD D (flS L k) (flP L k)).pen.length ≤ _; omega, by show (wD D (flS L k) (flP L k)).ops ≤ _; omega, d2⟩
      · obtain ⟨b3, p3, o3, d3⟩ := rg_flW_bd L T hT f (k + 1) (wD D (flS L k) (flP L k)) b2 (by omega) (by omega)
        exact ⟨b3, by omega, by omega, by rw [d3, d2]⟩
theorem rg_flD_bd {D : Dk} {L : Lg} {T : Nat} (hT : L.tail.length ≤ T) (b : Bd D) (hp : D.pen.length + (T + 479) / 480 < 800000) (ho : D.ops + (T + 479) / 480 < 800000) :
    Bd (flD D L) ∧ (flD D L).pen.length ≤ D.pen.length + (T + 479) / 480 + 1 ∧ (flD D L).ops ≤ D.ops + (T + 479) / 480 + 1 ∧ (flD D L).dur.length = D.dur.length := by
  have h : Bd (flZ D L).2 ∧ (flZ D L).2.pen.length ≤ D.pen.length + ((T + 479) / 480 - 0) ∧ (flZ D L).2.ops ≤ D.ops + ((T + 479) / 480 - 0) ∧ (flZ D L).2.dur.length = D.dur.length := rg_flW_bd L T hT L.tail.length 0 D b (by omega) (by omega)
  unfold flD
  split
  · exact ⟨b, by omega, by omega, rfl⟩
  · split
    · exact ⟨b, by omega, by omega, rfl⟩
    · split
      · exact ⟨h.1, by omega, by omega, h.2.2.2⟩
      · obtain ⟨b3, p3, o3, d3⟩ := sD_bd h.1 (by omega)
        exact ⟨b3, by omega, by omega, by rw [d3, h.2.2.2]⟩
theorem rg_flL_hd (D : Dk) (L : Lg) : (flL D L).hd = L.hd ∧ (flL D L).at_ = L.at_ ∧ (flL D L).held = L.held ∧ (flL D L).tail.length ≤ L.tail.length ∧ (flL D L).sure ≤ L.sure + L.tail.length := by
  unfold flL
  split
  · refine ⟨rfl, rfl, rfl, ?_, ?_⟩
    · show (L.tail.drop _).length ≤ _
      rw [List.length_drop]; omega
    · show endOf L ≤ _
      unfold endOf
      have := flo_le L.sure
      omega
  · exact ⟨rfl, rfl, rfl, Nat.le_refl _, by omega⟩
theorem rg_flL_ok {D D' : Dk} {L : Lg} (ok : L.Ok D) (hs : L.sure + L.tail.length < 1152921504606846976) (hd : D'.dur.length = D.dur.length) : (flL D L).Ok D' := by
  obtain ⟨e1, e2, e3, e4, e5⟩ := rg_flL_hd D L
  exact ⟨by rw [e1]; exact ok.hd, by rw [e1]; exact ok.cn, by rw [e1, e2, hd]; exact ok.at_, by omega, by have := ok.tail; omega, by rw [e3]; exact ok.held⟩
section
variable {D : Dk} {L L2 : Lg} {n : Nat} {S H : List UInt8}
theorem rg_at_put (D : Dk) (hk : ∀ x ∈ D.pen, True) (i : Nat) (p : List UInt8) (j : Nat) (D' : Dk) (h1 : D'.dur = D.dur) (h2 : D'.pen = D.pen ++ [(i, p)]) : D'.at j = if j = i then p else D.at j := by
  have hl : lastP (D.pen ++ [(i, p)]) j = if j = i then D.pen.length + 1 else lastP D.pen j := by
    rw [lastP_snoc]
    by_cases e : j = i
    · rw [if_pos e, if_pos e.symm]
    · rw [if_neg e, if_neg (fun h => e h.symm)]
  unfold Dk.at
  rw [h1, h2, hl]
  by_cases e : j = i
  · rw [if_pos e, if_pos e, if_neg (by omega)]
    simp
  · rw [if_neg e, if_neg e]
    rcases lastP_at D.pen.length D.pen j rfl with h | ⟨s, h3, h4, h5⟩
    · rw [if_pos h, if_pos h]
    · rw [if_neg (by omega), if_neg (by omega)]
      simp only [List.getD_eq_getElem?_getD]
      rw [List.getElem?_append_left (by omega)]
theorem rg_at_wD (h : Awk D) (i : Nat) (p : List UInt8) (hi : i < D.dur.length) (hp : p.length = 512) (j : Nat) : (wD D (i : Int) p).at j = if j = i then p else D.at j := by
  obtain ⟨h1, h2⟩ := h
  refine rg_at_put D (fun _ _ => trivial) i p j _ ?_ ?_
  · unfold wD
    rw [if_neg (by omega), if_neg (by omega), if_neg (by rw [h1]; decide)]
    rfl
  · unfold wD
    rw [if_neg (by omega), if_neg (by omega), if_neg (by rw [h1]; decide), Int.toNat_natCast]
    rfl
theorem rg_durK_all (dur : List (List UInt8)) (pen : List (Nat × List UInt8)) (j : Nat) (hj : j < dur.length) : ∀ k, k ≤ pen.length → (durK (fun _ => true) dur pen k).getD j [] = if lastP (pen.take k) j = 0 then dur.getD j [] else (pen.getD (lastP (pen.take k) j - 1) (0, [])).2
  | 0, _ => by rw [durK_zero, List.take_zero, lastP_nil, if_pos rfl]
  | k + 1, hk => by
    have ih := rg_durK_all dur pen j hj k (by omega)
    have hx : pen[k]? = some pen[k] := List.getElem?_eq_getElem (by omega)
    rw [durK_succ _ _ _ _ _ hx, if_pos rfl, List.take_add_one, hx, Option.toList_some, lastP_snoc, List.length_take, Nat.min_eq_left (by omega)]
    by_cases e : pen[k].1 = j
    · rw [if_pos e, if_neg (by omega), Nat.add_sub_cancel, e]
      rw [List.getD_eq_getElem?_getD, List.getElem?_set_self (by rw [durK_len]; exact hj), List.getD_eq_getElem?_getD, hx]
      rfl
    · rw [if_neg e, ← ih, List.getD_eq_getElem?_getD, List.getElem?_set_ne e, ← List.getD_eq_getElem?_getD]
theorem rg_at_sD (h : Awk D) (j : Nat) (hj : j < D.dur.length) : (sD D).at j = D.at j := by
  obtain ⟨h1, h2⟩ := h
  unfold sD
  rw [if_neg (by rw [h1]; decide), if_neg (by omega)]
  show (if lastP [] j = 0 then (durK (fun _ => true) D.dur D.pen D.pen.length).getD j [] else _) = _
  rw [lastP_nil, if_pos rfl, rg_durK_all D.dur D.pen j hj _ (Nat.le_refl _), List.take_length]
  rfl
theorem rg_awk_sD (h : Awk D) : Awk (sD D) := by
  obtain ⟨h1, h2⟩ := h
  unfold sD
  rw [if_neg (by rw [h1]; decide), if_neg (by omega)]
  refine ⟨?_, ?_⟩
  · show (D.off || decide (D.arm = 1)) = false
    rw [h1, h2]; rfl
  · show D.arm - 1 = 0
    omega
theorem sD_pen (h : Awk D) : (sD D).pen = [] := by
  obtain ⟨h1, h2⟩ := h
  unfold sD
  rw [if_neg (by rw [h1]; decide), if_neg (by omega)]
  rfl
theorem gE_on (hon : D.off = false) {i : Nat} (hi : i < D.dur.length) : gE D (i : Int) = 0 := by
  unfold gE
  rw [if_neg (by omega), if_neg (by rw [hon]; decide)]
theorem gB_on (hon : D.off = false) {i : Nat} (hi : i < D.dur.length) : gB D (i : Int) = D.at i := by
  unfold gB
  rw [if_neg (by omega), if_neg (by rw [hon]; decide), Int.toNat_natCast]
/-- What a part's sector reads as. -/
theorem ptAt_seal (hon : D.off = false) {i : Nat} (hi : i < D.dur.length) (num ep : Nat) (p : List UInt8) (hb : D.at i = sealB 2 (ptNs num ep p.length) p) (hp : p.length ≤ 480) (h1 : num < 18446744073709551616) (h2 : ep < 18446744073709551616) :
    ptIs D (i : Int) = true ∧ ptAt D (i : Int) = ⟨(num : Int), (ep : Int), (p.length : Int), p⟩ := by
  have hl : (ptNs num ep p.length).length ≤ 6 := by simp [ptNs]
  have h3 : ptIs D (i : Int) = true := by
    unfold ptIs
    rw [gE_on hon hi, gB_on hon hi, hb, unsE_seal hl hp]
    rfl
  refine ⟨h3, ?_⟩
  unfold ptAt
  rw [if_pos h3, gB_on hon hi, hb]
  have n0 := numAt_seal (kind := 2) hl hp 0 (num : Int) rfl (by omega) (.inr (by decide))
  have n1 := numAt_seal (kind := 2) hl hp 1 (ep : Int) rfl (by omega) (.inr (by decide))
  have n2 := numAt_seal (kind := 2) hl hp 2 (p.length : Int) rfl (by omega) (.inr (by decide))
  have hle : ptLen (sealB 2 (ptNs num ep p.length) p) = p.length := by
    unfold ptLen
    rw [n2]
    omega
  unfold ptOf
  rw [n0, n1, n2, hle, tail_seal hl hp]
/-- The j-th part is there, with that epoch and these bytes. -/
structure Prt (D : Dk) (L : Lg) (j e : Nat) (p : List UInt8) : Prop where
  there : ptThere D L (480 * j) = true
  ep : (ptAt D (secOf L (480 * j))).ep = (e : Int)
  by_ : (ptAt D (secOf L (480 * j))).by_ = p
theorem sec_part (L : Lg) (j : Nat) : secOf L (480 * j) = L.at_ + 1 + j % L.hd.cn := by
  unfold secOf
  rw [show 480 * j / 480 = j by omega]
theorem Prt.of_seal (hon : D.off = false) {j e : Nat} {p : List UInt8} (hi : secOf L (480 * j) < D.dur.length) (hb : D.at (secOf L (480 * j)) = sealB 2 (ptNs j e p.length) p) (hp : p.length ≤ 480) (h1 : j < 18446744073709551616) (h2 : e < 18446744073709551616) : Prt D L j e p := by
  obtain ⟨a, b⟩ := ptAt_seal hon hi j e p hb hp h1 h2
  refine ⟨?_, by rw [b], by rw [b]⟩
  unfold ptThere
  rw [a, b]
  simp
/-- The bytes S stand on the parts, from the first needed one on, and nothing behind them. -/
structure Dur (D : Dk) (L : Lg) (S : List UInt8) (ep : Nat → Nat) : Prop where
  part : ∀ j, L.hd.fi / 480 ≤ j → 480 * j < S.length → Prt D L j (ep j) ((S.drop (480 * j)).take 480)
  mono : ∀ j k, j ≤ k → ep j ≤ ep k
  old : ∀ j, L.hd.old ≤ ep j ∧ ep j ≤ L.hd.ep
  beyond : ∀ j, S.length ≤ 480 * j → ptThere D L (480 * j) = true → 480 * j = S.length ∧ (ptAt D (secOf L (480 * j))).by_ = []
theorem Dur.th {ep : Nat → Nat} (h : Dur D L S ep) : ∀ (f j : Nat) (e : Int), L.hd.fi / 480 ≤ j → 480 * j ≤ S.length → S.length ≤ 480 * (j + f) → e ≤ (ep j : Int) → thP D L f (480 * j) e = S.drop (480 * j)
  | 0, j, e, _, h2, h3, _ => by
    rw [List.drop_of_length_le (by omega)]
    rfl
  | f + 1, j, e, h1, h2, h3, h4 => by
    unfold thP
    rcases Nat.lt_or_ge (480 * j) S.length with hlt | hge
    · have hp := h.part j h1 hlt
      rw [hp.there, hp.ep, hp.by_, if_pos ⟨rfl, by omega⟩]
      split
      · rename_i h5
        rw [List.length_take, List.length_drop] at h5
        exact List.take_of_length_le (by rw [List.length_drop]; omega)
      · rename_i h5
        rw [List.length_take, List.length_drop] at h5
        have ih := h.th f (j + 1) (ep j : Int) (by omega) (by omega) (by omega) (by have := h.mono j (j + 1) (by omega); omega)
        rw [show 480 * j + 480 = 480 * (j + 1) by omega, ih, show 480 * (j + 1) = 480 * j + 480 by omega, ← List.drop_drop, List.take_append_drop]
    · rw [List.drop_of_length_le (by omega)]
      split
      · rename_i h5
        obtain ⟨-, h6⟩ := h.beyond j hge h5.1
        rw [h6]
        rfl
      · rfl
/-! ### records one behind the other -/
def frm (p : List UInt8) : List UInt8 := be2 p.length ++ p
def recsB (rs : List (List UInt8)) : List UInt8 := (rs.map frm).flatten
def RecOk (p : List UInt8) : Prop := 0 < p.length ∧ p.length ≤ 1200
theorem frm_len (p : List UInt8) : (frm p).length = 2 + p.length := by unfold frm; rw [List.length_append, be2_length]
theorem recsB_nil : recsB [] = [] := rfl
theorem recsB_cons (p : List UInt8) (rs : List (List UInt8)) : recsB (p :: rs) = frm p ++ recsB rs := by simp [recsB]
theorem recsB_app (a b : List (List UInt8)) : recsB (a ++ b) = recsB a ++ recsB b := by simp [recsB]
theorem be2_get (m : Nat) (h : m ≤ 1200) (x : List UInt8) : szOf (be2 m ++ x) = m := by
  have e : be2 m = [b8 ((m : Int) / 256 % 256), b8 ((m : Int) % 256)] := rfl
  have h0 : (b8 ((m : Int) / 256 % 256)).toNat = m / 256 := by
    unfold b8
    rw [UInt8.toNat_ofNat']
    omega
  have h1 : (b8 ((m : Int) % 256)).toNat = m % 256 := by
    unfold b8
    rw [UInt8.toNat_ofNat']
    omega
  unfold szOf
  rw [e]
  show (if (b8 ((m : Int) / 256 % 256)).toNat * 256 + (b8 ((m : Int) % 256)).toNat > 1200 then 0 else (b8 ((m : Int) / 256 % 256)).toNat * 256 + (b8 ((m : Int) % 256)).toNat) = m
  rw [h0, h1, if_neg (by omega)]
  omega
theorem whSz_frm (p x : List UInt8) (h : RecOk p) : whSz (frm p ++ x) = 2 + p.length := by
  have hz : szOf (frm p ++ x) = p.length := by unfold frm; rw [List.append_assoc]; exact be2_get _ h.2 _
  obtain ⟨h1, h2⟩ := h
  unfold whSz
  rw [hz, List.length_append, frm_len, if_neg (by omega), if_neg (by omega)]
theorem runN_recs : ∀ (rs : List (List UInt8)) (pre : List UInt8) (f : Nat), (∀ p ∈ rs, RecOk p) → rs.length ≤ f → runN (pre ++ recsB rs) f pre.length = pre.length + (recsB rs).length
  | [], pre, f, _, _ => by
    rw [recsB_nil, List.append_nil]
    cases f with
    | zero => rfl
    | succ f =>
      unfold runN
      rw [List.drop_length, if_pos (by rfl)]
      rfl
  | p :: rs, pre, f, h, hf => by
    cases f with
    | zero => simp at hf
    | succ f =>
      have hp := h p (by simp)
      have e1 : (pre ++ recsB (p :: rs)).drop pre.length = frm p ++ recsB rs := by rw [List.drop_left, recsB_cons]
      unfold runN
      rw [e1, whSz_frm p _ hp, if_neg (by omega)]
      have ih := runN_recs rs (pre ++ frm p) f (fun q hq => h q (by simp [hq])) (by simpa using hf)
      rw [List.append_assoc, List.length_append, frm_len, ← recsB_cons] at ih
      rw [ih, recsB_cons, List.length_append, frm_len]
      omega
/-! ### reading -/
/-- Bytes of any place, if they are there. -/
theorem byR_is {ep : Nat → Nat} (hon : D.off = false) (h : Dur D L (H.take L.sure) ep) (hs : L.sure ≤ H.length) (ht : L.tail = H.drop (flo L.sure)) : ∀ (f a m : Nat), m ≤ f → L.hd.fi ≤ a → a + m ≤ H.length → byR D L f a m = (0, (H.drop a).take m)
  | 0, a, m, hf, _, _ => by
    obtain rfl : m = 0 := by omega
    rfl
  | f + 1, a, m, hf, hfi, ha => by
    unfold byR
    by_cases hm : m = 0
    · subst hm
      rw [if_pos rfl]
      rfl
    · rw [if_neg hm]
      have hfl := flo_le L.sure
      have hr : rsE D L a = 0 ∧ ∃ q, 0 < q ∧ rsB D L a = (H.drop a).take q := by
        unfold rsE rsB
        by_cases hin : flo L.sure ≤ a
        · rw [if_pos hin, if_pos hin]
          refine ⟨rfl, H.length, by omega, ?_⟩
          rw [ht, List.drop_drop, show flo L.sure + (a - flo L.sure) = a by omega, List.take_of_length_le (by rw [List.length_drop]; omega)]
        · have hj : 480 * (a / 480) + 480 ≤ L.sure := by unfold flo at hin; omega
          have hlen : (H.take L.sure).length = L.sure := by rw [List.length_take]; omega
          have hp := h.part (a / 480) (Nat.div_le_div_right hfi) (by rw [hlen]; omega)
          have hsec : secOf L (480 * (a / 480)) = secOf L a := by unfold secOf; rw [show 480 * (a / 480) / 480 = a / 480 by omega]
          have hth : ptThere D L a = true := by
            have k := hp.there
            unfold ptThere at k ⊢
            rw [hsec, show 480 * (a / 480) / 480 = a / 480 by omega] at k
            exact k
          have hby := hp.by_
          rw [hsec] at hby
          have hbl : (ptAt D (secOf L a)).by_.length = 480 := by rw [hby, List.length_take, List.length_drop, hlen]; omega
          rw [if_neg hin, if_neg hin, hon, if_neg Bool.false_ne_true, if_neg Bool.false_ne_true, if_pos ⟨hth, by omega⟩, if_pos ⟨hth, by omega⟩]
          refine ⟨rfl, 480 - a % 480, by omega, ?_⟩
          rw [hby]
          apply List.ext_getElem?
          intro i
          rw [List.getElem?_drop, List.getElem?_take, List.getElem?_take, List.getElem?_drop, List.getElem?_take, List.getElem?_drop, show 480 * (a / 480) + (a % 480 + i) = a + i by omega]
          by_cases hi : i < 480 - a % 480
          · rw [if_pos (by omega), if_pos (by omega), if_pos hi]
          · rw [if_neg (by omega), if_neg hi]
      obtain ⟨r0, q, hq, hrb⟩ := hr
      rw [r0, if_neg (by decide), hrb, List.take_take]
      have hl : ((H.drop a).take (min m q)).length = min m q := by rw [List.length_take, List.length_drop]; omega
      rw [hl, byR_is hon h hs ht f (a + min m q) (m - min m q) (by omega) (by omega) (by omega)]
      have e : (H.drop a).take m = (H.drop a).take (min m q) ++ (H.drop (a + min m q)).take (m - min m q) := by
        rw [← List.drop_drop, ← List.take_add, show min m q + (m - min m q) = m by omega]
      rw [e]
theorem byE_is {ep : Nat → Nat} (hon : D.off = false) (h : Dur D L (H.take L.sure) ep) (hs : L.sure ≤ H.length) (ht : L.tail = H.drop (flo L.sure)) (a m : Nat) (hfi : L.hd.fi ≤ a) (ha : a + m ≤ H.length) : byE D L a m = 0 ∧ byB D L a m = (H.drop a).take m := by
  have k := byR_is hon h hs ht m a m (Nat.le_refl _) hfi ha
  have k1 : byE D L a m = 0 := by unfold byE; rw [k]
  refine ⟨k1, ?_⟩
  unfold byB
  rw [if_pos k1, k]
/-- The first record from a place on, where one begins. -/
theorem ffR_is {ep : Nat → Nat} (hon : D.off = false) (h : Dur D L (H.take L.sure) ep) (hs : L.sure ≤ H.length) (ht : L.tail = H.drop (flo L.sure)) (he : endOf L = H.length) : ∀ (rs more : List (List UInt8)) (a f : Nat), (∀ p ∈ rs, RecOk p) → L.hd.fi ≤ a → H.drop a = recsB (rs ++ more) → rs.length < f → ffR D L (a + (recsB rs).length) f a = (0, a + (recsB rs).length)
  | [], more, a, f, _, _, _, hf => by
    cases f with
    | zero => simp at hf
    | succ f =>
      unfold ffR
      rw [recsB_nil, if_pos (by simp)]
      rfl
  | p :: rs, more, a, f, hr, hfi, hH, hf => by
    cases f with
    | zero => simp at hf
    | succ f =>
      have hp := hr p (by simp)
      have hH2 : H.drop a = frm p ++ recsB (rs ++ more) := by rw [hH, List.cons_append, recsB_cons]
      have hlen : H.length - a = 2 + p.length + (recsB (rs ++ more)).length := by rw [← List.length_drop, hH2, List.length_append, frm_len]
      have hb := byE_is hon h hs ht a 2 hfi (by omega)
      have h2 : by2E D L a = 0 := by unfold by2E; rw [he, if_pos (by omega)]; exact hb.1
      have h3 : szOf (by2B D L a) = p.length := by
        unfold by2B
        rw [he, if_pos (by omega), hb.2, hH2]
        unfold frm
        rw [List.append_assoc, show (be2 p.length ++ (p ++ recsB (rs ++ more))).take 2 = be2 p.length ++ [] by rw [List.append_nil]; exact List.take_left' (be2_length _)]
        exact be2_get _ hp.2 _
      unfold ffR
      rw [recsB_cons, List.length_append, frm_len, if_neg (by omega), h2, if_neg (by decide), h3]
      have ih := ffR_is hon h hs ht he rs more (a + (2 + p.length)) f (fun q hq => hr q (by simp [hq])) (by omega) (by
        rw [← List.drop_drop, hH2]
        exact List.drop_left' (frm_len p)) (by simpa using hf)
      rw [show a + (2 + p.length + (recsB rs).length) = a + (2 + p.length) + (recsB rs).length by omega]
      exact ih
end
end Go.Proofs.YtnhokabendibmaaDoor
namespace Go.Proofs.YtnhokabendibmaaDoor
open Go.RowKit

/-- All is right with a log whose bytes are H, from place 0 on. -/
structure Rg (D : Dk) (L : Lg) (H : List UInt8) : Prop where
  awk : Awk D
  pen : D.pen = []
  bd : Bd D
  hd : L.hd.Ok
  cn : 4 ≤ L.hd.cn ∧ L.hd.cn ≤ 4096
  at_ : L.at_ + 1 + L.hd.cn ≤ D.dur.length
  tail : L.tail = H.drop (flo L.sure)
  sure : L.sure ≤ H.length
  st : 480 ≤ L.hd.st ∧ L.hd.st ≤ L.hd.fi ∧ L.hd.fi ≤ L.sure
  ck : L.hd.ck ≤ L.sure
  held : L.held = 0
  ring : H.length ≤ (L.hd.st / 480 + L.hd.cn) * 480
  big : H.length < 1000000000000
  epo : L.hd.ep < 1000000000000
  head : D.at L.at_ = sealB 1 L.hd.ns []
  dur : ∃ ep, Dur D L (H.take L.sure) ep
section
variable {D D2 : Dk} {L L2 : Lg} {H S : List UInt8} {ep : Nat → Nat} {n : Nat}
theorem Rg.end_ (h : Rg D L H) : endOf L = H.length := by
  have h1 := h.sure
  have h2 := flo_le L.sure
  unfold endOf
  rw [h.tail, List.length_drop]
  omega
theorem Rg.tail_len (h : Rg D L H) : L.tail.length ≤ 480 * L.hd.cn := by
  have h1 := h.ring
  have h2 := h.st
  rw [h.tail, List.length_drop]
  unfold flo
  omega
theorem Rg.ok (h : Rg D L H) : L.Ok D := ⟨h.hd, h.cn, h.at_, by have := h.sure; have := h.big; omega, by have := h.tail_len; have := h.cn; omega, by rw [h.held]; decide⟩
theorem Rg.on (h : Rg D L H) : D.off = false := h.awk.1
theorem Rg.sec (h : Rg D L H) (a : Nat) : secOf L a < D.dur.length ∧ secOf L a ≠ L.at_ := by
  have h1 := Nat.mod_lt (a / 480) (show 0 < L.hd.cn by have := h.cn; omega)
  have h2 := h.at_
  unfold secOf
  omega
theorem sec_ne {cn a b : Nat} (h : a < b) (h2 : b < a + cn) : a % cn ≠ b % cn := fun e => by
  have h3 := Nat.div_add_mod a cn
  have h4 := Nat.div_add_mod b cn
  rw [← e] at h4
  rcases Nat.lt_or_ge (a / cn) (b / cn) with h5 | h5
  · have h6 := Nat.mul_le_mul_left cn (show a / cn + 1 ≤ b / cn from h5)
    rw [Nat.mul_add, Nat.mul_one] at h6
    omega
  · have h6 := Nat.mul_le_mul_left cn h5
    omega
theorem sec_far {L : Lg} {a b : Nat} (h : a ≠ b) (h1 : a < b + L.hd.cn) (h2 : b < a + L.hd.cn) : secOf L (480 * a) ≠ secOf L (480 * b) := by
  rw [sec_part, sec_part]
  rcases Nat.lt_or_gt_of_ne h with h3 | h3
  · have := sec_ne h3 h2
    omega
  · have := sec_ne h3 h1
    omega
theorem ptAt_same (hon : D.off = false) (hon2 : D2.off = false) (hl : D2.dur.length = D.dur.length) {s : Nat} (hs : s < D.dur.length) (h : D2.at s = D.at s) : ptIs D2 (s : Int) = ptIs D (s : Int) ∧ ptAt D2 (s : Int) = ptAt D (s : Int) := by
  have e1 : ptIs D2 (s : Int) = ptIs D (s : Int) := by
    unfold ptIs
    rw [gE_on hon hs, gE_on hon2 (by rw [hl]; exact hs), gB_on hon hs, gB_on hon2 (by rw [hl]; exact hs), h]
  refine ⟨e1, ?_⟩
  unfold ptAt
  rw [e1, gB_on hon hs, gB_on hon2 (by rw [hl]; exact hs), h]
theorem sec_log (h1 : L2.at_ = L.at_) (h2 : L2.hd.cn = L.hd.cn) (a : Nat) : secOf L2 a = secOf L a := by unfold secOf; rw [h1, h2]
theorem there_same (hon : D.off = false) (hon2 : D2.off = false) (hl : D2.dur.length = D.dur.length) (h1 : L2.at_ = L.at_) (h2 : L2.hd.cn = L.hd.cn) {a : Nat} (hs : secOf L a < D.dur.length) (h : D2.at (secOf L a) = D.at (secOf L a)) : ptThere D2 L2 a = ptThere D L a ∧ ptAt D2 (secOf L2 a) = ptAt D (secOf L a) := by
  obtain ⟨e1, e2⟩ := ptAt_same hon hon2 hl hs h
  rw [sec_log h1 h2]
  refine ⟨?_, e2⟩
  unfold ptThere
  rw [sec_log h1 h2, e1, e2]
theorem Prt.same {j e : Nat} {p : List UInt8} (hp : Prt D L j e p) (hon : D.off = false) (hon2 : D2.off = false) (hl : D2.dur.length = D.dur.length) (h1 : L2.at_ = L.at_) (h2 : L2.hd.cn = L.hd.cn) (hs : secOf L (480 * j) < D.dur.length) (h : D2.at (secOf L (480 * j)) = D.at (secOf L (480 * j))) : Prt D2 L2 j e p := by
  obtain ⟨e1, e2⟩ := there_same hon hon2 hl h1 h2 hs h
  exact ⟨by rw [e1]; exact hp.there, by rw [e2]; exact hp.ep, by rw [e2]; exact hp.by_⟩
/-- The parts stay where their sectors do, and the log's first needed part goes on at most. -/
theorem Dur.same (h : Dur D L S ep) (hon : D.off = false) (hon2 : D2.off = false) (hl : D2.dur.length = D.dur.length) (h1 : L2.at_ = L.at_) (h2 : L2.hd.cn = L.hd.cn) (h3 : L.hd.fi ≤ L2.hd.fi) (h4 : L2.hd.old = L.hd.old) (h5 : L.hd.ep ≤ L2.hd.ep) (hs : ∀ a, secOf L a < D.dur.length) (hd : ∀ a, D2.at (secOf L a) = D.at (secOf L a)) : Dur D2 L2 S ep := by
  refine ⟨fun j k1 k2 => (h.part j (Nat.le_trans (Nat.div_le_div_right h3) k1) k2).same hon hon2 hl h1 h2 (hs _) (hd _), h.mono, fun j => ⟨by rw [h4]; exact (h.old j).1, Nat.le_trans (h.old j).2 h5⟩, fun j k1 k2 => ?_⟩
  obtain ⟨e1, e2⟩ := there_same hon hon2 hl h1 h2 (hs (480 * j)) (hd _)
  rw [e1] at k2
  rw [e2]
  exact h.beyond j k1 k2
/-! ### Append -/
theorem Rg.room (h : Rg D L H) : roomOf L = (((L.hd.st / 480 + L.hd.cn) * 480 : Nat) : Int) - (H.length : Int) := by
  unfold roomOf
  rw [h.end_, h.held]
  omega
theorem Rg.app (h : Rg D L H) (p : List UInt8) (hp : RecOk p) (hr : H.length + 2 + p.length ≤ (L.hd.st / 480 + L.hd.cn) * 480) (hb : H.length + 2 + p.length < 1000000000000) :
    apE L p.length 0 = 0 ∧ Rg D (apL L p 0) (H ++ frm p) ∧ (apL L p 0).hd = L.hd ∧ (apL L p 0).sure = L.sure ∧ (apL L p 0).at_ = L.at_ := by
  have hE : apE L p.length 0 = 0 := by
    unfold apE
    have h1 := hp.1
    have h2 := hp.2
    rw [h.room, if_neg (by omega), if_neg (by omega), if_neg (by omega)]
  have hL : apL L p 0 = addL (heldL L 0) p := by unfold apL; rw [hE, if_pos rfl]
  rw [hL]
  have hsu := h.sure
  have hlen : (H ++ frm p).length = H.length + 2 + p.length := by rw [List.length_append, frm_len]; omega
  refine ⟨hE, ⟨h.awk, h.pen, h.bd, h.hd, h.cn, h.at_, ?_, ?_, h.st, h.ck, h.held, ?_, ?_, h.epo, h.head, ?_⟩, rfl, rfl, rfl⟩
  · show (L.tail ++ be2 p.length) ++ p = (H ++ frm p).drop (flo L.sure)
    rw [List.drop_append_of_le_length (Nat.le_trans (flo_le _) hsu), h.tail, List.append_assoc]
    rfl
  · show L.sure ≤ _
    omega
  · show _ ≤ (L.hd.st / 480 + L.hd.cn) * 480
    omega
  · omega
  · obtain ⟨ep, hd⟩ := h.dur
    refine ⟨ep, ?_⟩
    show Dur D (addL (heldL L 0) p) ((H ++ frm p).take L.sure) ep
    rw [List.take_append_of_le_length hsu]
    exact hd.same h.on h.on rfl rfl rfl (Nat.le_refl _) rfl (Nat.le_refl _) (fun a => (h.sec a).1) (fun a => rfl)
/-! ### Flush -/
theorem flA_part (L : Lg) (i : Nat) : flA L i = 480 * (L.sure / 480 + i) := by unfold flA flo; omega
theorem flP_len (L : Lg) (i : Nat) : (flP L i).length = 512 := by
  unfold flP partB
  exact sealB_length (by simp [ptNs]) (by rw [List.length_take]; omega)
/-- What the sectors hold behind the writes. -/
theorem flW_read (L : Lg) (hc : L.at_ + 1 + L.hd.cn ≤ n) (h0 : 0 < L.hd.cn) (ht : L.tail.length ≤ 480 * L.hd.cn) : ∀ (f k : Nat) (D : Dk), Awk D → D.dur.length = n → L.tail.length ≤ 480 * (k + f) →
    (∀ i, k ≤ i → 480 * i < L.tail.length → (flW L f k D).2.at (secOf L (flA L i)) = flP L i) ∧ (∀ s, (∀ i, k ≤ i → 480 * i < L.tail.length → secOf L (flA L i) ≠ s) → (flW L f k D).2.at s = D.at s)
  | 0, k, D, _, _, hf => ⟨fun i h1 h2 => absurd h2 (by omega), fun s _ => rfl⟩
  | f + 1, k, D, h, hd, hf => by
    unfold flW
    split
    · rename_i hk
      exact ⟨fun i h1 h2 => absurd h2 (by omega), fun s _ => rfl⟩
    · rename_i hk
      have hlt : secOf L (flA L k) < D.dur.length := by
        have := Nat.mod_lt (flA L k / 480) h0
        unfold secOf
        omega
      have hw := awk_write h (secOf L (flA L k)) (flP L k) hlt (flP_len L k)
      have e1 : wE D (flS L k) (flP L k) = 0 := hw.1
      rw [e1, if_neg (by decide)]
      obtain ⟨a1, a2⟩ := flW_read L hc h0 ht f (k + 1) (wD D (flS L k) (flP L k)) hw.2.1 (by rw [← hd]; exact hw.2.2) (by omega)
      have hat := fun j => rg_at_wD h (secOf L (flA L k)) (flP L k) hlt (flP_len L k) j
      refine ⟨fun i h1 h2 => ?_, fun s hs => ?_⟩
      · rcases Nat.lt_or_ge k i with h3 | h3
        · exact a1 i h3 h2
        · obtain rfl : i = k := by omega
          rw [a2 (secOf L (flA L i)) (fun i2 h4 h5 => by
            rw [flA_part, flA_part]
            exact sec_far (by omega) (by omega) (by omega))]
          have h6 := hat (secOf L (flA L i))
          rw [if_pos rfl] at h6
          exact h6
      · rw [a2 s (fun i h1 h2 => hs i (by omega) h2)]
        have h6 := hat s
        rw [if_neg (fun e => hs k (Nat.le_refl _) (by omega) e.symm)] at h6
        exact h6
theorem Rg.flush (h : Rg D L H) (ho : D.ops < 400000) : flE D L = 0 ∧ Rg (flD D L) (flL D L) H ∧ (flL D L).sure = H.length ∧ (flL D L).hd = L.hd ∧ (flL D L).at_ = L.at_ ∧ (flD D L).ops ≤ D.ops + (L.tail.length + 479) / 480 + 1 ∧ (flD D L).dur.length = D.dur.length := by
  have hc0 : 0 < L.hd.cn := by have := h.cn; omega
  have htl := h.tail_len
  have hcn := h.cn
  have hz := awk_flW L h.at_ hc0 L.tail.length 0 D h.awk rfl
  have hz1 : (flZ D L).1 = 0 := hz.1
  have hz2 : Awk (flZ D L).2 := hz.2.1
  have hz3 : (flZ D L).2.dur.length = D.dur.length := hz.2.2
  obtain ⟨b1, b2, b3, b4⟩ := rg_flD_bd (D := D) (L := L) (T := L.tail.length) (Nat.le_refl _) h.bd (by rw [h.pen]; show 0 + _ < _; omega) (by omega)
  have hE : flE D L = 0 := by
    unfold flE
    rw [if_neg (by rw [h.on]; decide)]
    split
    · rfl
    · rw [hz1, if_neg (by decide)]
      exact awk_sync hz2
  by_cases hs : L.sure = endOf L
  · have e1 : flD D L = D := by unfold flD; rw [if_neg (by rw [h.on]; decide), if_pos hs]
    have e2 : flL D L = L := by unfold flL; rw [if_neg (fun hh => hh.2 hs)]
    rw [e1] at b3
    rw [e1, e2]
    exact ⟨hE, h, by rw [hs, h.end_], rfl, rfl, b3, rfl⟩
  · have e1 : flD D L = sD (flZ D L).2 := by unfold flD; rw [if_neg (by rw [h.on]; decide), if_neg hs, hz1, if_neg (by decide)]
    have e2 : flL D L = sureL L := by unfold flL; rw [if_pos ⟨hE, hs⟩]
    rw [e1] at b1 b2 b3 b4
    rw [e1, e2]
    have hsl : H.length = endOf L := h.end_.symm
    have hsu := h.sure
    have hri := h.ring
    have hst := h.st
    have hne : L.sure < H.length := by omega
    have hawk := rg_awk_sD hz2
    have hlt : L.tail.length = H.length - flo L.sure := by rw [h.tail, List.length_drop]
    obtain ⟨r1, r2⟩ := flW_read L h.at_ hc0 htl L.tail.length 0 D h.awk rfl (by omega)
    have hat : ∀ s, s < D.dur.length → (sD (flZ D L).2).at s = (flZ D L).2.at s := fun s hs => rg_at_sD hz2 s (by rw [hz3]; exact hs)
    have hold : ∀ s, s < D.dur.length → (∀ i, 480 * i < L.tail.length → secOf L (flA L i) ≠ s) → (sD (flZ D L).2).at s = D.at s := fun s h1 h2 => by
      rw [hat s h1]
      exact r2 s (fun i _ h3 => h2 i h3)
    have hnew : ∀ i, 480 * i < L.tail.length → (sD (flZ D L).2).at (secOf L (flA L i)) = flP L i := fun i h1 => by
      rw [hat _ (h.sec _).1]
      exact r1 i (Nat.zero_le _) h1
    obtain ⟨ep, hd⟩ := h.dur
    have htk : (H.take L.sure).length = L.sure := by rw [List.length_take]; omega
    have hfl : flo L.sure = 480 * (L.sure / 480) := by unfold flo; omega
    refine ⟨hE, ⟨hawk, sD_pen hz2, b1, h.hd, h.cn, by rw [b4]; exact h.at_, ?_, ?_, ?_, ?_, h.held, h.ring, h.big, h.epo, ?_, ?_⟩, by show endOf L = _; omega, rfl, rfl, b3, b4⟩
    · show L.tail.drop (flo L.tail.length) = H.drop (flo (endOf L))
      rw [h.tail, List.drop_drop, List.length_drop, ← hsl]
      congr 1
      unfold flo
      omega
    · show endOf L ≤ _
      omega
    · show 480 ≤ L.hd.st ∧ L.hd.st ≤ L.hd.fi ∧ L.hd.fi ≤ endOf L
      omega
    · show L.hd.ck ≤ endOf L
      have := h.ck
      omega
    · show (sD (flZ D L).2).at L.at_ = sealB 1 L.hd.ns []
      rw [hold L.at_ (by have := h.at_; omega) (fun i _ => (h.sec _).2)]
      exact h.head
    · refine ⟨fun j => if j < L.sure / 480 then ep j else L.hd.ep, ?_⟩
      show Dur _ (sureL L) (H.take (endOf L)) _
      rw [← hsl, List.take_length]
      refine ⟨fun j k1 k2 => ?_, fun j k hjk => ?_, fun j => ?_, fun j k1 k2 => ?_⟩
      · have k1 : L.hd.fi / 480 ≤ j := k1
        by_cases hj : j < L.sure / 480
        · rw [if_pos hj]
          have hp := hd.part j k1 (by omega)
          have e5 : ((H.take L.sure).drop (480 * j)).take 480 = (H.drop (480 * j)).take 480 := by
            rw [List.drop_take, List.take_take, Nat.min_eq_left (by omega)]
          rw [e5] at hp
          refine hp.same h.on hawk.1 b4 rfl rfl (h.sec _).1 (hold _ (h.sec _).1 (fun i hi => ?_))
          rw [flA_part]
          exact sec_far (by omega) (by omega) (by omega)
        · rw [if_neg hj]
          obtain ⟨i, rfl⟩ : ∃ i, j = L.sure / 480 + i := ⟨j - L.sure / 480, by omega⟩
          have hi : 480 * i < L.tail.length := by omega
          have hn := hnew i hi
          rw [flA_part] at hn
          have e6 : (L.tail.drop (480 * i)).take 480 = (H.drop (480 * (L.sure / 480 + i))).take 480 := by
            rw [h.tail, List.drop_drop, hfl]
            congr 2
            omega
          refine Prt.of_seal (L := sureL L) hawk.1 (by rw [b4]; exact (h.sec _).1) ?_ (by rw [List.length_take]; omega) (by have := h.big; omega) h.hd.ep
          show (sD (flZ D L).2).at (secOf L (480 * (L.sure / 480 + i))) = _
          rw [hn]
          unfold flP partB
          rw [e6, flA_part, show 480 * (L.sure / 480 + i) / 480 = L.sure / 480 + i by omega]
      · have o1 := (hd.old j).2
        have o2 := hd.mono j k hjk
        show (if j < L.sure / 480 then ep j else L.hd.ep) ≤ (if k < L.sure / 480 then ep k else L.hd.ep)
        split
        · split
          · exact o2
          · exact o1
        · rw [if_neg (by omega)]
          exact Nat.le_refl _
      · show L.hd.old ≤ (if j < L.sure / 480 then ep j else L.hd.ep) ∧ (if j < L.sure / 480 then ep j else L.hd.ep) ≤ L.hd.ep
        have o1 := hd.old j
        split
        · exact o1
        · exact ⟨Nat.le_trans o1.1 o1.2, Nat.le_refl _⟩
      · exfalso
        by_cases hex : ∃ i, 480 * i < L.tail.length ∧ secOf L (flA L i) = secOf L (480 * j)
        · obtain ⟨i, hi, hse⟩ := hex
          have hn := hnew i hi
          rw [hse] at hn
          have k2 : ptThere (sD (flZ D L).2) L (480 * j) = true := k2
          have hpl : ((L.tail.drop (480 * i)).take 480).length ≤ 480 := by rw [List.length_take]; omega
          obtain ⟨p1, p2⟩ := ptAt_seal (D := sD (flZ D L).2) hawk.1 (i := secOf L (480 * j)) (by rw [b4]; exact (h.sec _).1) (flA L i / 480) L.hd.ep ((L.tail.drop (480 * i)).take 480) hn hpl (by rw [flA_part]; have := h.big; omega) h.hd.ep
          unfold ptThere at k2
          rw [p1, p2] at k2
          simp only [Bool.true_and, decide_eq_true_eq] at k2
          rw [flA_part] at k2
          omega
        · have hsm := hold (secOf L (480 * j)) (h.sec _).1 (fun i hi e => hex ⟨i, hi, e⟩)
          obtain ⟨q1, q2⟩ := there_same (L2 := sureL L) h.on hawk.1 b4 rfl rfl (h.sec _).1 hsm
          rw [q1] at k2
          obtain ⟨q3, q4⟩ := hd.beyond j (by omega) k2
          omega
end
end Go.Proofs.YtnhokabendibmaaDoor
namespace Go.Proofs.YtnhokabendibmaaDoor
open Go.RowKit

section
variable {D D2 : Dk} {L L2 : Lg} {H S : List UInt8} {ep : Nat → Nat} {n : Nat}
theorem recs_le : ∀ (rs : List (List UInt8)), rs.length ≤ (recsB rs).length
  | [] => Nat.zero_le _
  | p :: rs => by
    have := recs_le rs
    rw [recsB_cons, List.length_append, frm_len, List.length_cons]
    omega
theorem seal1_len (h : Hd) : (sealB 1 h.ns []).length = 512 := sealB_length (by simp [Hd.ns]) (by simp)
/-- One sector written, and a Sync. -/
theorem put_sync (h : Awk D) (hb : Bd D) (hp : D.pen = []) (ho : D.ops < 400000) (s : Nat) (b : List UInt8) (hs : s < D.dur.length) (hl : b.length = 512) :
    wE D (s : Int) b = 0 ∧ sE (wD D (s : Int) b) = 0 ∧ Awk (sD (wD D (s : Int) b)) ∧ (sD (wD D (s : Int) b)).pen = [] ∧ Bd (sD (wD D (s : Int) b)) ∧ (sD (wD D (s : Int) b)).ops ≤ D.ops + 2 ∧ (sD (wD D (s : Int) b)).dur.length = D.dur.length ∧ ∀ j, j < D.dur.length → (sD (wD D (s : Int) b)).at j = if j = s then b else D.at j := by
  have hw := awk_write h s b hs hl
  obtain ⟨b1, b2, b3, b4⟩ := wD_bd hb (by rw [hp]; decide) (by omega) (s : Int) b
  obtain ⟨c1, c2, c3, c4⟩ := sD_bd b1 (by omega)
  refine ⟨hw.1, awk_sync hw.2.1, rg_awk_sD hw.2.1, sD_pen hw.2.1, c1, by omega, by rw [c4, b4], fun j hj => ?_⟩
  rw [rg_at_sD hw.2.1 j (by rw [b4]; exact hj), rg_at_wD h s b hs hl j]
/-- Mark of a place at which a record begins. -/
theorem Rg.mark (h : Rg D L H) (ho : D.ops < 400000) (rs more : List (List UInt8)) (pl : Nat) (hr : ∀ p ∈ rs, RecOk p) (hH : H.drop L.hd.fi = recsB (rs ++ more)) (hpl : pl = L.hd.fi + (recsB rs).length) (hs : pl ≤ L.sure) :
    mkE D L 0 pl = 0 ∧ Rg (mkD D L 0 pl) (mkL D L 0 pl) H ∧ (mkL D L 0 pl).hd = { L.hd with st := pl, fi := pl, ck := 0 } ∧ (mkL D L 0 pl).sure = L.sure ∧ (mkL D L 0 pl).at_ = L.at_ ∧ (mkD D L 0 pl).ops ≤ D.ops + 2 ∧ (mkD D L 0 pl).dur.length = D.dur.length := by
  obtain ⟨ep, hd⟩ := h.dur
  have hst := h.st
  have hsu := h.sure
  have hff : ffZ D L pl = (0, pl) := by
    have k := ffR_is h.on hd h.sure h.tail h.end_ rs more L.hd.fi (pl + 1 - L.hd.fi) hr (Nat.le_refl _) hH (by have := recs_le rs; omega)
    rw [← hpl] at k
    exact k
  have hbad : ¬ (pl < L.hd.st ∨ L.sure < pl ∨ L.sure < 0) := by omega
  have hlt : L.at_ < D.dur.length := by have := h.at_; omega
  obtain ⟨w1, w2, w3, w4, w5, w6, w7, w8⟩ := put_sync h.awk h.bd h.pen ho L.at_ (mkB L 0 pl pl) hlt (seal1_len _)
  have hE : mkE D L 0 pl = 0 := by
    unfold mkE
    rw [if_neg hbad, hff, if_neg (fun e => e rfl), w1, if_neg (fun e => e rfl)]
    exact w2
  have e1 : mkD D L 0 pl = sD (wD D (L.at_ : Int) (mkB L 0 pl pl)) := by
    unfold mkD
    rw [if_neg hbad, hff, if_neg (fun e => e rfl), w1, if_neg (fun e => e rfl)]
  have e2 : mkL D L 0 pl = { L with hd := mkH L 0 pl pl } := by
    unfold mkL
    rw [hE, if_pos rfl, hff]
  rw [e1, e2]
  have hbg := h.big
  refine ⟨hE, ⟨w3, w4, w5, ⟨h.hd.ep, h.hd.old, by show pl < _; omega, by show pl < _; omega, by show 0 < _; decide, h.hd.cn⟩, h.cn, by rw [w7]; exact h.at_, h.tail, h.sure, ?_, Nat.zero_le _, h.held, ?_, h.big, h.epo, ?_, ep, ?_⟩, rfl, rfl, rfl, w6, w7⟩
  · show 480 ≤ pl ∧ pl ≤ pl ∧ pl ≤ L.sure
    omega
  · show H.length ≤ (pl / 480 + L.hd.cn) * 480
    exact Nat.le_trans h.ring (Nat.mul_le_mul_right _ (Nat.add_le_add_right (Nat.div_le_div_right (by omega)) _))
  · have k := w8 L.at_ hlt
    rw [if_pos rfl] at k
    exact k
  · exact hd.same h.on w3.1 w7 rfl rfl (by show L.hd.fi ≤ pl; omega) rfl (Nat.le_refl _) (fun a => (h.sec a).1) (fun a => by rw [w8 _ (h.sec a).1, if_neg (h.sec a).2])
/-! ### Open -/
theorem hdOf_seal (h : Hd) (ok : h.Ok) : hdOf (sealB 1 h.ns []) = h := by
  have hl : h.ns.length ≤ 6 := by simp [Hd.ns]
  have ht : ([] : List UInt8).length ≤ 480 := by decide
  have k := fun i n hi hn => numAt_seal (kind := 1) (tail := []) hl ht i n hi hn (.inl rfl)
  unfold hdOf
  rw [k 0 h.ep rfl ⟨by omega, by have := ok.ep; omega⟩, k 1 h.old rfl ⟨by omega, by have := ok.old; omega⟩, k 2 h.st rfl ⟨by omega, by have := ok.st; omega⟩, k 3 h.fi rfl ⟨by omega, by have := ok.fi; omega⟩, k 4 h.ck rfl ⟨by omega, by have := ok.ck; omega⟩, k 5 h.cn rfl ⟨by omega, by have := ok.cn; omega⟩]
  rfl
theorem Rg.rhE (h : Rg D L H) : rhE D (L.at_ : Int) = 0 ∧ rhH D (L.at_ : Int) = L.hd := by
  have hlt : L.at_ < D.dur.length := by have := h.at_; omega
  have e : Proofs.YtnhokabendibmaaDoor.rhE D (L.at_ : Int) = 0 := by
    unfold Proofs.YtnhokabendibmaaDoor.rhE
    rw [gE_on h.on hlt, if_neg (by decide), gB_on h.on hlt, h.head, unsE_seal (by simp [Hd.ns]) (by simp)]
    rfl
  refine ⟨e, ?_⟩
  unfold rhH
  rw [e, if_pos rfl, gB_on h.on hlt, h.head]
  exact hdOf_seal _ h.hd
/-- What find finds. -/
theorem Rg.find (h : Rg D L H) (rs : List (List UInt8)) (hr : ∀ p ∈ rs, RecOk p) (hH : H.drop L.hd.fi = recsB rs) (hs : L.sure = H.length) : fnE D (op0 D (L.at_ : Int)) = 0 ∧ opF D (L.at_ : Int) = L := by
  obtain ⟨e1, e2⟩ := h.rhE
  obtain ⟨ep, hd⟩ := h.dur
  rw [hs, List.take_length] at hd
  have hst := h.st
  have hri := h.ring
  have ho : op0 D (L.at_ : Int) = ⟨L.at_, L.hd, 0, [], 0⟩ := by unfold op0; rw [e2, Int.toNat_natCast]
  have hb : fnBase (op0 D (L.at_ : Int)) = 480 * (L.hd.fi / 480) := by rw [ho]; unfold fnBase flo; show L.hd.fi - L.hd.fi % 480 = _; omega
  have hda : Dur D (op0 D (L.at_ : Int)) H ep := by
    rw [ho]
    exact hd.same h.on h.on rfl rfl rfl (Nat.le_refl _) rfl (Nat.le_refl _) (fun a => (h.sec a).1) (fun _ => rfl)
  have hall : fnAll D (op0 D (L.at_ : Int)) = H.drop (480 * (L.hd.fi / 480)) := by
    unfold fnAll
    rw [hb]
    refine hda.th _ _ _ (by rw [ho]; exact Nat.le_refl _) (by omega) ?_ ?_
    · rw [ho]
      show H.length ≤ 480 * (L.hd.fi / 480 + (L.hd.cn + 1))
      have h1 : L.hd.st / 480 ≤ L.hd.fi / 480 := Nat.div_le_div_right hst.2.1
      omega
    · rw [ho]
      have := (hd.old (L.hd.fi / 480)).1
      show (L.hd.old : Int) ≤ _
      omega
  have hfi : (op0 D (L.at_ : Int)).hd.fi = L.hd.fi := by rw [ho]
  have hsp : H.drop (480 * (L.hd.fi / 480)) = (H.drop (480 * (L.hd.fi / 480))).take (L.hd.fi - 480 * (L.hd.fi / 480)) ++ recsB rs := by
    rw [← hH]
    have h1 : H.drop L.hd.fi = (H.drop (480 * (L.hd.fi / 480))).drop (L.hd.fi - 480 * (L.hd.fi / 480)) := by rw [List.drop_drop]; congr 1; omega
    rw [h1, List.take_append_drop]
  have hpl : ((H.drop (480 * (L.hd.fi / 480))).take (L.hd.fi - 480 * (L.hd.fi / 480))).length = L.hd.fi - 480 * (L.hd.fi / 480) := by rw [List.length_take, List.length_drop]; omega
  have hrl : (recsB rs).length = H.length - L.hd.fi := by rw [← hH, List.length_drop]
  have hend : fnEnd D (op0 D (L.at_ : Int)) = H.length - 480 * (L.hd.fi / 480) := by
    unfold fnEnd
    rw [hall, hb, hfi]
    have k := runN_recs rs ((H.drop (480 * (L.hd.fi / 480))).take (L.hd.fi - 480 * (L.hd.fi / 480))) (H.drop (480 * (L.hd.fi / 480))).length hr (by
      have := recs_le rs
      rw [List.length_drop]
      omega)
    rw [← hsp, hpl, hrl] at k
    rw [k]
    omega
  have hsure : fnSure D (op0 D (L.at_ : Int)) = H.length := by unfold fnSure; rw [hend, hb]; omega
  have htail : fnTail D (op0 D (L.at_ : Int)) = L.tail := by
    unfold fnTail
    rw [hall, hend, hsure, hb, h.tail, hs, List.take_of_length_le (by rw [List.length_drop]; omega), List.drop_drop]
    congr 1
    unfold flo
    omega
  refine ⟨?_, ?_⟩
  · unfold fnE
    rw [if_neg (by rw [h.on]; decide), if_neg (by rw [hfi, hb, hall, List.length_drop]; omega), if_neg (by rw [hsure, ho]; show ¬ H.length < L.hd.ck; have := h.ck; omega)]
  · unfold opF fnL
    rw [hsure, htail, ho, ← hs]
    have e : (⟨L.at_, L.hd, L.sure, L.tail, L.held⟩ : Lg) = L := rfl
    rw [h.held] at e
    exact e
theorem fallen_still (h : Awk D) (hp : D.pen = []) : D.fallen [] = D := by
  unfold Dk.fallen
  rw [hp]
  obtain ⟨h1, h2⟩ := h
  cases D
  simp only at h1 h2 hp
  subst h1 h2 hp
  rfl
theorem Rg.next (h : Rg D L H) : (nextL L).hd = { L.hd with ep := L.hd.ep + 1 } := by
  unfold nextL
  have := h.epo
  rw [Nat.mod_eq_of_lt (by omega)]
set_option maxHeartbeats 3200000 in
theorem Rg.open_ (h : Rg D L H) (ho : D.ops < 400000) (he : L.hd.ep + 1 < 1000000000000) (rs : List (List UInt8)) (hr : ∀ p ∈ rs, RecOk p) (hH : H.drop L.hd.fi = recsB rs) (hs : L.sure = H.length) :
    opE D (L.at_ : Int) (L.hd.cn : Int) = 0 ∧ Rg (opD D (L.at_ : Int) (L.hd.cn : Int)) (opL D (L.at_ : Int)) H ∧ opL D (L.at_ : Int) = nextL L ∧ (opD D (L.at_ : Int) (L.hd.cn : Int)).ops ≤ D.ops + 3 ∧ (opD D (L.at_ : Int) (L.hd.cn : Int)).dur.length = D.dur.length := by
  obtain ⟨e1, e2⟩ := h.rhE
  obtain ⟨f1, f2⟩ := h.find rs hr hH hs
  have hcn := h.cn
  have hat_ := h.at_
  have hfit : fitsE D.dur.length (L.at_ : Int) (L.hd.cn : Int) = 0 := by unfold fitsE; rw [if_neg (by omega)]
  have hL : opL D (L.at_ : Int) = nextL L := by unfold opL; rw [f2]
  have hEE : opE D (L.at_ : Int) (L.hd.cn : Int) = bgE D L := by
    unfold opE
    rw [hfit, e1, e2, f1, f2, if_neg (fun e => e rfl), if_neg (fun e => e rfl), if_neg (fun e => e rfl), if_neg (fun e => e rfl)]
  have hDD : opD D (L.at_ : Int) (L.hd.cn : Int) = bgD D L := by
    unfold opD
    rw [hfit, e1, e2, f1, f2, if_neg (fun e => e rfl), if_neg (fun e => e rfl), if_neg (fun e => e rfl), if_neg (fun e => e rfl)]
  rw [hEE, hDD, hL]
  have hlt : L.at_ < D.dur.length := by omega
  have hhd := h.next
  have hep := h.epo
  obtain ⟨ep, hd⟩ := h.dur
  rw [hs, List.take_length] at hd
  have hokn : (nextL L).hd.Ok := by
    rw [hhd]
    exact ⟨by show L.hd.ep + 1 < _; omega, h.hd.old, h.hd.st, h.hd.fi, h.hd.ck, h.hd.cn⟩
  have hcnn : (nextL L).hd.cn = L.hd.cn := by rw [hhd]
  have hroom : roomOf (nextL L) = (((L.hd.st / 480 + L.hd.cn) * 480 : Nat) : Int) - (H.length : Int) := h.room
  have hri := h.ring
  have hst := h.st
  have hbg := h.big
  -- the head
  have hwh := awk_write h.awk L.at_ (bgB L) hlt (seal1_len _)
  obtain ⟨b1, b2, b3, b4⟩ := wD_bd h.bd (by rw [h.pen]; decide) (by omega) (L.at_ : Int) (bgB L)
  have hrd1 : ∀ j, (wD D (L.at_ : Int) (bgB L)).at j = if j = L.at_ then bgB L else D.at j := fun j => rg_at_wD h.awk L.at_ (bgB L) hlt (seal1_len _) j
  by_cases hrm : roomOf (nextL L) > 0
  · -- the tail is written again
    have hroom2 : H.length < (L.hd.st / 480 + L.hd.cn) * 480 := by rw [hroom] at hrm; omega
    have hfs : flo L.sure = 480 * (H.length / 480) := by rw [hs]; unfold flo; omega
    obtain ⟨s, hse⟩ : ∃ s, secOf L (480 * (H.length / 480)) = s := ⟨_, rfl⟩
    have hbs : bgS L = (s : Int) := by unfold bgS; rw [sec_log (L := L) (L2 := nextL L) rfl hcnn, hfs, hse]
    have hslt : s < D.dur.length := by rw [← hse]; exact (h.sec _).1
    have hsne : s ≠ L.at_ := by rw [← hse]; exact (h.sec _).2
    have htl : L.tail = H.drop (480 * (H.length / 480)) := by rw [h.tail, hfs]
    have htll : L.tail.length ≤ 480 := by rw [htl, List.length_drop]; omega
    have hpl : (bgP L).length = 512 := by unfold bgP partB; exact sealB_length (by simp [ptNs]) htll
    have hw2 := awk_write hwh.2.1 s (bgP L) (by rw [b4]; exact hslt) hpl
    obtain ⟨c1, c2, c3, c4⟩ := wD_bd b1 (by rw [h.pen] at b2; simp at b2; omega) (by omega) (s : Int) (bgP L)
    obtain ⟨d1, d2, d3, d4⟩ := sD_bd c1 (by omega)
    have hE : bgE D L = 0 := by
      unfold bgE
      rw [hwh.1, if_neg (by decide), if_pos hrm, hbs, hw2.1, if_neg (by decide)]
      exact awk_sync hw2.2.1
    have hDe : bgD D L = sD (wD (wD D (L.at_ : Int) (bgB L)) (s : Int) (bgP L)) := by
      unfold bgD
      rw [hwh.1, if_neg (by decide), if_pos hrm, hbs, hw2.1, if_neg (by decide)]
    rw [hDe]
    have hawk := rg_awk_sD hw2.2.1
    have hlen : (sD (wD (wD D (L.at_ : Int) (bgB L)) (s : Int) (bgP L))).dur.length = D.dur.length := by rw [d4, c4, b4]
    have hrd : ∀ j, j < D.dur.length → (sD (wD (wD D (L.at_ : Int) (bgB L)) (s : Int) (bgP L))).at j = if j = s then bgP L else if j = L.at_ then bgB L else D.at j := fun j hj => by
      rw [rg_at_sD hw2.2.1 j (by rw [c4, b4]; exact hj), rg_at_wD hwh.2.1 s (bgP L) (by rw [b4]; exact hslt) hpl j, hrd1 j]
    have hbp : bgP L = sealB 2 (ptNs (H.length / 480) (L.hd.ep + 1) L.tail.length) L.tail := by
      unfold bgP partB
      rw [hhd, hfs, show 480 * (H.length / 480) / 480 = H.length / 480 by omega]
    refine ⟨hE, ⟨hawk, sD_pen hw2.2.1, d1, hokn, by rw [hcnn]; exact hcn, by rw [hcnn, hlen]; exact hat_, h.tail, h.sure, by rw [hhd]; exact h.st, by rw [hhd]; exact h.ck, h.held, by rw [hhd]; exact h.ring, h.big, by rw [hhd]; exact he, ?_, ?_⟩, rfl, by omega, hlen⟩
    · show (sD (wD (wD D (L.at_ : Int) (bgB L)) (s : Int) (bgP L))).at L.at_ = _
      rw [hrd _ hlt, if_neg hsne.symm, if_pos rfl]
      rfl
    · refine ⟨fun j => if j < H.length / 480 then ep j else L.hd.ep + 1, ?_⟩
      have hts : (nextL L).sure = H.length := hs
      rw [hts, List.take_length]
      refine ⟨fun j k1 k2 => ?_, fun j k hjk => ?_, fun j => ?_, fun j k1 k2 => ?_⟩
      · rw [hhd] at k1
        have k1 : L.hd.fi / 480 ≤ j := k1
        by_cases hj : j < H.length / 480
        · rw [if_pos hj]
          refine (hd.part j k1 k2).same h.on hawk.1 hlen rfl hcnn (h.sec _).1 ?_
          rw [hrd _ (h.sec _).1, if_neg (by rw [← hse]; exact sec_far (by omega) (by omega) (by omega)), if_neg (h.sec _).2]
        · rw [if_neg hj]
          obtain rfl : j = H.length / 480 := by omega
          have htk : (H.drop (480 * (H.length / 480))).take 480 = L.tail := by rw [htl]; exact List.take_of_length_le (by rw [List.length_drop]; omega)
          rw [htk]
          refine Prt.of_seal (L := nextL L) hawk.1 (by rw [sec_log (L := L) (L2 := nextL L) rfl hcnn, hlen]; exact (h.sec _).1) ?_ htll (by omega) (by omega)
          rw [sec_log (L := L) (L2 := nextL L) rfl hcnn, hse, hrd _ hslt, if_pos rfl, hbp]
      · have o1 := (hd.old j).2
        have o2 := hd.mono j k hjk
        show (if j < H.length / 480 then ep j else L.hd.ep + 1) ≤ (if k < H.length / 480 then ep k else L.hd.ep + 1)
        split
        · split
          · exact o2
          · omega
        · rw [if_neg (by omega)]
          exact Nat.le_refl _
      · rw [hhd]
        show L.hd.old ≤ (if j < H.length / 480 then ep j else L.hd.ep + 1) ∧ (if j < H.length / 480 then ep j else L.hd.ep + 1) ≤ L.hd.ep + 1
        have o1 := hd.old j
        split
        · exact ⟨o1.1, by omega⟩
        · exact ⟨by omega, Nat.le_refl _⟩
      · by_cases hjs : secOf L (480 * j) = s
        · have hbj0 := hrd s hslt
          rw [if_pos rfl] at hbj0
          have hbj := hbj0.trans hbp
          obtain ⟨p1, p2⟩ := ptAt_seal (D := sD (wD (wD D (L.at_ : Int) (bgB L)) (s : Int) (bgP L))) hawk.1 (i := s) (by rw [hlen]; exact hslt) (H.length / 480) (L.hd.ep + 1) L.tail hbj htll (by omega) (by omega)
          unfold ptThere at k2
          rw [sec_log (L := L) (L2 := nextL L) rfl hcnn, hjs] at k2 ⊢
          rw [p1, p2] at k2
          simp only [Bool.true_and, decide_eq_true_eq] at k2
          have hj : j = H.length / 480 := by omega
          refine ⟨by omega, ?_⟩
          rw [p2]
          show L.tail = []
          rw [htl, List.drop_of_length_le (by omega)]
        · have hsm : (sD (wD (wD D (L.at_ : Int) (bgB L)) (s : Int) (bgP L))).at (secOf L (480 * j)) = D.at (secOf L (480 * j)) := by
            rw [hrd _ (h.sec _).1, if_neg hjs, if_neg (h.sec _).2]
          obtain ⟨q1, q2⟩ := there_same (L2 := nextL L) h.on hawk.1 hlen rfl hcnn (h.sec _).1 hsm
          rw [q1] at k2
          rw [q2]
          exact hd.beyond j k1 k2
  · -- the log is full
    obtain ⟨d1, d2, d3, d4⟩ := sD_bd b1 (by omega)
    have hE : bgE D L = 0 := by
      unfold bgE
      rw [hwh.1, if_neg (by decide), if_neg hrm]
      exact awk_sync hwh.2.1
    have hDe : bgD D L = sD (wD D (L.at_ : Int) (bgB L)) := by
      unfold bgD
      rw [hwh.1, if_neg (by decide), if_neg hrm]
    rw [hDe]
    have hawk := rg_awk_sD hwh.2.1
    have hlen : (sD (wD D (L.at_ : Int) (bgB L))).dur.length = D.dur.length := by rw [d4, b4]
    have hrd : ∀ j, j < D.dur.length → (sD (wD D (L.at_ : Int) (bgB L))).at j = if j = L.at_ then bgB L else D.at j := fun j hj => by
      rw [rg_at_sD hwh.2.1 j (by rw [b4]; exact hj), hrd1 j]
    refine ⟨hE, ⟨hawk, sD_pen hwh.2.1, d1, hokn, by rw [hcnn]; exact hcn, by rw [hcnn, hlen]; exact hat_, h.tail, h.sure, by rw [hhd]; exact h.st, by rw [hhd]; exact h.ck, h.held, by rw [hhd]; exact h.ring, h.big, by rw [hhd]; exact he, ?_, ep, ?_⟩, rfl, by omega, hlen⟩
    · show (sD (wD D (L.at_ : Int) (bgB L))).at L.at_ = _
      rw [hrd _ hlt, if_pos rfl]
      rfl
    · have hts : (nextL L).sure = H.length := hs
      rw [hts, List.take_length]
      exact hd.same h.on hawk.1 hlen rfl hcnn (by rw [hhd]; exact Nat.le_refl _) (by rw [hhd]) (by rw [hhd]; show L.hd.ep ≤ L.hd.ep + 1; omega) (fun a => (h.sec a).1) (fun a => by rw [hrd _ (h.sec a).1, if_neg (h.sec a).2])
end
end Go.Proofs.YtnhokabendibmaaDoor
namespace Go.Proofs.YtnhokabendibmaaDoor
open Go.RowKit

/-- Records as values. -/
def recV (l : List (Nat × List UInt8)) : List Value := (l.map fun r => [Value.int .u64 (r.1 : Int), .string ⟨r.2.toArray⟩]).flatten
theorem recV_len (l : List (Nat × List UInt8)) : (recV l).length = l.length * 2 := flat_len (m := 2) _ (fun s hs => by
  obtain ⟨r, -, rfl⟩ := List.mem_map.1 hs
  rfl) |>.trans (by rw [List.length_map])
theorem recV_app (l m : List (Nat × List UInt8)) : recV (l ++ m) = recV l ++ recV m := by simp [recV]
theorem recV_get (l : List (Nat × List UInt8)) (j : Nat) (r : Nat × List UInt8) (h : l[j]? = some r) : (recV l)[j * 2]? = some (.int .u64 (r.1 : Int)) ∧ (recV l)[j * 2 + 1]? = some (.string ⟨r.2.toArray⟩) := by
  have hl : ∀ s ∈ l.map (fun r : Nat × List UInt8 => [Value.int .u64 (r.1 : Int), .string ⟨r.2.toArray⟩]), s.length = 2 := fun s hs => by
    obtain ⟨r, -, rfl⟩ := List.mem_map.1 hs
    rfl
  have hi : (l.map (fun r : Nat × List UInt8 => [Value.int .u64 (r.1 : Int), .string ⟨r.2.toArray⟩]))[j]? = some [Value.int .u64 (r.1 : Int), .string ⟨r.2.toArray⟩] := by rw [List.getElem?_map, h]; rfl
  have h0 := flat_get hl hi (j := 0) (by decide)
  have h1 := flat_get hl hi (j := 1) (by decide)
  exact ⟨h0, h1⟩
theorem recV_drop (l : List (Nat × List UInt8)) (k j : Nat) (u : Value) (h : (recV (l.drop k))[j]? = some u) : (recV l)[k * 2 + j]? = some u := by
  have e : recV l = recV (l.take k) ++ recV (l.drop k) := by rw [← recV_app, List.take_append_drop]
  have hj := (List.getElem?_eq_some_iff.1 h).1
  rw [recV_len, List.length_drop] at hj
  rw [e, List.getElem?_append_right (by rw [recV_len, List.length_take]; omega), recV_len, List.length_take, show k * 2 + j - min k l.length * 2 = j by omega]
  exact h
/-- The slice v holds these records, and its spare is its own. -/
def RecS (w : World) (B : Nat) (v : Value) (l : List (Nat × List UInt8)) : Prop :=
  (v = .slice none 0 0 ∧ l = []) ∨ ∃ (g off c : Nat) (cur : Array Value), v = .slice (some ⟨g, off, none⟩) l.length c ∧ B ≤ g ∧ w.heap[g]? = some (.cells cur 63 (0, 0)) ∧ l.length ≤ c ∧ 0 < c ∧ c ≤ maxLen ∧ off + c * 2 ≤ cur.size ∧ ∀ j u, (recV l)[j]? = some u → cur[off + j]? = some u
theorem RecS.keep {w w' : World} {B : Nat} {v : Value} {l : List (Nat × List UInt8)} (h : RecS w B v l) (hk : ∀ k, v.ownBlock = some k → w'.heap[k]? = w.heap[k]?) : RecS w' B v l := by
  rcases h with h | ⟨g, off, c, cur, rfl, h1, h2, h3⟩
  · exact .inl h
  · exact .inr ⟨g, off, c, cur, rfl, h1, (hk g rfl).trans h2, h3⟩
theorem RecS.lt {w : World} {B : Nat} {v : Value} {l : List (Nat × List UInt8)} (h : RecS w B v l) : ∀ k, v.ownBlock = some k → B ≤ k ∧ k < w.heap.size := fun k hk => by
  rcases h with ⟨rfl, -⟩ | ⟨g, off, c, cur, rfl, h1, h2, h3⟩
  · cases hk
  · injection hk with hk
    subst hk
    exact ⟨h1, (Array.getElem?_eq_some_iff.1 h2).1⟩
theorem RecS.ext {w w' : World} {B : Nat} {v : Value} {l : List (Nat × List UInt8)} (h : RecS w B v l) (hx : Ext w w') : RecS w' B v l := h.keep fun k hk => Below.block hx k (h.lt k hk).2
theorem RecS.row {w : World} {B : Nat} {v : Value} {l : List (Nat × List UInt8)} (h : RecS w B v l) : ∀ k, v.ownBlock = some k → ∃ vs, Rw w k 63 vs := fun k hk => by
  rcases h with ⟨rfl, -⟩ | ⟨g, off, c, cur, rfl, h1, h2, h3⟩
  · cases hk
  · injection hk with hk
    subst hk
    exact ⟨cur.toList, by unfold Rw; rw [Array.toArray_toList]; exact h2⟩
/-- Where its records lie. -/
theorem RecS.at {w : World} {B : Nat} {v : Value} {l : List (Nat × List UInt8)} (h : RecS w B v l) (hn : l ≠ []) : ∃ g off c, v = .slice (some ⟨g, off, none⟩) l.length c ∧ l.length ≤ c ∧ ∀ j r, l[j]? = some r → w.cell? ⟨g, off + j * 2, none⟩ = some (.int .u64 (r.1 : Int)) ∧ w.cell? ⟨g, off + j * 2 + 1, none⟩ = some (.string ⟨r.2.toArray⟩) := by
  rcases h with ⟨-, h⟩ | ⟨g, off, c, cur, rfl, h1, h2, h3, h4, h5, h6, h7⟩
  · exact absurd h hn
  · refine ⟨g, off, c, rfl, h3, fun j r hj => ?_⟩
    obtain ⟨e0, e1⟩ := recV_get l j r hj
    have c0 := h7 _ _ e0
    have c1 := h7 _ _ e1
    rw [cell_of_row w g _ cur _ (0, 0) h2, cell_of_row w g _ cur _ (0, 0) h2]
    exact ⟨c0, by rw [Nat.add_assoc]; exact c1⟩
theorem RecS.slice {w : World} {B : Nat} {v : Value} {l : List (Nat × List UInt8)} (h : RecS w B v l) : ∃ A c, v = .slice A l.length c := by
  rcases h with ⟨rfl, rfl⟩ | ⟨g, off, c, cur, rfl, -⟩
  · exact ⟨none, 0, rfl⟩
  · exact ⟨_, _, rfl⟩
theorem info_rec : (Tryd.prog.info? 63).map (fun i => (i.zero, i.size, i.bytes)) = some (some (.agg #[.int .u64 0, .string ⟨#[]⟩]), 2, 24) := by kernel_rfl
theorem info_partsR : ∃ i0, Tryd.prog.info? 63 = some i0 ∧ i0.zero = some (.agg #[.int .u64 0, .string ⟨#[]⟩]) ∧ i0.size = 2 ∧ i0.bytes = 24 := by
  have h := info_rec
  cases hq : Tryd.prog.info? 63 with
  | none => rw [hq] at h; cases h
  | some i =>
    rw [hq] at h
    simp only [Option.map_some, Option.some.injEq, Prod.mk.injEq] at h
    exact ⟨i, rfl, h.1, h.2.1, h.2.2⟩
/-- An append where there is room, of any place in a block. -/
theorem run_room {P : Program} (w : World) (t ty e : TypeId) (i : TypeInfo) (ht : P.underlying t = some (.slice e)) (hi : P.info? e = some i) (b off n cap : Nat) (cur : Array Value) (hg : w.heap[b]? = some (.cells cur e (0, 0)))
    (a : Addr) (m c : Nat) (news : List Value) (hl : news.length = m * i.size) (hnews : ∀ j u, news[j]? = some u → w.cell? (a.add j) = some u) (h1 : ∀ u ∈ news, u.oneCell' = true) (hroom : n + m ≤ cap) (hfit : off + n * i.size + news.length ≤ cur.size) :
    (Builtin.append_ #[t, t] ty #[.slice (some ⟨b, off, none⟩) n cap, .slice (some a) m c]).run P w = .ok (.slice (some ⟨b, off, none⟩) (n + m) cap) (w.setRow b (cur.toList.take (off + n * i.size) ++ news ++ cur.toList.drop (off + n * i.size + news.length)).toArray) := by
  have hfc := run_firstCells_some (P := P) w i.size m a m c news hl hnews
  have hst := run_storeCells_at P b (off + n * i.size) e news 0 cur w hg (by omega) h1
  simp only [Nat.add_zero] at hst
  simp [Builtin.append_, run_underlying ht, sizeOf, typeInfo, hi, Builtin.lenOf, hroom, hfc, Addr.add_lit, hst]
/-- One record more. -/
theorem run_pushR (w0 : World) (ty : Nat) (B : Nat) (v : Value) (l : List (Nat × List UInt8)) (r : Nat × List UInt8) (h : RecS w0 B v l) (hB : B ≤ w0.heap.size) (hlen : l.length ≤ 100000) :
    ∃ v' w', (Builtin.append_ #[30, 30] ty #[v, .slice (some ⟨w0.heap.size, 0, none⟩) 1 1]).run Tryd.prog (w0.alloc (.cells #[.int .u64 (r.1 : Int), .string ⟨r.2.toArray⟩] 63)) = .ok v' w' ∧ RecS w' B v' (l ++ [r]) ∧ w0.grownBy w' v.ownBlock ∧ (v'.ownBlock = v.ownBlock ∨ ∀ k, v'.ownBlock = some k → w0.heap.size ≤ k) ∧ ∃ A c, v' = .slice A (l.length + 1) c := by
  obtain ⟨i0, hi, hz, hsz, hby⟩ := info_partsR
  have hX := Ext.alloc w0 (.cells #[.int .u64 (r.1 : Int), .string ⟨r.2.toArray⟩] 63)
  have R := Rw.new w0 63 [.int .u64 (r.1 : Int), .string ⟨r.2.toArray⟩]
  have hone : ∀ u ∈ [Value.int .u64 (r.1 : Int), .string ⟨r.2.toArray⟩], u.oneCell' = true := by
    intro u hu
    simp only [List.mem_cons, List.not_mem_nil, or_false] at hu
    rcases hu with rfl | rfl <;> rfl
  have hnews : ∀ j u, [Value.int .u64 (r.1 : Int), .string ⟨r.2.toArray⟩][j]? = some u → (w0.alloc (.cells #[.int .u64 (r.1 : Int), .string ⟨r.2.toArray⟩] 63)).cell? (Addr.add ⟨w0.heap.size, 0, none⟩ j) = some u := fun j u hu => by rw [add_flat, Nat.zero_add]; exact R.cell hu
  have hof : ∀ (v' : Value) (w' : World), w'.ownsRow w0.heap.size 63 2 v' (l.length + 1) (recV (l ++ [r])) → RecS w' B v' (l ++ [r]) ∧ (∀ k, v'.ownBlock = some k → w0.heap.size ≤ k) ∧ ∃ A c, v' = .slice A (l.length + 1) c := fun v' w' ho => by
    rcases ho.2 with ⟨-, h0⟩ | ⟨g, cap, cur, rfl, hb, hg, hnc, hcm, hcs, htk⟩
    · omega
    · refine ⟨.inr ⟨g, 0, cap, cur, by rw [List.length_append]; rfl, Nat.le_trans hB hb, hg, by rw [List.length_append]; exact hnc, by omega, hcm, by omega, fun j u hu => ?_⟩, fun k hk => by have e : g = k := (by simpa [Value.ownBlock] using hk); omega, _, _, rfl⟩
      rw [← htk] at hu
      have hj := (List.getElem?_eq_some_iff.1 hu).1
      rw [List.length_take] at hj
      rw [List.getElem?_take_of_lt (by omega)] at hu
      rw [Nat.zero_add]
      simpa using hu
  rcases h with ⟨rfl, rfl⟩ | ⟨g, off, c, cur, rfl, h1, h2, h3, h4, h5, h6, h7⟩
  · have ho0 : (w0.alloc (.cells #[.int .u64 (r.1 : Int), .string ⟨r.2.toArray⟩] 63)).ownsRow w0.heap.size 63 2 (.slice none 0 0) 0 [] := World.ownsRow_nil _ _ _ _
    obtain ⟨v', w', hr, h2, h3, -, -⟩ := run_append_own_at (P := Tryd.prog) _ w0.heap.size 30 ty 63 i0 _ 2 24 Tryd.underlying30 hi hz hsz hby rfl (by decide) (.slice none 0 0) 0 [] ho0 ⟨w0.heap.size, 0, none⟩ 1 1 _ rfl hnews hone (by decide) (by decide) hX.size
    obtain ⟨q1, q2, q3⟩ := hof v' w' h2
    exact ⟨v', w', hr, q1, ⟨h3.os.trans hX.os, h3.tape.trans hX.tape, h3.output.trans hX.output, Nat.le_trans hX.size h3.size, fun k hk hne => (h3.block k (Nat.lt_of_lt_of_le hk hX.size) hne).trans (hX.block k hk)⟩, .inr q2, q3⟩
  · have hgl : g < w0.heap.size := (Array.getElem?_eq_some_iff.1 h2).1
    have hg : (w0.alloc (.cells #[.int .u64 (r.1 : Int), .string ⟨r.2.toArray⟩] 63)).heap[g]? = some (.cells cur 63 (0, 0)) := (hX.block g hgl).trans h2
    by_cases hrm : l.length + 1 ≤ c
    · have hr := run_room (P := Tryd.prog) _ 30 ty 63 i0 Tryd.underlying30 hi g off l.length c cur hg ⟨w0.heap.size, 0, none⟩ 1 1 [.int .u64 (r.1 : Int), .string ⟨r.2.toArray⟩] (by rw [hsz]; rfl) hnews hone hrm (by rw [hsz]; show off + l.length * 2 + 2 ≤ _; omega)
      rw [hsz] at hr
      refine ⟨_, _, hr, .inr ⟨g, off, c, _, by rw [List.length_append]; rfl, h1, setRow_heap _ g cur _ _ _ hg, by rw [List.length_append]; exact hrm, h4, h5, ?_, fun j u hu => ?_⟩, ⟨rfl, rfl, rfl, by simp, fun k hk hne => (setRow_other _ g k _ (fun e => hne (by rw [e]; rfl))).trans (hX.block k hk)⟩, .inl rfl, _, _, rfl⟩
      · simp only [List.size_toArray, List.length_append, List.length_take, List.length_drop, Array.length_toList]
        show _ ≤ min (off + l.length * 2) cur.size + 2 + (cur.size - (off + l.length * 2 + 2))
        omega
      · have hj := (List.getElem?_eq_some_iff.1 hu).1
        rw [recV_len, List.length_append] at hj
        have hj : j < (l.length + 1) * 2 := hj
        rw [recV_app] at hu
        rw [List.getElem?_toArray]
        have htl : (cur.toList.take (off + l.length * 2)).length = off + l.length * 2 := by have e := Array.length_toList (xs := cur); rw [List.length_take, e]; omega
        by_cases hjl : j < l.length * 2
        · rw [List.getElem?_append_left (by rw [recV_len]; exact hjl)] at hu
          rw [List.append_assoc, List.getElem?_append_left (by rw [htl]; omega), List.getElem?_take_of_lt (by omega)]
          have h8 := h7 j u hu
          simpa using h8
        · rw [List.getElem?_append_right (by rw [recV_len]; omega), recV_len] at hu
          rw [List.append_assoc, List.getElem?_append_right (by rw [htl]; omega), htl, show off + j - (off + l.length * 2) = j - l.length * 2 by omega]
          have hjj := (List.getElem?_eq_some_iff.1 hu).1
          rw [recV_len] at hjj
          rw [List.getElem?_append_left (by show _ < 2; have : j - l.length * 2 < 1 * 2 := hjj; omega)]
          exact hu
    · obtain ⟨v', w', hr, q1, q2⟩ := run_append_arg_grows (P := Tryd.prog) (w0.alloc (.cells #[.int .u64 (r.1 : Int), .string ⟨r.2.toArray⟩] 63)) 30 ty 63 i0 _ 2 24 Tryd.underlying30 hi hz hsz hby rfl (by decide) ⟨g, off, none⟩ l.length c (recV l) (recV_len l) (fun j u hu => by rw [add_flat, cell_of_row _ g _ cur _ (0, 0) hg]; exact h7 j u hu) ⟨w0.heap.size, 0, none⟩ 1 1 _ rfl hnews (by omega) (by unfold maxLen; omega) (by omega)
      have q1' : w'.ownsRow w0.heap.size 63 2 v' (l.length + 1) (recV (l ++ [r])) := by
        rw [recV_app]
        exact ⟨q1.1, q1.2.imp id fun ⟨g, cap, cur, h1, h2, h3⟩ => ⟨g, cap, cur, h1, Nat.le_trans hX.size h2, h3⟩⟩
      obtain ⟨p1, p2, p3⟩ := hof v' w' q1'
      exact ⟨v', w', hr, p1, ⟨q2.os.trans hX.os, q2.tape.trans hX.tape, q2.output.trans hX.output, Nat.le_trans hX.size q2.size, fun k hk _ => (q2.block k (Nat.lt_of_lt_of_le hk hX.size) (fun e => by cases e)).trans (hX.block k hk)⟩, .inr p2, p3⟩
end Go.Proofs.YtnhokabendibmaaDoor
namespace Go.Proofs.YtnhokabendibmaaDoor
open Go.RowKit

/-- The model, plain. -/
structure Md where
  l : List (Nat × List UInt8)
  en : Nat
  su : Nat
  st : Nat
  ck : Nat
  hl : Nat
  cn : Nat
def mdC (vl : Value) (M : Md) : List Value := [vl, .int .u64 (M.en : Int), .int .u64 (M.su : Int), .int .u64 (M.st : Int), .int .u64 (M.ck : Int), .int .i64 (M.hl : Int), .int .i64 (M.cn : Int)]
structure MdAt (w : World) (B gm : Nat) (vl : Value) (M : Md) : Prop where
  blk : Rw w gm 32 (mdC vl M)
  recs : RecS w B vl M.l
  base : B ≤ gm
structure Mfr (gm : Nat) (vl : Value) (w w' : World) : Prop where
  os : w'.os = w.os
  tape : w'.tape = w.tape
  output : w'.output = w.output
  size : w.heap.size ≤ w'.heap.size
  other : ∀ k, k < w.heap.size → k ≠ gm → vl.ownBlock ≠ some k → w'.heap[k]? = w.heap[k]?
section
variable {w0 w w1 : World} {X : Bk} {D D' : Dk} {L L' : Lg} {B gm : Nat} {vl : Value} {M : Md}
theorem MdAt.keep {w' : World} (h : MdAt w B gm vl M) (hk : ∀ k, k = gm ∨ vl.ownBlock = some k → w'.heap[k]? = w.heap[k]?) : MdAt w' B gm vl M :=
  ⟨(hk gm (.inl rfl)).trans h.blk, h.recs.keep fun k hh => hk k (.inr hh), h.base⟩
theorem MdAt.ext {w' : World} (h : MdAt w B gm vl M) (hx : Ext w w') : MdAt w' B gm vl M := ⟨h.blk.ext hx, h.recs.ext hx, h.base⟩
theorem MdAt.ne (h : MdAt w B gm vl M) : ∀ k, vl.ownBlock = some k → k ≠ gm := fun k hk e => by
  obtain ⟨vs, hr⟩ := h.recs.row k hk
  exact (hr.apart h.blk (by decide)) e
theorem MdAt.cells (h : MdAt w B gm vl M) : w.cell? ⟨gm, 0, none⟩ = some vl ∧ w.cell? ⟨gm, 1, none⟩ = some (.int .u64 (M.en : Int)) ∧ w.cell? ⟨gm, 2, none⟩ = some (.int .u64 (M.su : Int)) ∧ w.cell? ⟨gm, 3, none⟩ = some (.int .u64 (M.st : Int)) ∧ w.cell? ⟨gm, 4, none⟩ = some (.int .u64 (M.ck : Int)) ∧ w.cell? ⟨gm, 5, none⟩ = some (.int .i64 (M.hl : Int)) ∧ w.cell? ⟨gm, 6, none⟩ = some (.int .i64 (M.cn : Int)) :=
  ⟨h.blk.cell (i := 0) rfl, h.blk.cell (i := 1) rfl, h.blk.cell (i := 2) rfl, h.blk.cell (i := 3) rfl, h.blk.cell (i := 4) rfl, h.blk.cell (i := 5) rfl, h.blk.cell (i := 6) rfl⟩
/-- A field of the model written. -/
theorem MdAt.put (h : MdAt w B gm vl M) (i : Nat) (v : Value) (M' : Md) (hl : M'.l = M.l) (hc : (mdC vl M).set i v = mdC vl M') : MdAt (w.setCell ⟨gm, i, none⟩ v) B gm vl M' := by
  refine ⟨?_, ?_, h.base⟩
  · rw [← hc]
    exact h.blk.set i v
  · rw [hl]
    exact h.recs.keep fun k hk => Below.heap_setCell w ⟨gm, i, none⟩ v k (h.ne k hk)
theorem MdAt.putL (h : MdAt w B gm vl M) (v : Value) (l : List (Nat × List UInt8)) (hv : RecS w B v l) (hn : v.ownBlock ≠ some gm) : MdAt (w.setCell ⟨gm, 0, none⟩ v) B gm v { M with l := l } :=
  ⟨h.blk.set 0 v, hv.keep fun k hk => Below.heap_setCell w ⟨gm, 0, none⟩ v k (fun e => hn (by rw [hk]; exact congrArg some e)), h.base⟩
theorem Mfr.ext {w' : World} (hx : Ext w w') : Mfr gm vl w w' := ⟨hx.os, hx.tape, hx.output, hx.size, fun k hk _ _ => Below.block hx k hk⟩
theorem Mfr.cell (i : Nat) (v : Value) : Mfr gm vl w (w.setCell ⟨gm, i, none⟩ v) := ⟨rfl, rfl, rfl, by simp, fun k _ hn _ => Below.heap_setCell w ⟨gm, i, none⟩ v k hn⟩
theorem Mfr.trans {vl' : Value} {w2 : World} (h : Mfr gm vl w w1) (k : Mfr gm vl' w1 w2) (hl : vl'.ownBlock = vl.ownBlock ∨ ∀ k, vl'.ownBlock = some k → w.heap.size ≤ k) : Mfr gm vl w w2 :=
  ⟨k.os.trans h.os, k.tape.trans h.tape, k.output.trans h.output, Nat.le_trans h.size k.size, fun j hj h1 h2 => (k.other j (Nat.lt_of_lt_of_le hj h.size) h1 (fun e => by
    rcases hl with hl | hl
    · exact h2 (hl ▸ e)
    · have := hl j e; omega)).trans (h.other j hj h1 h2)⟩
set_option maxRecDepth 20000 in
set_option maxHeartbeats 3200000 in
theorem put_any (h : MdAt w B gm vl M) (P : Option Addr) (c n : Nat) (p : List UInt8) (hr : Rd w P p) (hn : p.length = n) (hl : n ≤ 1200) (hle : M.l.length ≤ 1000) (hen : M.en < 1000000000000) (hB : B ≤ w.heap.size) :
    Calls Tryd.prog 31 #[.pointer (some ⟨gm, 0, none⟩), .slice P n c] w (fun e w' => ∃ vl', e = .returned (.int .u64 (M.en : Int)) ∧ MdAt w' B gm vl' { M with l := M.l ++ [(M.en, p)], en := M.en + (n + 2) } ∧ Mfr gm vl w w' ∧ (vl'.ownBlock = vl.ownBlock ∨ ∀ k, vl'.ownBlock = some k → w.heap.size ≤ k)) := by
  have H := hide h
  have HM0 : Hid (MdAt w.drew B gm vl M) := hide (h.ext (Ext.drew _))
  obtain ⟨c0, c1, -, -, -, -, -⟩ := h.cells
  have hs := str_any (hr.ext (Ext.drew w)) n c hn
  have hs2 := str_any hr n c hn
  obtain ⟨en, HEN⟩ : ∃ en, Hid (M.en = en) := ⟨_, hide rfl⟩
  rw [HEN.out] at c1 hen ⊢
  have hw1 : IntKind.u64.wrap (n : Int) = (n : Int) := by rw [IntKind.wrap_u64]; omega
  have hw2 : IntKind.u64.wrap ((n : Int) + 2) = (n : Int) + 2 := by rw [IntKind.wrap_u64]; omega
  have hw3 : IntKind.u64.wrap ((en : Int) + ((n : Int) + 2)) = ((en + (n + 2) : Nat) : Int) := by rw [IntKind.wrap_u64]; omega
  have HLE := hide hle
  have HB := hide hB
  obtain ⟨v2, w2, hrun, hrs, hg2, hn2, A2, d2, hv2⟩ := run_pushR w.drew 30 B vl M.l (en, p) HM0.out.recs HB.out (Nat.le_trans HLE.out (by decide))
  subst hv2
  have HRS := hide hrs
  have HBK : Hid (Rw w2 gm 32 (mdC vl M)) := hide ((hg2.block gm HM0.out.blk.lt (fun e => HM0.out.ne gm e.symm rfl)).trans HM0.out.blk)
  have HG2 := hide hg2
  have HN2 := hide hn2
  have e0 := HBK.out.cell (i := 0) rfl
  have f0 := HBK.out.frozen 0
  have HRUN := hide hrun
  have c0b := (h.ext (Ext.alloc w (.cells #[.int .u64 (en : Int), .string ⟨p.toArray⟩] 63))).cells.1
  obtain ⟨vn, HVN⟩ : ∃ vn, Hid (Value.slice A2 (M.l.length + 1) d2 = vn) := ⟨_, hide rfl⟩
  clear h hr hn hl hle hen hB hrun hrs hg2 hn2
  go_enter Tryd.func31, Tryd.ntmps31
  go_upto_region 2 with fail
  go_cut [] from 10 to 22 (fun wx => Hid (wx = w2.setCell ⟨gm, 0, none⟩ (.slice A2 (M.l.length + 1) d2)))
  case first =>
    go_region_law (first
      | (refine step_givesV (gives_append (s := .tmp 14) (x := .tmp 19) rfl (by rfl) (by rfl) HRUN.out ⟨rfl, rfl⟩) rfl ?_))
    all_goals (go_wp2_with fail; go_meet)
    all_goals exact hide rfl
  case rest =>
  obtain ⟨wx, HWXE⟩ : ∃ wx, wx = wc := ⟨_, rfl⟩
  subst HWXE
  have HWX := hcut
  clear hcut
  have HM3 : Hid (MdAt wx B gm (.slice A2 (M.l.length + 1) d2) { M with l := M.l ++ [(en, p)] }) := hide (by
    rw [HWX.out]
    refine ⟨HBK.out.set 0 _, HRS.out.keep fun k hk => ?_, HM0.out.base⟩
    refine Below.heap_setCell w2 ⟨gm, 0, none⟩ _ k (fun e => ?_)
    obtain ⟨vs, hr⟩ := HRS.out.row k hk
    exact (hr.apart HBK.out (by decide)) e)
  have HF3 : Hid (Mfr gm vl w wx) := hide (by
    rw [HWX.out]
    exact ⟨HG2.out.os, HG2.out.tape, HG2.out.output, by simpa using HG2.out.size, fun k hk h1 h2 => (Below.heap_setCell w2 ⟨gm, 0, none⟩ _ k h1).trans (HG2.out.block k hk (fun e => h2 e.symm))⟩)
  have d1 := HM3.out.cells.2.1
  have g1 := HM3.out.blk.frozen 1
  simp only at d1
  rw [HEN.out] at d1
  clear c0 c1 hs hs2 e0 f0 c0b
  go_wp2
  go_ret
  refine ⟨rfl, .slice A2 (M.l.length + 1) d2, HM3.out.put 1 _ _ rfl ?_, ?_, HN2.out⟩
  · rfl
  · exact ⟨HF3.out.os, HF3.out.tape, HF3.out.output, by simpa using HF3.out.size, fun k hk h1 h2 => (Below.heap_setCell wx ⟨gm, 1, none⟩ _ k h1).trans (HF3.out.other k hk h1 h2)⟩
/-- The model's room. -/
def mRoom (M : Md) : Int := (((M.st / 480 + M.cn) * 480 : Nat) : Int) - (M.en : Int) - (M.hl : Int)
set_option maxHeartbeats 1600000 in
theorem mroom_any (h : MdAt w B gm vl M) (hs : M.st < 1000000000000) (hc : M.cn < 5000) (he : M.en ≤ (M.st / 480 + M.cn) * 480) (hh : M.hl < 1000000000000) : Calls Tryd.prog 13 #[.pointer (some ⟨gm, 0, none⟩)] w (fun e w' => e = .returned (.int .i64 (mRoom M)) ∧ ∃ m, w' = w.drewN m) := by
  obtain ⟨-, c1, -, c3, -, c5, c6⟩ := h.cells
  obtain ⟨en, HEN⟩ : ∃ en, Hid (M.en = en) := ⟨_, hide rfl⟩
  obtain ⟨st, HST⟩ : ∃ st, Hid (M.st = st) := ⟨_, hide rfl⟩
  obtain ⟨cn, HCN⟩ : ∃ cn, Hid (M.cn = cn) := ⟨_, hide rfl⟩
  obtain ⟨hl, HHL⟩ : ∃ hl, Hid (M.hl = hl) := ⟨_, hide rfl⟩
  unfold mRoom
  rw [HEN.out] at c1 he ⊢
  rw [HST.out] at c3 hs he ⊢
  rw [HCN.out] at c6 hc he ⊢
  rw [HHL.out] at c5 hh ⊢
  have hw1 : IntKind.u64.wrap (cn : Int) = (cn : Int) := by rw [IntKind.wrap_u64]; omega
  have hw0 : IntKind.u64.wrap ((st : Int) / 480) = (st : Int) / 480 := by rw [IntKind.wrap_u64]; omega
  have hw2 : IntKind.u64.wrap ((st : Int) / 480 + (cn : Int)) = (st : Int) / 480 + (cn : Int) := by rw [IntKind.wrap_u64]; omega
  have hw3 : IntKind.u64.wrap (((st : Int) / 480 + (cn : Int)) * 480) = ((st : Int) / 480 + (cn : Int)) * 480 := by rw [IntKind.wrap_u64]; omega
  have hw4 : IntKind.u64.wrap (((st : Int) / 480 + (cn : Int)) * 480 - (en : Int)) = ((st : Int) / 480 + (cn : Int)) * 480 - (en : Int) := by rw [IntKind.wrap_u64]; omega
  have hw5 : IntKind.i64.wrap (((st : Int) / 480 + (cn : Int)) * 480 - (en : Int)) = ((st : Int) / 480 + (cn : Int)) * 480 - (en : Int) := by rw [IntKind.wrap_i64]; omega
  have hw6 : IntKind.i64.wrap (((st : Int) / 480 + (cn : Int)) * 480 - (en : Int) - (hl : Int)) = ((st : Int) / 480 + (cn : Int)) * 480 - (en : Int) - (hl : Int) := by rw [IntKind.wrap_i64]; omega
  have HV : Hid ((((st / 480 + cn) * 480 : Nat) : Int) - (en : Int) - (hl : Int) = ((st : Int) / 480 + (cn : Int)) * 480 - (en : Int) - (hl : Int)) := hide (by omega)
  rw [HV.out]
  clear h hs hc he hh
  go_enter Tryd.func13, Tryd.ntmps13
  go_wp2
  go_quiet (fail)
  go_wp2
  go_ret
  exact ⟨rfl, _, rfl⟩
end
end Go.Proofs.YtnhokabendibmaaDoor
namespace Go.Proofs.YtnhokabendibmaaDoor
open Go.RowKit

/-- Records, each at its place. -/
def plc : Nat → List (List UInt8) → List (Nat × List UInt8)
  | _, [] => []
  | a, p :: rs => (a, p) :: plc (a + (2 + p.length)) rs
theorem plc_len : ∀ (rs : List (List UInt8)) (a : Nat), (plc a rs).length = rs.length
  | [], _ => rfl
  | p :: rs, a => by
    show (plc (a + (2 + p.length)) rs).length + 1 = rs.length + 1
    rw [plc_len rs]
theorem plc_get : ∀ (rs : List (List UInt8)) (a j : Nat) (r : Nat × List UInt8), (plc a rs)[j]? = some r → ∃ pre post, rs = pre ++ r.2 :: post ∧ r.1 = a + (recsB pre).length ∧ pre.length = j
  | [], a, j, r, h => by cases h
  | p :: rs, a, 0, r, h => by
    have h : some (a, p) = some r := h
    injection h with h
    subst h
    exact ⟨[], rs, rfl, rfl, rfl⟩
  | p :: rs, a, j + 1, r, h => by
    obtain ⟨pre, post, h1, h2, h3⟩ := plc_get rs (a + (2 + p.length)) j r h
    refine ⟨p :: pre, post, by rw [h1]; rfl, ?_, by rw [List.length_cons, h3]⟩
    rw [h2, recsB_cons, List.length_append, frm_len]
    omega
theorem plc_app : ∀ (rs : List (List UInt8)) (a : Nat) (p : List UInt8), plc a (rs ++ [p]) = plc a rs ++ [(a + (recsB rs).length, p)]
  | [], a, p => rfl
  | q :: rs, a, p => by
    show (a, q) :: plc (a + (2 + q.length)) (rs ++ [p]) = (a, q) :: (plc (a + (2 + q.length)) rs ++ [_])
    rw [plc_app rs, recsB_cons, List.length_append, frm_len, Nat.add_assoc]
section
variable {w0 w w1 : World} {X : Bk} {D D' : Dk} {L L' : Lg} {B gm : Nat} {vl : Value} {M : Md} {H : List UInt8} {rs : List (List UInt8)}
/-- The model is the log's. -/
structure Mir (D : Dk) (L : Lg) (H : List UInt8) (M : Md) (rs : List (List UInt8)) : Prop where
  rg : Rg D L H
  en : M.en = H.length
  su : M.su = L.sure
  st : M.st = L.hd.st
  fi : L.hd.fi = L.hd.st
  ck : M.ck = L.hd.ck
  hl : M.hl = 0
  cn : M.cn = L.hd.cn
  l : M.l = plc L.hd.fi rs
  recs : H.drop L.hd.fi = recsB rs
  ok : ∀ p ∈ rs, RecOk p
theorem lsure_any (h : LgAt w0 w X D L) : Calls Tryd.prog 26 #[.pointer (some ⟨X.q, 0, none⟩)] w (Same w (.int .u64 (L.sure : Int))) := by
  have c8 := h.blk.cell (i := 8) rfl
  clear h
  go_enter Tryd.func26, Tryd.ntmps26
  go_wp2
  go_ret
  exact ⟨rfl, rfl⟩
theorem lstart_any (h : LgAt w0 w X D L) : Calls Tryd.prog 27 #[.pointer (some ⟨X.q, 0, none⟩)] w (Same w (.int .u64 (L.hd.st : Int))) := by
  have c4 := h.blk.cell (i := 4) rfl
  clear h
  go_enter Tryd.func27, Tryd.ntmps27
  go_wp2
  go_ret
  exact ⟨rfl, rfl⟩
theorem lcheck_any (h : LgAt w0 w X D L) : Calls Tryd.prog 28 #[.pointer (some ⟨X.q, 0, none⟩)] w (Same w (.int .u64 (L.hd.ck : Int))) := by
  have c6 := h.blk.cell (i := 6) rfl
  clear h
  go_enter Tryd.func28, Tryd.ntmps28
  go_wp2
  go_ret
  exact ⟨rfl, rfl⟩
theorem to_drewN {W : World} {r : Value} {e : Ending} {w' : World} (h : Same W r e w') : e = .returned r ∧ ∃ m, w' = W.drewN m := ⟨h.1, 0, h.2.symm⟩
set_option maxRecDepth 20000 in
set_option maxHeartbeats 3200000 in
theorem same_any (h : LgAt w0 w X D L) (hm : MdAt w B gm vl M) (mi : Mir D L H M rs) : Calls Tryd.prog 32 #[.pointer (some ⟨X.q, 0, none⟩), .pointer (some ⟨gm, 0, none⟩)] w (fun e w' => e = .returned (.bool true) ∧ ∃ m, w' = w.drewN m) := by
  have hok := mi.rg.ok
  have hst0 : L.hd.st < 1152921504606846976 := by have := mi.rg.st; have := hok.sure; omega
  have KE := hide (fun (W : World) (hW : Ext w W) => end_any (h.ext_ hW) hok)
  have KS := hide (fun (W : World) (hW : Ext w W) => (lsure_any (h.ext_ hW)).mono fun _ _ hh => to_drewN hh)
  have KT := hide (fun (W : World) (hW : Ext w W) => (lstart_any (h.ext_ hW)).mono fun _ _ hh => to_drewN hh)
  have KC := hide (fun (W : World) (hW : Ext w W) => (lcheck_any (h.ext_ hW)).mono fun _ _ hh => to_drewN hh)
  have KH := hide (fun (W : World) (hW : Ext w W) => (held_any (h.ext_ hW)).mono fun _ _ hh => to_drewN hh)
  have KR := hide (fun (W : World) (hW : Ext w W) => room_any (h.ext_ hW) hok hst0)
  have KM := hide (fun (W : World) (hW : Ext w W) => mroom_any (hm.ext hW) (by rw [mi.st]; have := mi.rg.st; have := mi.rg.sure; have := mi.rg.big; omega) (by rw [mi.cn]; have := mi.rg.cn; omega) (by rw [mi.st, mi.cn, mi.en]; exact mi.rg.ring) (by rw [mi.hl]; decide))
  have HR : Hid (mRoom M = roomOf L) := hide (by
    unfold mRoom
    rw [mi.rg.room, mi.st, mi.cn, mi.en, mi.hl]
    omega)
  obtain ⟨-, c1, c2, c3, c4, c5, -⟩ := hm.cells
  rw [mi.en] at c1
  rw [mi.su] at c2
  rw [mi.st] at c3
  rw [mi.ck] at c4
  rw [mi.hl] at c5
  obtain ⟨en, HEN⟩ : ∃ en, Hid (H.length = en) := ⟨_, hide rfl⟩
  obtain ⟨ro, HRO⟩ : ∃ ro, Hid (roomOf L = ro) := ⟨_, hide rfl⟩
  obtain ⟨su, HSU⟩ : ∃ su, Hid (L.sure = su) := ⟨_, hide rfl⟩
  obtain ⟨st, HST⟩ : ∃ st, Hid (L.hd.st = st) := ⟨_, hide rfl⟩
  obtain ⟨ck, HCK⟩ : ∃ ck, Hid (L.hd.ck = ck) := ⟨_, hide rfl⟩
  rw [mi.rg.end_, HEN.out] at KE
  rw [HSU.out] at KS c2
  rw [HST.out] at KT c3
  rw [HCK.out] at KC c4
  rw [mi.rg.held] at KH
  rw [HRO.out] at KR HR
  rw [HR.out] at KM
  rw [HEN.out] at c1
  clear h hm mi hok hst0
  go_enter Tryd.func32, Tryd.ntmps32
  go_wp2
  go_quiet (first
    | (go_at_call 15; exact Calls.quiet_of (KE.out _ ((Ext.refl _).drewN _)))
    | (go_at_call 26; exact Calls.quiet_of (KS.out _ ((Ext.refl _).drewN _)))
    | (go_at_call 27; exact Calls.quiet_of (KT.out _ ((Ext.refl _).drewN _)))
    | (go_at_call 28; exact Calls.quiet_of (KC.out _ ((Ext.refl _).drewN _)))
    | (go_at_call 30; exact Calls.quiet_of (KH.out _ ((Ext.refl _).drewN _)))
    | (go_at_call 29; exact Calls.quiet_of (KR.out _ ((Ext.refl _).drewN _)))
    | (go_at_call 13; exact Calls.quiet_of (KM.out _ ((Ext.refl _).drewN _))))
  go_wp2
  go_ret
  exact ⟨rfl, _, rfl⟩
end
end Go.Proofs.YtnhokabendibmaaDoor
namespace Go.Proofs.YtnhokabendibmaaDoor
open Go.RowKit

section
variable {w0 w w1 : World} {X : Bk} {D D' : Dk} {L L' : Lg} {B gm : Nat} {vl : Value} {M : Md} {H : List UInt8} {rs : List (List UInt8)}
/-- A record that stands there is read. -/
theorem read_rec (h : LgAt w0 w X D L) (rg : Rg D L H) (x : Nat) (p rest : List UInt8) (hf : L.hd.fi ≤ x) (hp : RecOk p) (hH : H.drop x = frm p ++ rest) (hT : Tab w0) :
    Calls Tryd.prog 25 #[.pointer (some ⟨X.q, 0, none⟩), .int .u64 (x : Int)] w (fun e w' => ∃ A c, e = .returned (.tuple #[.slice A p.length c, .int .u64 ((x + 2 + p.length : Nat) : Int), .int .i64 0]) ∧ Rd w' A p ∧ Ext w w') := by
  obtain ⟨ep, hd⟩ := rg.dur
  have hlen : H.length - x = 2 + p.length + rest.length := by rw [← List.length_drop, hH, List.length_append, frm_len]
  have b1 := byE_is rg.on hd rg.sure rg.tail x 2 hf (by omega)
  have b2 := byE_is rg.on hd rg.sure rg.tail (x + 2) p.length (by omega) (by omega)
  have e1 : byB D L x 2 = be2 p.length ++ [] := by
    rw [b1.2, hH]
    unfold frm
    rw [List.append_assoc, List.append_nil]
    exact List.take_left' (be2_length _)
  have e2 : byB D L (x + 2) p.length = p := by
    rw [b2.2, ← List.drop_drop, hH]
    unfold frm
    rw [List.append_assoc, List.drop_left' (be2_length _)]
    exact List.take_left' rfl
  have k := read_at h rg.ok rg.bd rg.on x p.length hp.1 (by rw [rg.end_]; omega) hf b1.1 (by rw [e1]; exact be2_get _ hp.2 _) b2.1 hT
  rw [e2] at k
  refine k.mono fun e w' hh => ?_
  obtain ⟨v, he, ho, hx⟩ := hh
  obtain ⟨A, c, rfl, -, hr⟩ := ho.bytes
  exact ⟨A, c, he, hr, hx⟩
set_option maxRecDepth 20000 in
set_option maxHeartbeats 3200000 in
theorem all_any (h : LgAt w0 w X D L) (hm : MdAt w B gm vl M) (mi : Mir D L H M rs) (hT : Tab w0) : Calls Tryd.prog 33 #[.pointer (some ⟨gm, 0, none⟩), .pointer (some ⟨X.q, 0, none⟩)] w (fun e w' => e = .returned (.bool true) ∧ Ext w w') := by
  have HL := hide h
  have HM := hide hm
  have HMI := hide mi
  have HT := hide hT
  obtain ⟨n, HN⟩ : ∃ n, Hid (M.l.length = n) := ⟨_, hide rfl⟩
  obtain ⟨A0, d0, hv0⟩ := hm.recs.slice
  rw [HN.out] at hv0
  have HV0 := hide hv0
  have hst0 := mi.rg.st
  have hsu0 := mi.rg.sure
  have hbg0 := mi.rg.big
  obtain ⟨st, HST⟩ : ∃ st, Hid (L.hd.st = st) := ⟨_, hide rfl⟩
  obtain ⟨en, HEN⟩ : ∃ en, Hid (H.length = en) := ⟨_, hide rfl⟩
  have HNB : Hid (n ≤ 1000000000000) := hide (by
    have h1 : M.l.length = rs.length := by rw [mi.l, plc_len]
    have h2 := recs_le rs
    have h3 : (recsB rs).length = H.length - L.hd.fi := by rw [← mi.recs, List.length_drop]
    rw [← HN.out]
    omega)
  have HSB : Hid (480 ≤ st ∧ st ≤ en ∧ en < 1000000000000) := hide (by rw [← HST.out, ← HEN.out]; omega)
  have KE : Hid (∀ W, Ext w W → Calls Tryd.prog 25 #[.pointer (some ⟨X.q, 0, none⟩), .int .u64 (en : Int)] W (RNone W 6)) := hide (fun W hW => by
    have k := read_end (h.ext_ hW) mi.rg.ok (by rw [mi.rg.end_]; omega)
    rw [mi.rg.end_, HEN.out] at k
    exact k)
  have KH : Hid (∀ W, Ext w W → Calls Tryd.prog 25 #[.pointer (some ⟨X.q, 0, none⟩), .int .u64 ((en + 1 : Nat) : Int)] W (RNone W 1)) := hide (fun W hW => by
    exact read_hi (h.ext_ hW) mi.rg.ok (en + 1) (by rw [← HEN.out]; omega) (by rw [mi.rg.end_, HEN.out]; omega))
  have KL : Hid (∀ W, Ext w W → Calls Tryd.prog 25 #[.pointer (some ⟨X.q, 0, none⟩), .int .u64 ((st - 1 : Nat) : Int)] W (RNone W 1)) := hide (fun W hW => by
    exact read_lo (h.ext_ hW) (st - 1) (by rw [mi.fi, HST.out]; have := HSB.out; omega))
  have KR : Hid (∀ (W : World) (k : Nat) (r : Nat × List UInt8), Ext w W → M.l[k]? = some r → Calls Tryd.prog 25 #[.pointer (some ⟨X.q, 0, none⟩), .int .u64 (r.1 : Int)] W (fun e w' => ∃ A c, e = .returned (.tuple #[.slice A r.2.length c, .int .u64 ((r.1 + 2 + r.2.length : Nat) : Int), .int .i64 0]) ∧ Rd w' A r.2 ∧ Ext W w')) := hide (fun W k r hW hk => by
    rw [mi.l] at hk
    obtain ⟨pre, post, e1, e2, e3⟩ := plc_get rs L.hd.fi k r hk
    have e4 : H.drop r.1 = frm r.2 ++ recsB post := by
      rw [e2, ← List.drop_drop, mi.recs, e1, recsB_app, List.drop_left, recsB_cons]
    exact read_rec (h.ext_ hW) mi.rg r.1 r.2 (recsB post) (by rw [e2]; omega) (mi.ok r.2 (by rw [e1]; simp)) e4 hT)
  have HRG : Hid (∀ (k : Nat) (r : Nat × List UInt8), M.l[k]? = some r → st ≤ r.1 ∧ r.1 < 1000000000000 ∧ r.2.length ≤ 1200) := hide (fun k r hk => by
    rw [mi.l] at hk
    obtain ⟨pre, post, e1, e2, e3⟩ := plc_get rs L.hd.fi k r hk
    have h2 := mi.ok r.2 (by rw [e1]; simp)
    have h3 : (recsB rs).length = H.length - L.hd.fi := by rw [← mi.recs, List.length_drop]
    rw [e1, recsB_app, List.length_append] at h3
    have h4 := mi.fi
    have h5 := h2.2
    refine ⟨by rw [← HST.out]; omega, by omega, h5⟩)
  have c0 := hm.cells.1
  rw [hv0] at c0
  have c1 := hm.cells.2.1
  have c3 := hm.cells.2.2.2.1
  rw [mi.en, HEN.out] at c1
  rw [mi.st, HST.out] at c3
  clear h hm mi hst0 hsu0 hbg0 hv0 hT
  go_enter Tryd.func33, Tryd.ntmps33
  go_upto_region 2 with fail
  go_loopw [5] (fun x wr => ∃ k : Nat, x = .int .i64 (k : Int) ∧ k ≤ n ∧ Hid (Ext w wr)) (fun x _ => n - (intOf x).toNat)
  case atStart => exact ⟨0, rfl, Nat.zero_le _, hide (Ext.refl _)⟩
  case round =>
    obtain ⟨k, rfl, hk, HX⟩ := hrel
    have HMR := hide (HM.out.ext HX.out)
    have b0 := HMR.out.cells.1
    have b3 := HMR.out.cells.2.2.2.1
    rw [show M.st = st from by rw [HMI.out.st, HST.out]] at b3
    by_cases hkn : k < n
    · obtain ⟨r, hr⟩ : ∃ r, M.l[k]? = some r := ⟨_, List.getElem?_eq_getElem (by rw [HN.out]; exact hkn)⟩
      have HRK := hide hr
      obtain ⟨g, off, d, hv, hnd, hcell⟩ := HMR.out.recs.at (by intro e; rw [e] at hr; cases hr)
      rw [HN.out] at hv hnd
      have HV := hide hv
      have HND := hide hnd
      rw [hv] at b0
      obtain ⟨a0, a1⟩ := hcell k r hr
      obtain ⟨x, HX0⟩ : ∃ x, Hid (r.1 = x) := ⟨_, hide rfl⟩
      obtain ⟨p, HP0⟩ : ∃ p, Hid (r.2 = p) := ⟨_, hide rfl⟩
      have HG := hide (HRG.out k r hr)
      have KRX := hide (fun W hW => KR.out W k r hW hr)
      rw [HX0.out] at a0 HG KRX
      rw [HP0.out] at a1 HG KRX
      have HCL : Hid (∀ W, Ext wr W → W.cell? ⟨gm, 0, none⟩ = some (.slice (some ⟨g, off, none⟩) n d) ∧ W.cell? ⟨g, off + k * 2, none⟩ = some (.int .u64 (x : Int)) ∧ W.cell? ⟨g, off + k * 2 + 1, none⟩ = some (.string ⟨p.toArray⟩)) := hide (fun W hW => by
        have hm2 := HMR.out.ext hW
        have q0 := hm2.cells.1
        obtain ⟨g2, off2, d2, hv2, -, hc2⟩ := hm2.recs.at (by intro e; rw [e] at hr; cases hr)
        rw [hv2] at hv
        injection hv with e1 e2 e3
        injection e1 with e1
        injection e1 with e4 e5
        subst e4 e5 e3
        rw [hv2, HN.out] at q0
        obtain ⟨q1, q2⟩ := hc2 k r hr
        rw [HX0.out] at q1
        rw [HP0.out] at q2
        exact ⟨q0, q1, q2⟩)
      obtain ⟨pl, HPL⟩ : ∃ pl, Hid (p.length = pl) := ⟨_, hide rfl⟩
      rw [HPL.out] at HG KRX
      have hki : (k : Int) < (n : Int) := by omega
      have hxs : ¬ (x : Int) < (st : Int) := by have := HG.out.1; omega
      have hw1 : IntKind.u64.wrap (pl : Int) = (pl : Int) := by rw [IntKind.wrap_u64]; have := HG.out; omega
      have hw2 : IntKind.u64.wrap ((x : Int) + (pl : Int)) = (x : Int) + (pl : Int) := by rw [IntKind.wrap_u64]; have := HG.out; omega
      have hw3 : IntKind.u64.wrap ((x : Int) + (pl : Int) + 2) = ((x + 2 + pl : Nat) : Int) := by rw [IntKind.wrap_u64]; have := HG.out; omega
      have hw4 : IntKind.i64.wrap ((k : Int) + 1) = ((k + 1 : Nat) : Int) := by rw [IntKind.wrap_i64]; have := HNB.out; omega
      obtain ⟨k1, HK1⟩ : ∃ k1, Hid (k + 1 = k1) := ⟨_, hide rfl⟩
      have HKN := hide hkn
      rw [HK1.out] at hw4
      obtain ⟨y, HY⟩ : ∃ y : Int, Hid (((x + 2 + pl : Nat) : Int) = y) := ⟨_, hide rfl⟩
      rw [HY.out] at hw3 KRX
      clear hv hnd hr hcell
      go_upto_region 4 with fail
      go_quiet (fail)
      obtain ⟨wq, hwq⟩ : ∃ wq, wr.drewN nq = wq := ⟨_, rfl⟩
      have HXQ : Hid (Ext wr wq) := hide (by rw [← hwq]; exact (Ext.refl _).drewN _)
      rw [hwq]
      clear hwq b0 b3 a0 a1 hxs hki
      obtain ⟨d0, d1, d2⟩ := HCL.out wq HXQ.out
      have hki : (k : Int) < (n : Int) := by have := HKN.out; omega
      go_upto_region 6 with (go_at_call 25; (with_reducible refine (KRX.out wq (HX.out.trans HXQ.out)).mono ?_); rintro e w4 ⟨A4, c4, rfl, hr4, hx4⟩; have HX4 : Hid (Ext wr w4) := hide (HXQ.out.trans hx4); have hs4 := str_any hr4 pl c4 HPL.out; have hs5 := (fun (m : Nat) => str_any (hr4.ext ((Ext.refl w4).drewN m)) pl c4 HPL.out); clear hr4 hx4)
      clear d0 d1 d2
      obtain ⟨d0, d1, d2⟩ := HCL.out w4 HX4.out
      go_quiet (fail)
      obtain ⟨w5, hw5⟩ : ∃ w5, w4.drewN nq = w5 := ⟨_, rfl⟩
      have HX5 : Hid (Ext w w5) := hide (by rw [← hw5]; exact (HX.out.trans HX4.out).drewN _)
      rw [hw5]
      clear hw5 d0 d1 d2 hs4 hs5
      go_wp2
      refine ⟨⟨k1, rfl, by have := HK1.out; have := HKN.out; omega, HX5⟩, ?_⟩
      show n - ((k1 : Nat) : Int).toNat < n - ((k : Nat) : Int).toNat
      have := HK1.out
      have := HKN.out
      omega
    · have hki : ¬ (k : Int) < (n : Int) := by omega
      rw [HV0.out] at b0
      have b1 := HMR.out.cells.2.1
      rw [show M.en = en from by rw [HMI.out.en, HEN.out]] at b1
      have HC1 : Hid (∀ W, Ext wr W → W.cell? ⟨gm, 1, none⟩ = some (.int .u64 (en : Int)) ∧ W.cell? ⟨gm, 3, none⟩ = some (.int .u64 (st : Int))) := hide (fun W hW => by
        have hm2 := HMR.out.ext hW
        have q1 := hm2.cells.2.1
        have q3 := hm2.cells.2.2.2.1
        rw [show M.en = en from by rw [HMI.out.en, HEN.out]] at q1
        rw [show M.st = st from by rw [HMI.out.st, HST.out]] at q3
        exact ⟨q1, q3⟩)
      have hw1 : IntKind.u64.wrap ((en : Int) + 1) = ((en + 1 : Nat) : Int) := by rw [IntKind.wrap_u64]; have := HSB.out; omega
      have hw2 : IntKind.u64.wrap ((st : Int) - 1) = ((st - 1 : Nat) : Int) := by rw [IntKind.wrap_u64]; have := HSB.out; omega
      obtain ⟨e1, HE1⟩ : ∃ e1, Hid (en + 1 = e1) := ⟨_, hide rfl⟩
      obtain ⟨s1, HS1⟩ : ∃ s1, Hid (st - 1 = s1) := ⟨_, hide rfl⟩
      rw [HE1.out] at hw1 KH
      rw [HS1.out] at hw2 KL
      clear c0 c1 c3 hk
      go_wp2_with (first
        | (go_at_call 25; (with_reducible refine (KE.out wr HX.out).mono ?_); rintro e w4 ⟨rfl, m4, hw4⟩; have HX4 : Hid (Ext wr w4) := hide (by rw [hw4]; exact (Ext.refl _).drewN _); obtain ⟨q1, q3⟩ := HC1.out w4 HX4.out; clear hw4)
        | (go_at_call 25; (with_reducible refine (KH.out w4 (HX.out.trans HX4.out)).mono ?_); rintro e w5 ⟨rfl, m5, hw5⟩; have HX5 : Hid (Ext wr w5) := hide (by rw [hw5]; exact HX4.out.drewN _); obtain ⟨p1, p3⟩ := HC1.out w5 HX5.out; clear hw5)
        | (go_at_call 25; (with_reducible refine (KL.out w5 (HX.out.trans HX5.out)).mono ?_); rintro e w6 ⟨rfl, m6, hw6⟩; have HX6 : Hid (Ext wr w6) := hide (by rw [hw6]; exact HX5.out.drewN _); clear hw6))
      go_ret
      exact ⟨rfl, HX.out.trans HX6.out⟩
end
end Go.Proofs.YtnhokabendibmaaDoor
