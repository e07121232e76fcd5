/-
  Base 64: what is read is what is written (plain).
  Base 64 bit by bit (plain); what is written is read.
  Base 64: the document's.
  Base 64: what the document reads, bit by bit (plain).
  Base 64: the document's reading.
  Codec: awake.
  The walk of CodecBases.
-/
import Derived.RegionTactic
import Derived.Deep.RegionLaw
import Derived.Test.YtakmifnageepbaaDoorPkCardCdBases2
set_option linter.unusedVariables false
set_option linter.unusedSimpArgs false

namespace Go.Proofs.YtakmifnageepbaaDoor
open Go.RowKit

theorem goR_num : ∀ (cs out : List UInt8) (vs : List Nat) (b l : Nat) (r : List UInt8) (b' l' : Nat), l < 8 → l % 2 = 0 → b < 4294967296 → num64 vs = num256 out * 2 ^ l + b % 2 ^ l → vs.length * 6 = out.length * 8 + l → goR cs b l = some (r, b', l') →
    ∃ us : List Nat, cs = us.map sgn ∧ (∀ v ∈ us, v < 64) ∧ num64 (vs ++ us) = num256 (out ++ r) * 2 ^ l' + b' % 2 ^ l' ∧ (vs.length + us.length) * 6 = (out.length + r.length) * 8 + l' ∧ l' < 8 ∧ l' % 2 = 0
  | [], out, vs, b, l, r, b', l', hl, he, hb, hn, hd, h => by
    simp only [goR, Option.some.injEq, Prod.mk.injEq] at h
    obtain ⟨rfl, rfl, rfl⟩ := h
    exact ⟨[], rfl, by simp, by simpa using hn, by simpa using hd, hl, he⟩
  | c :: cs, out, vs, b, l, r, b', l', hl, he, hb, hn, hd, h => by
    cases hs : sixN c with
    | none => simp only [goR, hs] at h; cases h
    | some v =>
      obtain ⟨_, hv64, hsg⟩ := six_some c v hs
      obtain ⟨b1, hb1⟩ : ∃ u, b * 64 % 4294967296 + v = u := ⟨_, rfl⟩
      have hb1lt : b1 < 4294967296 := by omega
      simp only [goR, hs, hb1] at h
      by_cases h2 : 2 ≤ l
      · rw [if_pos h2] at h
        cases hg : goR cs b1 (l - 2) with
        | none => rw [hg] at h; cases h
        | some q =>
          obtain ⟨r1, b2, l2⟩ := q
          rw [hg] at h
          simp only [Option.map_some, Option.some.injEq, Prod.mk.injEq] at h
          obtain ⟨rfl, rfl, rfl⟩ := h
          obtain ⟨y, hy⟩ : ∃ y, b1 / 2 ^ (l - 2) % 256 = y := ⟨_, rfl⟩
          rw [hy]
          have hy256 : y < 256 := by rw [← hy]; exact Nat.mod_lt _ (by decide)
          have hby : (b8 (y : Int)).toNat = y := by
            have := b8_toNat (n := (y : Int)) (by omega) (by omega)
            omega
          have key : num64 (vs ++ [v]) = num256 (out ++ [b8 (y : Int)]) * 2 ^ (l - 2) + b1 % 2 ^ (l - 2) := by
            rw [num64_snoc, num256_snoc, hby, hn, ← hy]
            rcases (by omega : l = 2 ∨ l = 4 ∨ l = 6) with rfl | rfl | rfl
            · show (num256 out * 4 + b % 4) * 64 + v = (num256 out * 256 + b1 / 1 % 256) * 1 + b1 % 1
              omega
            · show (num256 out * 16 + b % 16) * 64 + v = (num256 out * 256 + b1 / 4 % 256) * 4 + b1 % 4
              omega
            · show (num256 out * 64 + b % 64) * 64 + v = (num256 out * 256 + b1 / 16 % 256) * 16 + b1 % 16
              omega
          obtain ⟨us, h1, h3, h4, h5, h6⟩ := goR_num cs (out ++ [b8 (y : Int)]) (vs ++ [v]) b1 (l - 2) r1 b2 l2 (by omega) (by omega) hb1lt key (by simp only [List.length_append, List.length_singleton]; omega) hg
          refine ⟨v :: us, by rw [List.map_cons, hsg, h1], ?_, ?_, ?_, h6⟩
          · intro u hu
            rcases List.mem_cons.1 hu with rfl | hu
            · exact hv64
            · exact h3 u hu
          · have e1 : vs ++ v :: us = (vs ++ [v]) ++ us := by simp
            have e2 : out ++ b8 (y : Int) :: r1 = (out ++ [b8 (y : Int)]) ++ r1 := by simp
            rw [e1, e2]
            exact h4
          · simp only [List.length_append, List.length_cons, List.length_nil] at h5 ⊢
            omega
      · rw [if_neg h2] at h
        have key : num64 (vs ++ [v]) = num256 out * 2 ^ (l + 6) + b1 % 2 ^ (l + 6) := by
          rw [num64_snoc, hn]
          obtain rfl : l = 0 := by omega
          show (num256 out * 1 + b % 1) * 64 + v = num256 out * 64 + b1 % 64
          omega
        obtain ⟨us, h1, h3, h4, h5, h6⟩ := goR_num cs out (vs ++ [v]) b1 (l + 6) r b' l' (by omega) (by omega) hb1lt key (by simp only [List.length_append, List.length_singleton]; omega) h
        refine ⟨v :: us, by rw [List.map_cons, hsg, h1], ?_, ?_, ?_, h6⟩
        · intro u hu
          rcases List.mem_cons.1 hu with rfl | hu
          · exact hv64
          · exact h3 u hu
        · have e1 : vs ++ v :: us = (vs ++ [v]) ++ us := by simp
          rw [e1]
          exact h4
        · simp only [List.length_append, List.length_cons, List.length_nil] at h5 ⊢
          omega
/-- What is read of some signs is written as they are. -/
theorem base_read (q r : List UInt8) (h : readB q = some r) : baseB r = q := by
  unfold readB at h
  cases hg : goR q 0 0 with
  | none => rw [hg] at h; cases h
  | some t =>
    obtain ⟨r1, b, l⟩ := t
    rw [hg] at h
    simp only [finR, Option.bind_some, List.nil_append] at h
    by_cases hc : l = 6 ∨ b % 2 ^ l ≠ 0
    · rw [if_pos hc] at h; cases h
    · rw [if_neg hc] at h
      injection h with h
      subst h
      obtain ⟨us, hq, hu, hnum, hlen, hl8, hle⟩ := goR_num q [] [] 0 0 r1 b l (by decide) (by decide) (by decide) (by decide) (by decide) hg
      obtain ⟨ws, hw, hwl, hwn, hwlen, hl6⟩ := goB_num r1 [] [] 0 0 (by decide) (by decide) (by decide) (by decide) (by decide) (fun v hv => by cases hv)
      have hb0 : b % 2 ^ l = 0 := by
        rcases Nat.eq_zero_or_pos (b % 2 ^ l) with h0 | h0
        · exact h0
        · exact absurd (.inr (by omega)) hc
      have hl6' : l ≠ 6 := fun e => hc (.inl e)
      simp only [List.nil_append, List.length_nil, Nat.zero_add] at hnum hlen hwn hwlen
      rw [hb0, Nat.add_zero] at hnum
      unfold baseB
      obtain ⟨tb, htb⟩ : ∃ u, (goB r1 0 0).2.1 = u := ⟨_, rfl⟩
      obtain ⟨tl, htl⟩ : ∃ u, (goB r1 0 0).2.2 = u := ⟨_, rfl⟩
      rw [htb, htl] at hwn
      rw [htl] at hwlen hl6
      rw [hw, htb, htl, hq]
      rw [hwn] at hnum
      by_cases h0 : 0 < tl
      · rw [if_pos h0]
        have e : ws.map sgn ++ [sgn (tb * 2 ^ (6 - tl) % 64)] = (ws ++ [tb * 2 ^ (6 - tl) % 64]).map sgn := by simp
        rw [e]
        congr 1
        refine num64_inj us.length _ _ (by simp only [List.length_append, List.length_singleton]; omega) rfl ?_ hu ?_
        · intro v hv
          rcases List.mem_append.1 hv with hv | hv
          · exact hwl v hv
          · rw [List.mem_singleton.1 hv]; exact Nat.mod_lt _ (by decide)
        · rw [num64_snoc, hnum]
          rcases (by omega : tl = 2 ∧ l = 4 ∨ tl = 4 ∧ l = 2) with ⟨rfl, rfl⟩ | ⟨rfl, rfl⟩
          · show num64 ws * 64 + tb * 16 % 64 = (num64 ws * 4 + tb % 4) * 16
            omega
          · show num64 ws * 64 + tb * 4 % 64 = (num64 ws * 16 + tb % 16) * 4
            omega
      · obtain rfl : tl = 0 := by omega
        rw [if_neg (by decide), List.append_nil]
        congr 1
        obtain rfl : l = 0 := by omega
        refine num64_inj us.length _ _ (by omega) rfl hwl hu ?_
        rw [hnum]
        simp [Nat.mod_one]
theorem goR_bad (c : UInt8) (hc : sixN c = none) : ∀ (cs : List UInt8) (b l : Nat), goR (cs ++ [c]) b l = none
  | [], b, l => by simp only [List.nil_append, goR, hc]
  | d :: cs, b, l => by
    simp only [List.cons_append, goR]
    cases sixN d with
    | none => rfl
    | some v =>
      simp only
      split
      · rw [goR_bad c hc cs]; rfl
      · exact goR_bad c hc cs _ _
theorem readB_eq (l : List UInt8) : readB (l ++ [61]) = none := by
  unfold readB
  rw [goR_bad 61 (by kernel_rfl)]
  rfl
theorem baseB_len (l : List UInt8) : (baseB l).length = (l.length * 4 + 2) / 3 := by
  have h := goB_len l 0 0 (by decide)
  unfold baseB
  rw [List.length_append]
  split
  · simp only [List.length_singleton]; omega
  · simp only [List.length_nil]; omega
end Go.Proofs.YtakmifnageepbaaDoor
namespace Go.Proofs.YtakmifnageepbaaDoor
open Go.RowKit

/-- The bit at a place; 0 behind the end. -/
def bitB (l : List UInt8) (k : Nat) : Nat := (l.getD (k / 8) 0).toNat / 2 ^ (7 - k % 8) % 2
/-- The number of so many bits from a place on. -/
def valB (l : List UInt8) (f : Nat) : Nat → Nat
  | 0 => 0
  | j + 1 => valB l f j * 2 + bitB l (f + j)
theorem bitB_lt (l : List UInt8) (k : Nat) : bitB l k < 2 := Nat.mod_lt _ (by decide)
theorem valB_lt (l : List UInt8) (f : Nat) : ∀ j, valB l f j < 2 ^ j
  | 0 => Nat.one_pos
  | j + 1 => by
    have h1 := valB_lt l f j
    have h2 := bitB_lt l (f + j)
    show valB l f j * 2 + bitB l (f + j) < 2 ^ (j + 1)
    rw [Nat.pow_succ]
    omega
theorem valB_add (l : List UInt8) (f a : Nat) : ∀ b, valB l f (a + b) = valB l f a * 2 ^ b + valB l (f + a) b
  | 0 => by simp [valB]
  | b + 1 => by
    show valB l f (a + b) * 2 + bitB l (f + (a + b)) = valB l f a * 2 ^ (b + 1) + (valB l (f + a) b * 2 + bitB l (f + a + b))
    rw [valB_add l f a b, Nat.pow_succ, ← Nat.add_assoc]
    have e : valB l f a * (2 ^ b * 2) = valB l f a * 2 ^ b * 2 := by rw [Nat.mul_assoc]
    rw [e]
    omega
theorem bitB_out (l : List UInt8) (k : Nat) (h : l.length * 8 ≤ k) : bitB l k = 0 := by
  unfold bitB
  rw [List.getD_eq_getElem?_getD, List.getElem?_eq_none (by omega)]
  simp
theorem valB_out (l : List UInt8) (f : Nat) (h : l.length * 8 ≤ f) : ∀ j, valB l f j = 0
  | 0 => rfl
  | j + 1 => by
    show valB l f j * 2 + bitB l (f + j) = 0
    rw [valB_out l f h j, bitB_out l _ (by omega)]
theorem valB_byte (l : List UInt8) (j : Nat) (x : UInt8) (h : l[j]? = some x) : valB l (j * 8) 8 = x.toNat := by
  have hx := x.toNat_lt
  have hb : ∀ i, i < 8 → bitB l (j * 8 + i) = x.toNat / 2 ^ (7 - i) % 2 := fun i hi => by
    unfold bitB
    rw [show (j * 8 + i) / 8 = j by omega, show (j * 8 + i) % 8 = i by omega, List.getD_eq_getElem?_getD, h]
    rfl
  show (((((((0 * 2 + bitB l (j * 8 + 0)) * 2 + bitB l (j * 8 + 1)) * 2 + bitB l (j * 8 + 2)) * 2 + bitB l (j * 8 + 3)) * 2 + bitB l (j * 8 + 4)) * 2 + bitB l (j * 8 + 5)) * 2 + bitB l (j * 8 + 6)) * 2 + bitB l (j * 8 + 7) = _
  rw [hb 0 (by decide), hb 1 (by decide), hb 2 (by decide), hb 3 (by decide), hb 4 (by decide), hb 5 (by decide), hb 6 (by decide), hb 7 (by decide)]
  simp only [Nat.sub_zero, Nat.reduceSub, Nat.reducePow]
  omega
theorem valB_bytes (l : List UInt8) : ∀ j, j ≤ l.length → valB l 0 (j * 8) = num256 (l.take j)
  | 0, _ => by simp [valB, num256]
  | j + 1, hj => by
    obtain ⟨x, hx⟩ : ∃ x, l[j]? = some x := ⟨_, List.getElem?_eq_getElem (by omega)⟩
    rw [show (j + 1) * 8 = j * 8 + 8 by omega, valB_add, Nat.zero_add, valB_byte l j x hx, valB_bytes l j (by omega), List.take_add_one, hx, Option.toList_some, num256_snoc]
theorem valB_all (l : List UInt8) (d : Nat) : valB l 0 (l.length * 8 + d) = num256 l * 2 ^ d := by
  rw [valB_add, valB_bytes l l.length (Nat.le_refl _), List.take_of_length_le (Nat.le_refl _), valB_out l _ (by omega), Nat.add_zero]
/-- The six bits that the document reads at each place. -/
def sixes (l : List UInt8) (k : Nat) : List Nat := (List.range k).map fun i => valB l (i * 6) 6
theorem sixes_num (l : List UInt8) : ∀ k, num64 (sixes l k) = valB l 0 (k * 6)
  | 0 => rfl
  | k + 1 => by
    have e : sixes l (k + 1) = sixes l k ++ [valB l (k * 6) 6] := by simp [sixes, List.range_succ]
    rw [e, num64_snoc, sixes_num l k, show (k + 1) * 6 = k * 6 + 6 by omega, valB_add, Nat.zero_add]
theorem sixes_lt (l : List UInt8) (k : Nat) : ∀ v ∈ sixes l k, v < 64 := fun v hv => by
  simp only [sixes, List.mem_map] at hv
  obtain ⟨i, _, rfl⟩ := hv
  exact valB_lt l _ 6
theorem sixes_len (l : List UInt8) (k : Nat) : (sixes l k).length = k := by simp [sixes]
/-- Base 64 as six bits. -/
theorem base_sixes (r : List UInt8) : ∃ vs : List Nat, baseB r = vs.map sgn ∧ (∀ v ∈ vs, v < 64) ∧ ∃ d, vs.length * 6 = r.length * 8 + d ∧ d < 6 ∧ d % 2 = 0 ∧ num64 vs = num256 r * 2 ^ d := by
  obtain ⟨ws, hw, hwl, hwn, hwlen, hl6⟩ := goB_num r [] [] 0 0 (by decide) (by decide) (by decide) (by decide) (by decide) (fun v hv => by cases hv)
  simp only [List.nil_append, List.length_nil, Nat.zero_add] at hwn hwlen
  obtain ⟨tb, htb⟩ : ∃ u, (goB r 0 0).2.1 = u := ⟨_, rfl⟩
  obtain ⟨tl, htl⟩ : ∃ u, (goB r 0 0).2.2 = u := ⟨_, rfl⟩
  rw [htb, htl] at hwn
  rw [htl] at hwlen hl6
  unfold baseB
  rw [hw, htb, htl]
  by_cases h0 : 0 < tl
  · rw [if_pos h0]
    refine ⟨ws ++ [tb * 2 ^ (6 - tl) % 64], by simp, ?_, 6 - tl, by simp only [List.length_append, List.length_singleton]; omega, by omega, by omega, ?_⟩
    · intro v hv
      rcases List.mem_append.1 hv with hv | hv
      · exact hwl v hv
      · rw [List.mem_singleton.1 hv]; exact Nat.mod_lt _ (by decide)
    · rw [num64_snoc, hwn]
      rcases (by omega : tl = 2 ∨ tl = 4) with rfl | rfl
      · show num64 ws * 64 + tb * 16 % 64 = (num64 ws * 4 + tb % 4) * 16
        omega
      · show num64 ws * 64 + tb * 4 % 64 = (num64 ws * 16 + tb % 16) * 4
        omega
  · obtain rfl : tl = 0 := by omega
    rw [if_neg (by decide), List.append_nil]
    refine ⟨ws, rfl, hwl, 0, by omega, by decide, by decide, ?_⟩
    rw [hwn]
    simp [Nat.mod_one]
/-- Bit by bit it is the same. -/
theorem base_bits (l : List UInt8) : (sixes l ((l.length * 4 + 2) / 3)).map sgn = baseB l := by
  obtain ⟨vs, h1, h2, d, h3, h4, h5, h6⟩ := base_sixes l
  have hlen := baseB_len l
  rw [h1, List.length_map] at hlen
  rw [h1]
  congr 1
  refine num64_inj vs.length _ _ (by rw [sixes_len]; exact hlen.symm) rfl (sixes_lt l _) h2 ?_
  rw [sixes_num, h6, ← hlen, h3]
  exact valB_all l d
theorem num256_lt : ∀ (n : Nat) (l : List UInt8), l.length = n → num256 l < 256 ^ n
  | 0, [], _ => by decide
  | n + 1, l, hn => by
    rcases List.eq_nil_or_concat l with rfl | ⟨m, b, rfl⟩
    · cases hn
    · rw [List.concat_eq_append] at hn ⊢
      have h1 := num256_lt n m (by simpa using hn)
      have h2 := b.toNat_lt
      rw [num256_snoc, Nat.pow_succ]
      omega
theorem num256_inj : ∀ (n : Nat) (l m : List UInt8), l.length = n → m.length = n → num256 l = num256 m → l = m
  | 0, [], [], _, _, _ => rfl
  | n + 1, l, m, hn, hm, he => by
    rcases List.eq_nil_or_concat l with rfl | ⟨l, a, rfl⟩
    · cases hn
    rcases List.eq_nil_or_concat m with rfl | ⟨m, b, rfl⟩
    · cases hm
    rw [List.concat_eq_append] at hn he
    rw [List.concat_eq_append] at hm he
    rw [List.concat_eq_append, List.concat_eq_append]
    rw [num256_snoc, num256_snoc] at he
    have h1 := a.toNat_lt
    have h2 := b.toNat_lt
    rw [num256_inj n l m (by simpa using hn) (by simpa using hm) (by omega), show a = b from UInt8.toNat_inj.1 (by omega)]
theorem six_sgn (v : Nat) (h : v < 64) : sixN (sgn v) = some v := by
  have all : ∀ v : Fin 64, sixN (sgn v.val) = some v.val := by decide +kernel
  exact all ⟨v, h⟩
theorem goR_some : ∀ (vs : List Nat) (b l : Nat), (∀ v ∈ vs, v < 64) → ∃ t, goR (vs.map sgn) b l = some t
  | [], b, l, _ => ⟨_, rfl⟩
  | v :: vs, b, l, h => by
    have hv := six_sgn v (h v (List.mem_cons_self ..))
    have hr := fun b' l' => goR_some vs b' l' (fun u hu => h u (List.mem_cons_of_mem _ hu))
    simp only [List.map_cons, goR, hv]
    split
    · obtain ⟨t, ht⟩ := hr (b * 64 % 4294967296 + v) (l - 2)
      rw [ht]
      exact ⟨_, rfl⟩
    · exact hr _ _
/-- What is written is read. -/
theorem read_base (r : List UInt8) : readB (baseB r) = some r := by
  obtain ⟨vs, h1, h2, d, h3, h4, h5, h6⟩ := base_sixes r
  rw [h1]
  obtain ⟨⟨r1, b, l⟩, hg⟩ := goR_some vs 0 0 h2
  obtain ⟨us, hq, hu, hnum, hlen, hl8, hle⟩ := goR_num (vs.map sgn) [] [] 0 0 r1 b l (by decide) (by decide) (by decide) (by decide) (by decide) hg
  have huv : us = vs := by
    have e : (us.map sgn).map sixN = (vs.map sgn).map sixN := by rw [hq]
    have f : ∀ ws : List Nat, (∀ v ∈ ws, v < 64) → (ws.map sgn).map sixN = ws.map some := fun ws h => by
      rw [List.map_map]
      exact List.map_congr_left fun v hv => six_sgn v (h v hv)
    rw [f us hu, f vs h2] at e
    exact (List.map_inj_right (fun a b h => by injection h)).1 e
  subst huv
  simp only [List.nil_append, List.length_nil, Nat.zero_add] at hnum hlen
  have hll : r1.length = r.length ∧ l = d := by omega
  obtain ⟨hr1, rfl⟩ := hll
  rw [h6] at hnum
  have hp : 0 < 2 ^ l := Nat.pow_pos (by decide)
  have hb0 : b % 2 ^ l = 0 := by
    have hlt := Nat.mod_lt b hp
    have e : (num256 r * 2 ^ l) % 2 ^ l = (num256 r1 * 2 ^ l + b % 2 ^ l) % 2 ^ l := by rw [hnum]
    rw [Nat.mul_mod_left, Nat.mul_comm, Nat.mul_add_mod, Nat.mod_mod] at e
    exact e.symm
  rw [hb0, Nat.add_zero] at hnum
  have hrr : r = r1 := num256_inj r.length _ _ rfl hr1 (Nat.eq_of_mul_eq_mul_right hp hnum)
  unfold readB
  rw [hg]
  simp only [finR, Option.bind_some, List.nil_append]
  rw [if_neg (by rintro (h | h) <;> omega), hrr]
end Go.Proofs.YtakmifnageepbaaDoor
namespace Go.Proofs.YtakmifnageepbaaDoor
open Go.RowKit

set_option maxRecDepth 20000 in
set_option maxHeartbeats 1600000 in
theorem sign_any (v : Nat) (hv : v < 64) (w : World) : Calls Tryd.prog 43 #[.int .i64 (v : Int)] w (fun e w' => e = .returned (.int .u8 ((sgn v).toNat : Int)) ∧ w' = w) := by
  have hvs : v < alph.size := hv
  have hsg : (alph[v]'hvs) = sgn v := by
    have h := sgn_at v hvs
    rw [b8_byte] at h
    exact h
  go_enter Tryd.func43, Tryd.ntmps43
  go_wp2
  go_ret
  exact ⟨by rw [← hsg]; rfl, rfl⟩
theorem and_1 (z : Nat) (h : z < 9223372036854775808) : bits .and .i64 (z : Int) 1 = ((z % 2 : Nat) : Int) := by
  show IntKind.i64.wrap ((BitVec.ofInt 64 ((z : Nat) : Int) &&& BitVec.ofInt 64 ((1 : Nat) : Int)).toNat : Int) = _
  rw [BitVec.toNat_and, BitVec.ofInt_natCast, BitVec.ofInt_natCast, BitVec.toNat_ofNat, BitVec.toNat_ofNat, Nat.mod_eq_of_lt (show z < 2 ^ 64 by omega), Nat.mod_eq_of_lt (show 1 < 2 ^ 64 by omega),
    show (1 : Nat) = 2 ^ 1 - 1 from rfl, Nat.and_two_pow_sub_one_eq_mod, IntKind.wrap_i64]
  omega
set_option maxRecDepth 20000 in
set_option maxHeartbeats 3200000 in
theorem rbase_any (A : Option Addr) (l : List UInt8) (n c : Nat) (w : World) (hr : Rd w A l) (hn : l.length = n) (hnc : n ≤ c) (hl : n ≤ 1000000) :
    Calls Tryd.prog 27 #[.slice A n c] w (Ret w (Is (.string ⟨(baseB l).toArray⟩))) := by
  have HR := hide hr
  have HN := hide hn
  have hnI : (n : Int) ≤ 1000000 := by omega
  obtain ⟨K, HK⟩ : ∃ K, Hid ((n * 4 + 2) / 3 = K) := ⟨_, hide rfl⟩
  have HB : Hid ((sixes l K).map sgn = baseB l) := hide (by rw [← HK.out, ← hn]; exact base_bits l)
  clear hr hn
  go_enter Tryd.func27, Tryd.ntmps27
  go_upto_region 3 with fail
  go_loopw [3, 4, 5, 6] (fun ov iv _ _ wr => ∃ i : Nat, i ≤ K ∧ iv = .int .i64 (i : Int) ∧ Hid (Ext w wr) ∧ Hid (Own wr w.heap.size ov ((sixes l i).map sgn))) (fun _ iv _ _ _ => K - (intOf iv).toNat)
  case atStart => exact ⟨0, Nat.zero_le _, rfl, hide (Ext.refl _), hide (Own.nil _ _)⟩
  case round =>
    obtain ⟨i, hi, rfl, HX, HO⟩ := hrel
    by_cases hlt : i < K
    · have hik : (i : Int) * 6 < (n : Int) * 8 := by have := HK.out; omega
      have hiI : (i : Int) ≤ 2000000 := by have := HK.out; omega
      obtain ⟨wr, HWR⟩ := worldOf HX
      subst HWR
      go_upto_region 7 with fail
      go_loopw [5, 6] (fun vv kv w2 => ∃ j u : Nat, j ≤ 6 ∧ vv = .int .i64 (u : Int) ∧ kv = .int .i64 ((i : Int) * 6 + (j : Int)) ∧ Hid (valB l (i * 6) j = u) ∧ w2 = wr) (fun _ kv _ => i * 6 + 6 - (intOf kv).toNat)
      case atStart => exact ⟨0, 0, by decide, rfl, by simp, hide rfl, rfl⟩
      case round =>
        obtain ⟨j, u, hj, rfl, rfl, HU, rfl⟩ := hrel
        have hub : u < 64 := by
          rw [← HU.out]
          exact Nat.lt_of_lt_of_le (valB_lt l (i * 6) j) (show 2 ^ j ≤ 2 ^ 6 from Nat.pow_le_pow_right (by decide) hj)
        have hubI : (u : Int) < 64 := by omega
        by_cases hj6 : j < 6
        · have hjI : (i : Int) * 6 + (j : Int) < (i : Int) * 6 + 6 := by omega
          by_cases hin : i * 6 + j < n * 8
          · have hinI : (i : Int) * 6 + (j : Int) < (n : Int) * 8 := by omega
            obtain ⟨d, HD⟩ : ∃ d, Hid ((i * 6 + j) / 8 = d) := ⟨_, hide rfl⟩
            have hdI : ((i : Int) * 6 + (j : Int)) / 8 = (d : Int) := by have := HD.out; omega
            have hdn : d < n := by have := HD.out; omega
            have hdnI : (d : Int) < (n : Int) := by omega
            obtain ⟨m, HM⟩ : ∃ m, Hid ((i * 6 + j) % 8 = m) := ⟨_, hide rfl⟩
            have hmI : ((i : Int) * 6 + (j : Int)) % 8 = (m : Int) := by have := HM.out; omega
            obtain ⟨e, HE⟩ : ∃ e, Hid (7 - m = e) := ⟨_, hide rfl⟩
            have heI : (7 : Int) - (m : Int) = (e : Int) := by have := HE.out; have := HM.out; omega
            obtain ⟨x, hx⟩ : ∃ x, l[d]? = some x := ⟨_, List.getElem?_eq_getElem (by rw [HN.out]; exact hdn)⟩
            obtain ⟨b, off, hA, hc⟩ := HR.out (by intro h; rw [h] at hx; cases hx)
            subst hA
            have c0 := HX.out.keeps.cell (hc d x hx)
            clear hc
            have hxl := x.toNat_lt
            obtain ⟨z, HZ⟩ : ∃ z, Hid (x.toNat / 2 ^ e = z) := ⟨_, hide rfl⟩
            have hz : z < 256 := by rw [← HZ.out]; exact Nat.lt_of_le_of_lt (Nat.div_le_self _ _) (by omega)
            have hzI : (x.toNat : Int) / 2 ^ e = (z : Int) := by rw [← HZ.out, Int.natCast_ediv, Int.natCast_pow]; rfl
            have hand := and_1 z (by omega)
            have hwz : IntKind.i64.wrap (z : Int) = (z : Int) := by rw [IntKind.wrap_i64]; omega
            have hbit : bitB l (i * 6 + j) = z % 2 := by
              unfold bitB
              rw [HD.out, HM.out, HE.out, List.getD_eq_getElem?_getD, hx]
              show x.toNat / 2 ^ e % 2 = z % 2
              rw [HZ.out]
            have heb : (e : Int) ≤ 7 := by have := HE.out; omega
            go_wp2
            refine ⟨⟨j + 1, u * 2 + z % 2, by omega, by push_cast; rfl, congrArg (Value.int .i64) (by omega), hide ?_, trivial⟩, by simp [intOf]; omega⟩
            show valB l (i * 6) j * 2 + bitB l (i * 6 + j) = _
            rw [HU.out, hbit]
          · have hinI : ¬ (i : Int) * 6 + (j : Int) < (n : Int) * 8 := by omega
            have hbit : bitB l (i * 6 + j) = 0 := bitB_out l _ (by rw [HN.out]; omega)
            go_wp2
            refine ⟨⟨j + 1, u * 2, by omega, by push_cast; rfl, congrArg (Value.int .i64) (by omega), hide ?_, trivial⟩, by simp [intOf]; omega⟩
            show valB l (i * 6) j * 2 + bitB l (i * 6 + j) = _
            rw [HU.out, hbit]
            rfl
        · obtain rfl : j = 6 := by omega
          have hjI : ¬ (i : Int) * 6 + ((6 : Nat) : Int) < (i : Int) * 6 + 6 := by omega
          have KS := hide (fun (W : World) => sign_any u hub W)
          go_wp2_with (first
            | (go_at_call 43; (with_reducible refine (KS.out _).mono ?_); rintro e x ⟨rfl, hx⟩; have hx := hx.symm; subst hx)
            | (at_builtin; refine wpList_push (by rfl) (.tmp 44) (.tmp 47) rfl w.heap.size _ ((sixes l i).map sgn) rfl rfl HO.out (u8z _) (u8i _) HX.out.size (by rw [List.length_map, sixes_len]; omega) ?_; intro v3 w3 ho3 hb3; rw [b8_byte] at ho3; have X3 := hide (HX.out.below (Nat.le_refl _) hb3)))
          refine ⟨⟨i + 1, by omega, by go_num, X3, hide ?_⟩, by simp [intOf]; omega⟩
          have e : sixes l (i + 1) = sixes l i ++ [u] := by
            rw [← HU.out]
            simp [sixes, List.range_succ]
          rw [e, List.map_append]
          exact ho3
    · obtain rfl : i = K := by omega
      have hik : ¬ (i : Int) * 6 < (n : Int) * 8 := by have := HK.out; omega
      have hiI : (i : Int) ≤ 2000000 := by have := HK.out; omega
      go_wp2_with (refine wpList_str (by rfl) (.tmp 49) rfl ((sixes l i).map sgn) HO.out.bytes ?_)
      go_ret
      rw [← HB.out]
      exact Ret.mk HX.out rfl
end Go.Proofs.YtakmifnageepbaaDoor
namespace Go.Proofs.YtakmifnageepbaaDoor
open Go.RowKit

/-- The last sign among the first k that is this one; -1: none is. -/
def fk (c : UInt8) : Nat → Int
  | 0 => -1
  | k + 1 => if sgn k = c then (k : Int) else fk c k
theorem fk_none (c : UInt8) (h : ∀ v, v < 64 → sgn v ≠ c) : ∀ k, k ≤ 64 → fk c k = -1
  | 0, _ => rfl
  | k + 1, hk => by
    unfold fk
    rw [if_neg (h k (by omega)), fk_none c h k (by omega)]
theorem fk_some (c : UInt8) (v : Nat) (hv : v < 64) (h : sgn v = c) : ∀ k, v < k → k ≤ 64 → fk c k = (v : Int)
  | k + 1, hvk, hk => by
    unfold fk
    by_cases e : sgn k = c
    · rw [if_pos e]
      have h1 := six_sgn k (by omega)
      have h2 := six_sgn v hv
      rw [e, ← h, h2] at h1
      injection h1 with h1
      rw [h1]
    · rw [if_neg e]
      have : v ≠ k := fun e2 => e (by rw [← e2]; exact h)
      exact fk_some c v hv h k (by omega) (by omega)
theorem fk_64 (c : UInt8) : fk c 64 = match sixN c with | some v => (v : Int) | none => -1 := by
  cases hs : sixN c with
  | some v =>
    obtain ⟨_, h1, h2⟩ := six_some c v hs
    exact fk_some c v h1 h2 64 h1 (Nat.le_refl _)
  | none =>
    refine fk_none c (fun v hv e => ?_) 64 (Nat.le_refl _)
    have := six_sgn v hv
    rw [e, hs] at this
    cases this
/-- The first j of six bits, the highest first. -/
def bitsOf (v : Nat) (j : Nat) : List UInt8 := (List.range j).map fun i => b8 ((v / 2 ^ (5 - i) % 2 : Nat) : Int)
def bitsAll (vs : List Nat) : List UInt8 := vs.flatMap fun v => bitsOf v 6
/-- The number of so many bits of a list from a place on. -/
def bv (l : List UInt8) (f : Nat) : Nat → Nat
  | 0 => 0
  | j + 1 => bv l f j * 2 + (l.getD (f + j) 0).toNat
theorem bitsOf_len (v j : Nat) : (bitsOf v j).length = j := by simp [bitsOf]
theorem bitsAll_len (vs : List Nat) : (bitsAll vs).length = vs.length * 6 := by
  induction vs with
  | nil => rfl
  | cons v vs ih =>
    have e : bitsAll (v :: vs) = bitsOf v 6 ++ bitsAll vs := rfl
    rw [e, List.length_append, ih, bitsOf_len, List.length_cons]
    omega
theorem b8n (n : Nat) (h : n < 256) : (b8 (n : Int)).toNat = n := by
  have := b8_toNat (n := (n : Int)) (by omega) (by omega)
  omega
theorem bitsAll_bit (vs : List Nat) : ∀ x ∈ bitsAll vs, x.toNat < 2 := fun x hx => by
  simp only [bitsAll, List.mem_flatMap, bitsOf, List.mem_map] at hx
  obtain ⟨v, _, i, _, rfl⟩ := hx
  have h := Nat.mod_lt (v / 2 ^ (5 - i)) (show 2 > 0 by decide)
  rw [b8n _ (by omega)]
  exact h
theorem getD_bit (l : List UInt8) (h : ∀ x ∈ l, x.toNat < 2) (k : Nat) : (l.getD k 0).toNat < 2 := by
  rw [List.getD_eq_getElem?_getD]
  cases hk : l[k]? with
  | none => decide
  | some x => exact h x (List.mem_of_getElem? hk)
theorem bv_lt (l : List UInt8) (h : ∀ x ∈ l, x.toNat < 2) (f : Nat) : ∀ j, bv l f j < 2 ^ j
  | 0 => Nat.one_pos
  | j + 1 => by
    have h1 := bv_lt l h f j
    have h2 := getD_bit l h (f + j)
    show bv l f j * 2 + (l.getD (f + j) 0).toNat < 2 ^ (j + 1)
    rw [Nat.pow_succ]
    omega
theorem bv_add (l : List UInt8) (f a : Nat) : ∀ b, bv l f (a + b) = bv l f a * 2 ^ b + bv l (f + a) b
  | 0 => by simp [bv]
  | b + 1 => by
    show bv l f (a + b) * 2 + (l.getD (f + (a + b)) 0).toNat = bv l f a * 2 ^ (b + 1) + (bv l (f + a) b * 2 + (l.getD (f + a + b) 0).toNat)
    rw [bv_add l f a b, Nat.pow_succ, ← Nat.add_assoc]
    have e : bv l f a * (2 ^ b * 2) = bv l f a * 2 ^ b * 2 := by rw [Nat.mul_assoc]
    rw [e]
    omega
theorem bv_front (a b : List UInt8) (f : Nat) : ∀ j, f + j ≤ a.length → bv (a ++ b) f j = bv a f j
  | 0, _ => rfl
  | j + 1, h => by
    show bv (a ++ b) f j * 2 + ((a ++ b).getD (f + j) 0).toNat = bv a f j * 2 + (a.getD (f + j) 0).toNat
    rw [bv_front a b f j (by omega), List.getD_eq_getElem?_getD, List.getD_eq_getElem?_getD, List.getElem?_append_left (by omega)]
theorem bv_six (a : List UInt8) (v : Nat) (hv : v < 64) : bv (a ++ bitsOf v 6) a.length 6 = v := by
  have hb : ∀ i, i < 6 → ((a ++ bitsOf v 6).getD (a.length + i) 0).toNat = v / 2 ^ (5 - i) % 2 := fun i hi => by
    rw [List.getD_eq_getElem?_getD, List.getElem?_append_right (by omega), Nat.add_sub_cancel_left]
    simp only [bitsOf, List.getElem?_map, List.getElem?_range hi, Option.map_some, Option.getD_some]
    have h := Nat.mod_lt (v / 2 ^ (5 - i)) (show 2 > 0 by decide)
    exact b8n _ (by omega)
  show (((((0 * 2 + ((a ++ bitsOf v 6).getD (a.length + 0) 0).toNat) * 2 + ((a ++ bitsOf v 6).getD (a.length + 1) 0).toNat) * 2 + ((a ++ bitsOf v 6).getD (a.length + 2) 0).toNat) * 2 + ((a ++ bitsOf v 6).getD (a.length + 3) 0).toNat) * 2 + ((a ++ bitsOf v 6).getD (a.length + 4) 0).toNat) * 2 + ((a ++ bitsOf v 6).getD (a.length + 5) 0).toNat = v
  rw [hb 0 (by decide), hb 1 (by decide), hb 2 (by decide), hb 3 (by decide), hb 4 (by decide), hb 5 (by decide)]
  simp only [Nat.sub_zero, Nat.reduceSub, Nat.reducePow]
  omega
theorem bv_all : ∀ (n : Nat) (vs : List Nat), vs.length = n → (∀ v ∈ vs, v < 64) → bv (bitsAll vs) 0 (vs.length * 6) = num64 vs
  | 0, [], _, _ => rfl
  | n + 1, vs, hn, hv => by
    rcases List.eq_nil_or_concat vs with rfl | ⟨ws, v, rfl⟩
    · cases hn
    · rw [List.concat_eq_append] at hn hv ⊢
      have e : bitsAll (ws ++ [v]) = bitsAll ws ++ bitsOf v 6 := by simp [bitsAll]
      have hl := bitsAll_len ws
      rw [e, List.length_append, List.length_singleton, show (ws.length + 1) * 6 = ws.length * 6 + 6 by omega, bv_add, Nat.zero_add, bv_front _ _ _ _ (by omega), bv_all n ws (by simpa using hn) (fun u hu => hv u (List.mem_append_left _ hu)), ← hl, bv_six _ v (hv v (List.mem_append_right _ (List.mem_singleton.2 rfl))), num64_snoc]
/-- The bytes that the document makes of bits. -/
def packB (l : List UInt8) (m : Nat) : List UInt8 := (List.range m).map fun j => b8 ((bv l (j * 8) 8 : Nat) : Int)
theorem packB_len (l : List UInt8) (m : Nat) : (packB l m).length = m := by simp [packB]
theorem packB_num (l : List UInt8) (h : ∀ x ∈ l, x.toNat < 2) : ∀ m, num256 (packB l m) = bv l 0 (m * 8)
  | 0 => rfl
  | m + 1 => by
    have e : packB l (m + 1) = packB l m ++ [b8 ((bv l (m * 8) 8 : Nat) : Int)] := by simp [packB, List.range_succ]
    have hb := bv_lt l h (m * 8) 8
    rw [e, num256_snoc, packB_num l h m, b8n _ (by simpa using hb), show (m + 1) * 8 = m * 8 + 8 by omega, bv_add, Nat.zero_add]
/-- What the document reads of six bits each is what the call reads. -/
theorem pack_read (vs : List Nat) (hv : ∀ v ∈ vs, v < 64) : readB (vs.map sgn) = if baseB (packB (bitsAll vs) (vs.length * 6 / 8)) = vs.map sgn then some (packB (bitsAll vs) (vs.length * 6 / 8)) else none := by
  cases hr : readB (vs.map sgn) with
  | none =>
    rw [if_neg]
    intro e
    have := read_base (packB (bitsAll vs) (vs.length * 6 / 8))
    rw [e, hr] at this
    cases this
  | some r =>
    have hbr := base_read _ r hr
    have hp : packB (bitsAll vs) (vs.length * 6 / 8) = r := by
      obtain ⟨us, h1, h2, d, h3, h4, h5, h6⟩ := base_sixes r
      rw [hbr] at h1
      have huv : vs = us := by
        have e : (vs.map sgn).map sixN = (us.map sgn).map sixN := by rw [h1]
        have f : ∀ ws : List Nat, (∀ v ∈ ws, v < 64) → (ws.map sgn).map sixN = ws.map some := fun ws h => by
          rw [List.map_map]
          exact List.map_congr_left fun v hv => six_sgn v (h v hv)
        rw [f vs hv, f us h2] at e
        exact (List.map_inj_right (fun a b h => by injection h)).1 e
      subst huv
      have hm : vs.length * 6 / 8 = r.length := by omega
      rw [hm]
      refine num256_inj r.length _ _ (packB_len _ _) rfl ?_
      rw [packB_num _ (bitsAll_bit vs)]
      have hall := bv_all vs.length vs rfl hv
      rw [h3, bv_add, h6] at hall
      have hlt := bv_lt _ (bitsAll_bit vs) (0 + r.length * 8) d
      have hp : 0 < 2 ^ d := Nat.pow_pos (by decide)
      have hz : bv (bitsAll vs) (0 + r.length * 8) d = 0 := by
        have e : (bv (bitsAll vs) 0 (r.length * 8) * 2 ^ d + bv (bitsAll vs) (0 + r.length * 8) d) % 2 ^ d = (num256 r * 2 ^ d) % 2 ^ d := by rw [hall]
        rw [Nat.mul_mod_left, Nat.mul_comm, Nat.mul_add_mod, Nat.mod_eq_of_lt hlt] at e
        exact e
      rw [hz, Nat.add_zero] at hall
      exact Nat.eq_of_mul_eq_mul_right hp hall
    rw [hp, if_pos hbr]
theorem read_bad (a b : List UInt8) (c : UInt8) (hc : sixN c = none) : readB (a ++ c :: b) = none := by
  have h : ∀ (a : List UInt8) (x l : Nat), goR (a ++ c :: b) x l = none := by
    intro a
    induction a with
    | nil => intro x l; simp only [List.nil_append, goR, hc]
    | cons d a ih =>
      intro x l
      simp only [List.cons_append, goR]
      cases sixN d with
      | none => rfl
      | some v =>
        simp only
        split
        · rw [ih]; rfl
        · exact ih _ _
  unfold readB
  rw [h]
  rfl
end Go.Proofs.YtakmifnageepbaaDoor
namespace Go.Proofs.YtakmifnageepbaaDoor
open Go.RowKit

theorem and_1b (z : Nat) (h : z < 256) : bits .and .u8 (z : Int) 1 = ((z % 2 : Nat) : Int) := by
  show IntKind.u8.wrap ((BitVec.ofInt 8 ((z : Nat) : Int) &&& BitVec.ofInt 8 ((1 : Nat) : Int)).toNat : Int) = _
  rw [BitVec.toNat_and, BitVec.ofInt_natCast, BitVec.ofInt_natCast, BitVec.toNat_ofNat, BitVec.toNat_ofNat, Nat.mod_eq_of_lt (show z < 2 ^ 8 by omega), Nat.mod_eq_of_lt (show 1 < 2 ^ 8 by omega),
    show (1 : Nat) = 2 ^ 1 - 1 from rfl, Nat.and_two_pow_sub_one_eq_mod, IntKind.wrap_u8]
  omega
set_option maxRecDepth 20000 in
set_option maxHeartbeats 6400000 in
theorem rreadBase_any (s : ByteArray) (w : World) (hs : s.size ≤ 1000000) :
    Calls Tryd.prog 26 #[.string s] w (RdBP w (readB s.data.toList)) := by
  obtain ⟨n, HN⟩ : ∃ n, Hid (s.size = n) := ⟨_, hide rfl⟩
  have hnI : (n : Int) ≤ 1000000 := by have := HN.out; omega
  have hsn : (s.size : Int) = (n : Int) := by rw [HN.out]
  have HSL : Hid (s.data.toList.length = n) := hide (by rw [size_list, HN.out])
  go_enter Tryd.func26, Tryd.ntmps26
  go_upto_region 3 with fail
  go_loopw [4, 5, 6, 7, 8] (fun ov iv _ _ _ wr => ∃ (i : Nat) (vs : List Nat), i ≤ n ∧ iv = .int .i64 (i : Int) ∧ vs.length = i ∧ Hid (s.data.toList.take i = vs.map sgn) ∧ Hid (∀ v ∈ vs, v < 64) ∧ Hid (Ext w wr) ∧ Hid (Own wr w.heap.size ov (bitsAll vs))) (fun _ iv _ _ _ _ => n - (intOf iv).toNat)
  case atStart => exact ⟨0, [], Nat.zero_le _, rfl, rfl, hide rfl, hide (fun v hv => by cases hv), hide (Ext.refl _), hide (Own.nil _ _)⟩
  case round =>
    obtain ⟨i, vs, hi, rfl, hvl, HTK, HVS, HX, HO⟩ := hrel
    by_cases hlt : i < n
    · have hii : (i : Int) < (n : Int) := by omega
      have hiI : (i : Int) ≤ 1000000 := by omega
      have his : i < s.size := by rw [HN.out]; exact hlt
      obtain ⟨c, HC⟩ : ∃ c, Hid (s[i] = c) := ⟨_, hide rfl⟩
      have hci : ((s[i]).toNat : Int) = (c.toNat : Int) := by rw [HC.out]
      have hcn : (s[i]).toNat = c.toNat := by rw [HC.out]
      have hcl := c.toNat_lt
      have HDR : Hid (s.data.toList = s.data.toList.take i ++ c :: s.data.toList.drop (i + 1)) := hide (by
        have hlt' : i < s.data.toList.length := by rw [size_list]; exact his
        have e : s.data.toList.drop i = c :: s.data.toList.drop (i + 1) := by
          rw [List.drop_eq_getElem_cons hlt', ← HC.out]
          rfl
        rw [← e, List.take_append_drop])
      obtain ⟨wr, HWR⟩ := worldOf HX
      subst HWR
      go_upto_region 7 with fail
      go_loopw [6, 7] (fun vv kv w2 => ∃ (k : Nat) (z : Int), k ≤ 64 ∧ kv = .int .i64 (k : Int) ∧ vv = .int .i64 z ∧ Hid (fk c k = z) ∧ Hid (Ext wr w2)) (fun _ kv _ => 64 - (intOf kv).toNat)
      case atStart => exact ⟨0, -1, by decide, rfl, rfl, hide rfl, hide (Ext.refl _)⟩
      case round =>
        obtain ⟨k, z, hk, rfl, rfl, HF, HX2⟩ := hrel
        obtain ⟨w2, HW2⟩ := worldOf HX2
        subst HW2
        by_cases hk64 : k < 64
        · have hkI : (k : Int) < 64 := by omega
          obtain ⟨g, HG⟩ : ∃ g, Hid ((sgn k).toNat = g) := ⟨_, hide rfl⟩
          have KS := hide (fun (W : World) => sign_any k hk64 W)
          rw [HG.out] at KS
          by_cases he : g = c.toNat
          · have heb : ((g : Int) == (c.toNat : Int)) = true := by simp [he]
            have hsg : sgn k = c := UInt8.toNat_inj.1 (by rw [HG.out, he])
            go_upto_region 9 with fail
            go_region_law (go_simp; go_at_call 43; (with_reducible refine (KS.out _).mono ?_); rintro e x ⟨rfl, rfl⟩)
            all_goals
              go_wp2
              exact ⟨⟨k + 1, (k : Int), by omega, by go_num, rfl, hide (by unfold fk; rw [if_pos hsg]), hide (HX2.out.trans (Ext.drew _))⟩, by simp [intOf]; omega⟩
          · have heb : ((g : Int) == (c.toNat : Int)) = false := by simp; omega
            have hsg : ¬ sgn k = c := fun e => he (by rw [← HG.out, e])
            go_upto_region 9 with fail
            go_region_law (go_simp; go_at_call 43; (with_reducible refine (KS.out _).mono ?_); rintro e x ⟨rfl, rfl⟩)
            all_goals
              go_wp2
              exact ⟨⟨k + 1, z, by omega, by go_num, rfl, hide (by unfold fk; rw [if_neg hsg]; exact HF.out), hide (HX2.out.trans (Ext.drew _))⟩, by simp [intOf]; omega⟩
        · obtain rfl : k = 64 := by omega
          have X2 := hide (HX.out.trans HX2.out)
          have O2 := hide (HO.out.ext HX2.out)
          have h64 := fk_64 c
          rw [HF.out] at h64
          cases hsx : sixN c with
          | none =>
            rw [hsx] at h64
            replace h64 : z = -1 := h64
            subst h64
            clear hcn hci
            have HE : Hid (readB s.data.toList = none) := hide (by rw [HDR.out]; exact read_bad _ _ _ hsx)
            go_wp2
            go_ret2
            rw [HE.out]
            exact ⟨X2.out, rfl⟩
          | some v =>
            rw [hsx] at h64
            replace h64 : z = (v : Int) := h64
            subst h64
            clear hcn hci
            obtain ⟨_, hv64, hsg⟩ := six_some c v hsx
            have hv0 : ¬ (v : Int) < 0 := by omega
            obtain ⟨wb, HWB⟩ := worldOf X2
            subst HWB
            go_upto_region 14 with fail
            go_loopw [4, 8] (fun ov kv w3 => ∃ j : Nat, j ≤ 6 ∧ kv = .int .i64 (5 - (j : Int)) ∧ Hid (Ext w w3) ∧ Hid (Own w3 w.heap.size ov (bitsAll vs ++ bitsOf v j))) (fun _ kv _ => (intOf kv + 1).toNat)
            case atStart => exact ⟨0, by decide, rfl, X2, hide (by rw [show bitsOf v 0 = [] from rfl, List.append_nil]; exact O2.out)⟩
            case round =>
              obtain ⟨j, hj, rfl, HX3, HO3⟩ := hrel
              by_cases hj6 : j < 6
              · obtain ⟨e, HE⟩ : ∃ e, Hid (5 - j = e) := ⟨_, hide rfl⟩
                have heI : (5 : Int) - (j : Int) = (e : Int) := by have := HE.out; omega
                have he5 : (e : Int) ≤ 5 := by have := HE.out; omega
                have he0 : (0 : Int) ≤ (e : Int) := by omega
                obtain ⟨z, HZ⟩ : ∃ z, Hid (v / 2 ^ e = z) := ⟨_, hide rfl⟩
                have hz : z < 64 := by rw [← HZ.out]; exact Nat.lt_of_le_of_lt (Nat.div_le_self _ _) hv64
                have hzI : (v : Int) / 2 ^ e = (z : Int) := by rw [← HZ.out, Int.natCast_ediv, Int.natCast_pow]; rfl
                have hwz : IntKind.u8.wrap (z : Int) = (z : Int) := by rw [IntKind.wrap_u8]; omega
                have hand := and_1b z (by omega)
                obtain ⟨y, HY⟩ : ∃ y, Hid (z % 2 = y) := ⟨_, hide rfl⟩
                have hy : y < 2 := by rw [← HY.out]; exact Nat.mod_lt _ (by decide)
                rw [HY.out] at hand
                have hbl := bitsAll_len vs
                rw [heI]
                go_wp2_with (at_builtin; refine wpList_push (by rfl) (.tmp 36) (.tmp 42) rfl w.heap.size _ _ rfl rfl HO3.out (by omega) (by omega) HX3.out.size (by rw [List.length_append, hbl, bitsOf_len]; omega) ?_; intro v3 w3 ho3 hb3; have X3 := hide (HX3.out.below (Nat.le_refl _) hb3))
                refine ⟨⟨j + 1, by omega, congrArg (Value.int .i64) (by omega), X3, hide ?_⟩, by first | (simp [intOf]; done) | (simp [intOf]; omega)⟩
                have e2 : bitsOf v (j + 1) = bitsOf v j ++ [b8 (y : Int)] := by
                  have e3 : bitsOf v (j + 1) = bitsOf v j ++ [b8 ((v / 2 ^ (5 - j) % 2 : Nat) : Int)] := by simp [bitsOf, List.range_succ]
                  rw [e3, HE.out, HZ.out, HY.out]
                rw [e2, ← List.append_assoc]
                exact ho3
              · obtain rfl : j = 6 := by omega
                have h56 : (5 : Int) - ((6 : Nat) : Int) = -1 := rfl
                rw [h56]
                go_wp2
                refine ⟨⟨i + 1, vs ++ [v], by omega, by go_num, by simp [hvl], hide ?_, hide ?_, HX3, hide ?_⟩, by simp [intOf]; omega⟩
                · rw [List.take_add_one, HTK.out, List.map_append]
                  have hlt' : i < s.data.toList.length := by rw [size_list]; exact his
                  rw [List.getElem?_eq_getElem hlt']
                  have e : s.data.toList[i]'hlt' = c := by rw [← HC.out]; rfl
                  rw [e, ← hsg]
                  rfl
                · intro u hu
                  rcases List.mem_append.1 hu with hu | hu
                  · exact HVS.out u hu
                  · rw [List.mem_singleton.1 hu]; exact hv64
                · have e : bitsAll (vs ++ [v]) = bitsAll vs ++ bitsOf v 6 := by simp [bitsAll]
                  rw [e]
                  exact HO3.out
    · obtain rfl : i = n := by omega
      have hii : ¬ (i : Int) < (i : Int) := by omega
      have HS : Hid (s.data.toList = vs.map sgn) := hide (by have h := HTK.out; rw [List.take_of_length_le (by rw [HSL.out]; exact Nat.le_refl _)] at h; exact h)
      obtain ⟨nb, HNB⟩ : ∃ nb, Hid (vs.length * 6 = nb) := ⟨_, hide rfl⟩
      obtain ⟨BL, HBL⟩ : ∃ BL, Hid (bitsAll vs = BL) := ⟨_, hide rfl⟩
      have HLB : Hid (BL.length = nb) := hide (by rw [← HBL.out, bitsAll_len, HNB.out])
      have HBT : Hid (∀ x ∈ BL, x.toNat < 2) := hide (by rw [← HBL.out]; exact bitsAll_bit vs)
      have HRD := hide (pack_read vs HVS.out)
      rw [← HS.out, HBL.out, HNB.out] at HRD
      have hnbI : (nb : Int) ≤ 6000000 := by have := HNB.out; omega
      rw [HBL.out] at HO
      obtain ⟨AB, cB, hvB, hcB, hrB⟩ := HO.out.bytes
      rw [HLB.out] at hvB hcB
      subst hvB
      have RB := hide hrB
      clear hrB HO
      obtain ⟨M, HM⟩ : ∃ M, Hid (nb / 8 = M) := ⟨_, hide rfl⟩
      obtain ⟨wq, HWR⟩ := worldOf HX
      subst HWR
      go_upto_region 19 with fail
      go_loopw [9, 10, 11, 12] (fun pv iv _ _ w4 => ∃ m : Nat, m ≤ M ∧ iv = .int .i64 ((m : Int) * 8) ∧ Hid (Ext wq w4) ∧ Hid (Own w4 wq.heap.size pv (packB BL m))) (fun _ iv _ _ _ => M * 8 - (intOf iv).toNat)
      case atStart => exact ⟨0, Nat.zero_le _, rfl, hide (Ext.refl _), hide (Own.nil _ _)⟩
      case round =>
        obtain ⟨m, hm, rfl, HX4, HO4⟩ := hrel
        have hmI : (m : Int) ≤ 1000000 := by have := HM.out; omega
        by_cases hmM : m < M
        · have hm8 : (m : Int) * 8 + 8 ≤ (nb : Int) := by have := HM.out; omega
          obtain ⟨w4, HW4⟩ := worldOf HX4
          subst HW4
          go_upto_region 23 with fail
          go_loopw [11, 12] (fun bb kv w5 => ∃ k u : Nat, k ≤ 8 ∧ bb = .int .u8 (u : Int) ∧ kv = .int .i64 (k : Int) ∧ Hid (bv BL (m * 8) k = u) ∧ w5 = w4) (fun _ kv _ => 8 - (intOf kv).toNat)
          case atStart => exact ⟨0, 0, by decide, rfl, rfl, hide rfl, rfl⟩
          case round =>
            obtain ⟨k, u, hk, rfl, rfl, HU, rfl⟩ := hrel
            by_cases hk8 : k < 8
            · have hkI : (k : Int) < 8 := by omega
              have hu : u < 128 := by
                rw [← HU.out]
                exact Nat.lt_of_lt_of_le (bv_lt BL HBT.out (m * 8) k) (show 2 ^ k ≤ 2 ^ 7 from Nat.pow_le_pow_right (by decide) (by omega))
              obtain ⟨d, HD⟩ : ∃ d, Hid (m * 8 + k = d) := ⟨_, hide rfl⟩
              have hdI : (m : Int) * 8 + (k : Int) = (d : Int) := by have := HD.out; omega
              have hdn : d < nb := by have := HD.out; omega
              have hdnI : (d : Int) < (nb : Int) := by omega
              obtain ⟨x, hx⟩ : ∃ x, BL[d]? = some x := ⟨_, List.getElem?_eq_getElem (by rw [HLB.out]; exact hdn)⟩
              have hx2 := HBT.out x (List.mem_of_getElem? hx)
              obtain ⟨b, off, hA, hc⟩ := RB.out (by intro h; rw [h] at hx; cases hx)
              subst hA
              have c0 := HX4.out.keeps.cell (hc d x hx)
              clear hc
              have hw1 : IntKind.u8.wrap ((u : Int) * 2) = (u : Int) * 2 := by rw [IntKind.wrap_u8]; omega
              have hw2 : IntKind.u8.wrap ((u : Int) * 2 + (x.toNat : Int)) = (u : Int) * 2 + (x.toNat : Int) := by rw [IntKind.wrap_u8]; omega
              have hm1 : ((u : Int) * 2) % 256 = (u : Int) * 2 := by omega
              have hm2 : ((u : Int) * 2 + (x.toNat : Int)) % 256 = (u : Int) * 2 + (x.toNat : Int) := by omega
              go_wp2
              refine ⟨⟨k + 1, u * 2 + x.toNat, by omega, by push_cast; rfl, by go_num, hide ?_, trivial⟩, by simp [intOf]; omega⟩
              show bv BL (m * 8) k * 2 + (BL.getD (m * 8 + k) 0).toNat = _
              rw [HU.out, HD.out, List.getD_eq_getElem?_getD, hx]
              rfl
            · obtain rfl : k = 8 := by omega
              have hu : u < 256 := by
                rw [← HU.out]
                exact bv_lt BL HBT.out (m * 8) 8
              go_wp2_with (at_builtin; (refine wpList_push (by rfl) (.tmp 64) (.tmp 66) rfl wq.heap.size _ (packB BL m) rfl rfl HO4.out (by omega) (by omega) HX4.out.size (by rw [packB_len]; omega) ?_); intro v3 w3 ho3 hb3; have X3 := hide (HX4.out.below (Nat.le_refl _) hb3))
              refine ⟨⟨m + 1, by omega, congrArg (Value.int .i64) (by omega), X3, hide ?_⟩, by simp [intOf]; omega⟩
              have e : packB BL (m + 1) = packB BL m ++ [b8 (u : Int)] := by
                rw [← HU.out]
                simp [packB, List.range_succ]
              rw [e]
              exact ho3
        · obtain rfl : m = M := by omega
          have hm8 : ¬ (m : Int) * 8 + 8 ≤ (nb : Int) := by have := HM.out; omega
          obtain ⟨P, HP⟩ : ∃ P, Hid (packB BL m = P) := ⟨_, hide rfl⟩
          have HPL : Hid (P.length = m) := hide (by rw [← HP.out, packB_len])
          rw [HP.out] at HO4
          rw [HM.out, HP.out] at HRD
          obtain ⟨AP, cP, hvP, hcP, hrP⟩ := HO4.out.bytes
          rw [HPL.out] at hvP hcP
          subst hvP
          obtain ⟨w4, HW4⟩ := worldOf HX4
          subst HW4
          have KB := hide (rbase_any AP P m cP w4 hrP HPL.out hcP (by omega))
          obtain ⟨tb, HTB⟩ : ∃ tb : ByteArray, Hid (⟨(baseB P).toArray⟩ = tb) := ⟨_, hide rfl⟩
          have HTL : Hid (tb.toList = baseB P) := hide (by rw [ByteArray.toList_eq, ← HTB.out])
          rw [HTB.out] at KB
          by_cases he : baseB P = s.data.toList
          · have hbq : (tb.toList == s.toList) = true := by rw [HTL.out, ByteArray.toList_eq, he]; exact beq_self_eq_true _
            have HE : Hid (readB s.data.toList = some P) := hide (by rw [HRD.out, if_pos he])
            go_wp2_with (go_at_call 27; (with_reducible refine KB.out.mono ?_); rintro e w6 ⟨v6, rfl, hx6, rfl⟩; have X6 := hide ((HX.out.trans HX4.out).trans hx6))
            go_ret2
            rw [HE.out]
            exact ⟨X6.out, .slice AP m cP, rfl, ⟨AP, cP, by rw [HPL.out], by rw [HPL.out]; exact hcP, hrP.ext hx6⟩⟩
          · have hbq : (tb.toList == s.toList) = false := by rw [HTL.out, ByteArray.toList_eq]; exact beq_eq_false_iff_ne.2 he
            have HE : Hid (readB s.data.toList = none) := hide (by rw [HRD.out, if_neg he])
            go_wp2_with (go_at_call 27; (with_reducible refine KB.out.mono ?_); rintro e w6 ⟨v6, rfl, hx6, rfl⟩; have X6 := hide ((HX.out.trans HX4.out).trans hx6))
            go_ret2
            rw [HE.out]
            exact ⟨X6.out, rfl⟩
end Go.Proofs.YtakmifnageepbaaDoor
namespace Go.Proofs.YtakmifnageepbaaDoor
open Go.RowKit

def RetB (w : World) (b : Bool) (e : Ending) (w' : World) : Prop := e = .returned (.bool b) ∧ Ext w w'
def aS : ByteArray := ⟨#[97]⟩
def litL : List Vl := [(1, 1, noS), (2, 0, aS), (0, 0, noS)]
theorem litL_enc : encT litL = (0, some [3, 1, 128, 0, 0, 0, 0, 0, 0, 1, 2, 1, 97, 0]) := by
  have h : okT aS = true := by kernel_rfl
  have h2 : litL.all vOk = true := by
    have e : vOk (2, 0, aS) = true := by
      unfold vOk
      simp only [if_neg (show ¬ (2 : Int) = 0 by decide), if_neg (show ¬ (2 : Int) = 1 by decide), if_pos, h]
      decide
    simp only [litL, List.all_cons, e]
    decide
  unfold encT
  rw [if_neg (by decide), if_pos h2]
  rfl
theorem litL_in : ∀ x ∈ litL, VlIn x := by
  intro x hx
  simp only [litL, List.mem_cons, List.not_mem_nil, or_false] at hx
  rcases hx with rfl | rfl | rfl <;> exact ⟨by decide, by decide, by decide⟩
theorem lit_rd (w : World) : RdV (w.alloc (.cells #[.int .u8 1, .int .i64 1, .string noS, .int .u8 2, .int .i64 0, .string aS, .int .u8 0, .int .i64 0, .string noS] 26)) (some ⟨w.heap.size, 0, none⟩) litL := fun _ => by
  have R := Rw.new w 26 [.int .u8 1, .int .i64 1, .string noS, .int .u8 2, .int .i64 0, .string aS, .int .u8 0, .int .i64 0, .string noS]
  refine ⟨_, _, rfl, fun j x hj => ?_⟩
  match j, hj with
  | 0, hj => injection hj with hj; subst hj; exact ⟨R.cell (i := 0) rfl, R.cell (i := 1) rfl, R.cell (i := 2) rfl⟩
  | 1, hj => injection hj with hj; subst hj; exact ⟨R.cell (i := 3) rfl, R.cell (i := 4) rfl, R.cell (i := 5) rfl⟩
  | 2, hj => injection hj with hj; subst hj; exact ⟨R.cell (i := 6) rfl, R.cell (i := 7) rfl, R.cell (i := 8) rfl⟩
  | j + 3, hj => cases hj
set_option maxRecDepth 20000 in
set_option maxHeartbeats 3200000 in
theorem awake_any (w : World) (ht : Tabs w) : Calls Tryd.prog 11 #[] w (RetB w true) := by
  have KE := hide (encode_any (some ⟨w.heap.size, 0, none⟩) litL 3 3 (w.alloc (.cells #[.int .u8 1, .int .i64 1, .string noS, .int .u8 2, .int .i64 0, .string aS, .int .u8 0, .int .i64 0, .string noS] 26)) (lit_rd w) rfl (by decide) (by decide) litL_in (ht.ext (Ext.alloc _ _)))
  rw [litL_enc] at KE
  have KB := hide (fun (W : World) => base_any (some ⟨W.heap.size, 0, none⟩) [255] 1 1 (W.alloc (.cells #[.int .u8 255] 5)) (Rd.byte W 5 255) rfl (by decide) (by decide))
  have hb : baseB [255] = [95, 119] := by kernel_rfl
  rw [hb] at KB
  clear ht
  unfold noS aS at KE
  go_enter Tryd.func11, Tryd.ntmps11
  go_upto_region 2 with (go_at_call 14; (with_reducible refine KE.out.mono ?_); rintro e w1 ⟨hx1, v1, rfl, ho1⟩; have X1 := hide ((Ext.alloc _ _).trans hx1); have B1 := hide ho1.bytes; clear ho1 hx1)
  go_wp2_with (first
    | (refine wpList_str (by rfl) (.tmp 14) rfl [3, 1, 128, 0, 0, 0, 0, 0, 0, 1, 2, 1, 97, 0] B1.out ?_)
    | (go_at_call 24; (with_reducible refine (KB.out _).mono ?_); rintro e w2 ⟨v2, rfl, hx2, rfl⟩; have X2 := hide (X1.out.trans ((Ext.alloc _ _).trans hx2)); clear hx2))
  go_ret
  exact ⟨rfl, X2.out⟩
end Go.Proofs.YtakmifnageepbaaDoor
namespace Go.Proofs.YtakmifnageepbaaDoor
open Go.RowKit

def RdF (w : World) (lo : List UInt8) (cd : Int) (e : Ending) (w' : World) : Prop := Ext w w' ∧ ∃ v, e = .returned (.tuple #[v, .int .i64 cd]) ∧ Bytes lo w' v
theorem rdF_of {w w' : World} {o : Option (List UInt8)} {e : Ending} (h : RdBP w o e w') : RdF w (o.getD []) (if o.isSome = true then 0 else 3) e w' := by
  obtain ⟨hx, h⟩ := h
  cases o with
  | none => exact ⟨hx, .slice none 0 0, h, ⟨none, 0, rfl, Nat.le_refl _, fun hn => absurd rfl hn⟩⟩
  | some l => obtain ⟨v, he, hb⟩ := h; exact ⟨hx, v, he, hb⟩
set_option maxRecDepth 20000 in
set_option maxHeartbeats 3200000 in
theorem bases_big (A : Option Addr) (n c : Nat) (s : ByteArray) (w : World) (hbig : 5000 < n + s.size) (hl : n ≤ 140737488351232) (hsz : s.size ≤ 140737488351232) (hT : Tabs w) :
    Calls Tryd.prog 8 #[.slice A n c, .string s] w (RetB w true) := by
  have KA := hide (fun (W : World) (hW : Ext w W) => awake_any W (hT.ext hW))
  have hi : (5000 : Int) < (n : Int) + (s.size : Int) := by omega
  go_enter Tryd.func8, Tryd.ntmps8
  go_upto_region 2 with (go_at_call 11; (with_reducible refine (KA.out _ (Ext.refl _)).mono ?_); rintro e w3 ⟨rfl, hx3⟩; have X3 := hide hx3)
  go_wp2_with (go_at_call 11; (with_reducible refine (KA.out _ X3.out).mono ?_); rintro e w4 ⟨rfl, hx4⟩; have X4 := hide (X3.out.trans hx4))
  go_ret
  exact ⟨rfl, X4.out⟩
set_option maxRecDepth 20000 in
set_option maxHeartbeats 3200000 in
theorem bases_main (A : Option Addr) (l : List UInt8) (n c : Nat) (s : ByteArray) (w : World) (hr : Rd w A l) (hn : l.length = n) (hnc : n ≤ c) (hs : n + s.size ≤ 5000) (hT : Tabs w) :
    Calls Tryd.prog 8 #[.slice A n c, .string s] w (RetB w true) := by
  have KA := hide (fun (W : World) (hW : Ext w W) => awake_any W (hT.ext hW))
  have hi : ¬ (5000 : Int) < (n : Int) + (s.size : Int) := by omega
  have hnI : (n : Int) ≤ 5000 := by omega
  have hsI : (s.size : Int) ≤ 5000 := by omega
  obtain ⟨tb, HTB⟩ : ∃ tb : ByteArray, Hid (⟨(baseB l).toArray⟩ = tb) := ⟨_, hide rfl⟩
  have HTL : Hid (tb.data.toList = baseB l) := hide (by rw [← HTB.out])
  have htz : tb.size ≤ 10000 := by rw [← size_list, HTL.out, baseB_len]; omega
  have KB := hide (fun (W : World) (hW : Ext w W) => base_any A l n c W (hr.ext hW) hn hnc (by omega))
  have KRB := hide (fun (W : World) (hW : Ext w W) => rbase_any A l n c W (hr.ext hW) hn hnc (by omega))
  have KQ := hide (fun (W : World) => (readBase_any tb W (by omega)).mono fun _ _ h => rdF_of h)
  rw [HTB.out] at KB KRB
  rw [HTL.out, read_base] at KQ
  have KS := hide (fun (W : World) => (readBase_any s W (by omega)).mono fun _ _ h => rdF_of h)
  have KT := hide (fun (W : World) => (rreadBase_any s W (by omega)).mono fun _ _ h => rdF_of h)
  obtain ⟨lo, HLO⟩ : ∃ lo, Hid ((readB s.data.toList).getD [] = lo) := ⟨_, hide rfl⟩
  obtain ⟨cd, HCD⟩ : ∃ cd : Int, Hid ((if (readB s.data.toList).isSome = true then (0 : Int) else 3) = cd) := ⟨_, hide rfl⟩
  rw [HLO.out, HCD.out] at KS KT
  have BP := hide (show Bytes l w (.slice A n c) from ⟨A, c, by rw [hn], by rw [hn]; exact hnc, hr⟩)
  clear hr hn hT
  go_enter Tryd.func8, Tryd.ntmps8
  go_upto_region 3 with (go_at_call 11; (with_reducible refine (KA.out _ (Ext.refl _)).mono ?_); rintro e w3 ⟨rfl, hx3⟩; have X3 := hide hx3)
  go_upto_region 4 with (go_at_call 24; (with_reducible refine (KB.out _ X3.out).mono ?_); rintro e w4 ⟨v4, rfl, hx4, rfl⟩; have X4 := hide (X3.out.trans hx4))
  go_upto_region 5 with (go_at_call 25; (with_reducible refine (KQ.out _).mono ?_); rintro e w5 ⟨hx5, v5, rfl, hb5⟩; have X5 := hide (X4.out.trans hx5); have B5 := hide hb5)
  go_upto_region 6 with (go_at_call 25; (with_reducible refine (KS.out _).mono ?_); rintro e w6 ⟨hx6, v6, rfl, hb6⟩; have X6 := hide (X5.out.trans hx6); have B6 := hide hb6; have B5b := hide (B5.out.ext hx6))
  go_upto_region 7 with (go_at_call 26; (with_reducible refine (KT.out _).mono ?_); rintro e w7 ⟨hx7, v7, rfl, hb7⟩; have X7 := hide (X6.out.trans hx7); have B7 := hide hb7; have B5c := hide (B5b.out.ext hx7); have B6b := hide (B6.out.ext hx7))
  go_wp2_with (first
    | (go_at_call 27; (with_reducible refine (KRB.out _ X7.out).mono ?_); rintro e w8 ⟨v8, rfl, hx8, rfl⟩; have X8 := hide (X7.out.trans hx8); have C5 := hide (B5c.out.ext hx8); have C6 := hide (B6b.out.ext hx8); have C7 := hide (B7.out.ext hx8); have CP := hide (BP.out.ext X8.out))
    | (refine wpList_str (by rfl) (.tmp 49) rfl l C5.out ?_)
    | (refine wpList_str (by rfl) (.tmp 51) rfl l CP.out ?_)
    | (refine wpList_str (by rfl) (.tmp 56) rfl lo C6.out ?_)
    | (refine wpList_str (by rfl) (.tmp 58) rfl lo C7.out ?_))
  go_ret
  exact ⟨rfl, X8.out⟩
theorem codecBases_walk (A : Option Addr) (l : List UInt8) (c : Nat) (s : ByteArray) (w : World) (hr : Rd w A l) (hlc : l.length ≤ c) (hl : l.length ≤ 140737488351232) (hsz : s.size ≤ 140737488351232) (hT : Tabs w) :
    Calls Tryd.prog 8 #[.slice A l.length c, .string s] w (RetB w true) := by
  by_cases hbig : 5000 < l.length + s.size
  · exact bases_big A l.length c s w hbig hl hsz hT
  · exact bases_main A l l.length c s w hr rfl hlc (by omega) hT
end Go.Proofs.YtakmifnageepbaaDoor
