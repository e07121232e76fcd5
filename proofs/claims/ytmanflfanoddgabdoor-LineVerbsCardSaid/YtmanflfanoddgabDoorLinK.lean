/-
  Lines: contracts of the program's small functions: a character at a place, marked bytes, blanks.
-/
import Derived.Test.YtmanflfanoddgabDoorChr
import Derived.Test.YtmanflfanoddgabDoorLinP
namespace Go.Proofs.YtmanflfanoddgabDoor
open Go.RowKit

/-- What stands from a place on. -/
def fr (s : ByteArray) (p : Nat) : List UInt8 := s.data.toList.drop p
theorem fr_ne {s : ByteArray} {p : Nat} (h : p < s.size) : fr s p ≠ [] := drop_ne s p h
theorem fr_len (s : ByteArray) (p : Nat) : (fr s p).length = s.size - p := by unfold fr; rw [List.length_drop, size_len]
theorem fr_end {s : ByteArray} {p : Nat} (h : s.size ≤ p) : fr s p = [] := List.drop_of_length_le (by rw [size_len]; exact h)
theorem fr_drop (s : ByteArray) (p n : Nat) : (fr s p).drop n = fr s (p + n) := by unfold fr; rw [List.drop_drop]
/-- The byte at a place. -/
def at8 (s : ByteArray) (p : Nat) : UInt8 := (fr s p).headD 0
theorem fr_cons {s : ByteArray} {p : Nat} (h : p < s.size) : fr s p = at8 s p :: fr s (p + 1) := by
  have hne := fr_ne h
  rw [← fr_drop s p 1]
  unfold at8
  cases hf : fr s p with
  | nil => exact absurd hf hne
  | cons b t => rfl
/-- How many bytes the character at the beginning has; 0: it may not stand. -/
def chN (l : List UInt8) : Nat := if okP (Lib.decodeL l).1 (Lib.decodeL l).2 then (Lib.decodeL l).2 else 0
theorem extract_fr (s : ByteArray) (p : Nat) : (s.extract p s.size).data.toList = fr s p := by
  rw [Lib.extract_data, List.take_of_length_le (by rw [List.length_drop, size_len]; exact Nat.le_refl _)]
  rfl
theorem decodeGo_fr (s : ByteArray) (p : Nat) (h : p < s.size) : Lib.decodeGo (s.extract p s.size) = Lib.decodeL (fr s p) := by
  rw [decode_sub s p h]
  exact (Lib.decodeL_drop s p).symm

set_option maxRecDepth 20000 in
set_option maxHeartbeats 1000000 in
theorem charAt_any (s : ByteArray) (p : Nat) (w : World) (h : p < s.size) (hs : s.size ≤ 140737488355328) (hT : Tabs w) :
    Calls Tryd.prog 41 #[.string s, .int .i64 (p : Int)] w (Ret w (Is (.int .i64 (chN (fr s p) : Int)))) := by
  obtain ⟨r, n, hd⟩ : ∃ r n, Lib.decodeL (fr s p) = (r, n) := ⟨_, _, rfl⟩
  have hw := Lib.decodeL_width (fr s p)
  rw [hd] at hw
  simp only at hw
  obtain ⟨z, HZ⟩ : ∃ z : Nat, Hid (chN (fr s p) = z) := ⟨_, rfl⟩
  rw [HZ.out]
  have HZ2 : Hid (z = if okP r n then n else 0) := by rw [← HZ.out]; unfold chN; rw [hd]; exact hide rfl
  have KD := hide (show Calls Tryd.prog 52 #[.string (s.extract p s.size)] w fun e w' => e = .returned (.tuple #[.int .i32 (r : Int), .int .i64 (n : Int)]) ∧ Ext w w' from (by
    have k := decode_any (s.extract p s.size) w hT
    rw [decodeGo_fr s p h, hd] at k
    exact k))
  have hps : (p : Int) ≤ (s.size : Int) := by omega
  clear hd
  go_enter Tryd.func41, Tryd.ntmps41
  go_wp2_with (go_at_call 52; refine KD.out.mono ?_; rintro e w1 ⟨rfl, hx1⟩)
  all_goals
    have hz := HZ2.out
    go_ret
    refine Ret.mk hx1 ?_
    show Value.int .i64 _ = Value.int .i64 _
    congr 1
    unfold okP at hz
    (try simp only [beq_iff_eq, beq_eq_false_iff_ne, ne_eq] at *)
    subst hz
    split
    all_goals (rename_i hh; simp at hh; omega)

set_option maxRecDepth 20000 in
theorem isMarked_any (b : UInt8) (w : World) :
    Calls Tryd.prog 43 #[.int .u8 (b.toNat : Int)] w fun e w' => e = .returned (.bool (marked b)) ∧ w = w' := by
  have h1 : (b == 34) = ((b.toNat : Int) == 34) := by rw [Bool.eq_iff_iff, beq_iff_eq, beq_iff_eq]; exact ⟨fun h => by subst h; rfl, fun h => UInt8.toNat_inj.1 (by show b.toNat = 34; omega)⟩
  have h2 : (b == 92) = ((b.toNat : Int) == 92) := by rw [Bool.eq_iff_iff, beq_iff_eq, beq_iff_eq]; exact ⟨fun h => by subst h; rfl, fun h => UInt8.toNat_inj.1 (by show b.toNat = 92; omega)⟩
  have HM : Hid (marked b = (((b.toNat : Int) == 34) || ((b.toNat : Int) == 92))) := by unfold marked; rw [h1, h2]; exact hide rfl
  rw [HM.out]
  clear h1 h2
  go_enter Tryd.func43, Tryd.ntmps43
  go_wp2
  all_goals
    go_ret
    refine ⟨ret_val (congrArg Value.bool ?_), rfl⟩
    first
      | rfl
      | (simp_all; done)

/-- 'pastBlanks': past the blanks a reader between words is where it was. -/
theorem blank_step {s : ByteArray} {p : Nat} (h : p < s.size) (hb : at8 s p = 32) (o : List (List UInt8)) : mR (fr s p) ⟨0, [], o⟩ = mR (fr s (p + 1)) ⟨0, [], o⟩ := by
  rw [fr_cons h, hb, mR_asc 32 _ (by decide)]
  rfl
theorem eq32 (b : UInt8) : ((b.toNat : Int) == 32) = (b == 32) := by rw [Bool.eq_iff_iff, beq_iff_eq, beq_iff_eq]; exact ⟨fun h => UInt8.toNat_inj.1 (by show b.toNat = 32; omega), fun h => by subst h; rfl⟩
theorem index_at {s : ByteArray} {p : Nat} (h : p < s.size) : s[p] = at8 s p := by
  have e := fr_cons h
  unfold fr at e
  have : (s.data.toList.drop p)[0]? = some (at8 s p) := by rw [e]; rfl
  rw [List.getElem?_drop, Nat.add_zero, List.getElem?_eq_getElem (by rw [size_len]; exact h)] at this
  injection this with this
set_option maxRecDepth 20000 in
set_option maxHeartbeats 1000000 in
theorem pastBlanks_any (s : ByteArray) (p : Nat) (w : World) (h : p ≤ s.size) (hs : s.size ≤ 140737488355328) :
    Calls Tryd.prog 39 #[.string s, .int .i64 (p : Int)] w (Ret w fun _ v => ∃ q : Nat, v = .int .i64 (q : Int) ∧ p ≤ q ∧ q ≤ s.size ∧ (q < s.size → at8 s q ≠ 32) ∧ ∀ o, mR (fr s p) ⟨0, [], o⟩ = mR (fr s q) ⟨0, [], o⟩) := by
  obtain ⟨n, HN⟩ : ∃ n, Hid (s.size = n) := ⟨_, rfl⟩
  have hn := h
  have hsn := hs
  rw [HN.out] at hn hsn
  clear h hs
  go_enter Tryd.func39, Tryd.ntmps39
  go_wp2
  go_loopw [1] (fun i wr => ∃ q : Nat, i = .int .i64 q ∧ p ≤ q ∧ q ≤ n ∧ Hid (∀ o, mR (fr s p) ⟨0, [], o⟩ = mR (fr s q) ⟨0, [], o⟩) ∧ Ext w wr) (fun i _ => n - (intOf i).toNat)
  case atStart => exact ⟨p, rfl, Nat.le_refl _, hn, hide fun _ => rfl, Ext.refl _⟩
  case round =>
    obtain ⟨q, rfl, hpq, hqn, HR, hx⟩ := hrel
    by_cases hlt : q < n
    · have hqs : q < s.size := by rw [HN.out]; exact hlt
      have hlt2 : (q : Int) < (s.size : Int) := by omega
      have HA := hide (index_at hqs)
      by_cases hb : at8 s q = 32
      · have hbb : ((s[q].toNat : Int) == 32) = true := by rw [HA.out, hb]; rfl
        have HB := hide hb
        clear hb
        go_wp2
        exact ⟨⟨q + 1, rfl, by omega, by omega, hide fun o => by rw [HR.out o, blank_step hqs HB.out], hx⟩, by simp [intOf]; omega⟩
      · have hbb : ((s[q].toNat : Int) == 32) = false := by rw [HA.out, eq32, beq_eq_false_iff_ne]; exact hb
        have HB := hide hb
        clear hb
        go_wp2
        go_ret
        exact Ret.mk hx ⟨q, rfl, hpq, by rw [HN.out]; omega, fun _ => HB.out, HR.out⟩
    · obtain rfl : q = n := by omega
      have hlt2 : ¬ (q : Int) < (s.size : Int) := by rw [HN.out]; omega
      go_wp2
      go_ret
      exact Ret.mk hx ⟨q, rfl, hpq, by rw [HN.out]; exact Nat.le_refl _, fun h => absurd h (by rw [HN.out]; omega), HR.out⟩

theorem eq34 (b : UInt8) : ((b.toNat : Int) == 34) = (b == 34) := by rw [Bool.eq_iff_iff, beq_iff_eq, beq_iff_eq]; exact ⟨fun h => UInt8.toNat_inj.1 (by show b.toNat = 34; omega), fun h => by subst h; rfl⟩
theorem eq92 (b : UInt8) : ((b.toNat : Int) == 92) = (b == 92) := by rw [Bool.eq_iff_iff, beq_iff_eq, beq_iff_eq]; exact ⟨fun h => UInt8.toNat_inj.1 (by show b.toNat = 92; omega), fun h => by subst h; rfl⟩
theorem marked_false {b : UInt8} (h : marked b = false) : b ≠ 34 ∧ b ≠ 92 := by
  unfold marked at h
  rw [Bool.or_eq_false_iff, beq_eq_false_iff_ne, beq_eq_false_iff_ne] at h
  exact h
theorem chN_bad {l : List UInt8} (h : chN l = 0) : okP (Lib.decodeL l).1 (Lib.decodeL l).2 = false := by
  unfold chN at h
  have := Lib.decodeL_width l
  split at h
  · omega
  · rename_i h2; simpa using h2
theorem chN_ok {l : List UInt8} (h : chN l ≠ 0) : okP (Lib.decodeL l).1 (Lib.decodeL l).2 = true ∧ chN l = (Lib.decodeL l).2 := by
  unfold chN at h ⊢
  split at h
  · rename_i h2; exact ⟨h2, if_pos h2⟩
  · exact absurd rfl h
/-- A character whose first byte is none of three is none of three. -/
theorem rune_ne {s : ByteArray} {p : Nat} (h : p < s.size) {k : Nat} (hk : k < 128) (hb : at8 s p ≠ UInt8.ofNat k) : (Lib.decodeL (fr s p)).1 ≠ k := by
  rw [fr_cons h]
  by_cases ha : (at8 s p).toNat < 128
  · rw [Lib.decodeL_ascii _ _ ha]
    intro e
    apply hb
    apply UInt8.toNat_inj.1
    rw [UInt8.toNat_ofNat']
    simp only at e
    omega
  · rw [Lib.decodeL_N]
    have := decodeN_high (at8 s p :: fr s (p + 1)).length (at8 s p).toNat ((at8 s p :: fr s (p + 1)).getD 1 0).toNat ((at8 s p :: fr s (p + 1)).getD 2 0).toNat ((at8 s p :: fr s (p + 1)).getD 3 0).toNat (by omega)
    simp only [List.getD_cons_zero] at this ⊢
    omega
/-- A word goes on. -/
theorem bare_on {s : ByteArray} {p : Nat} (h : p < s.size) (hb : at8 s p ≠ 32) (hm : marked (at8 s p) = false) (hc : chN (fr s p) ≠ 0) (w : List UInt8) (o : List (List UInt8)) :
    mR (fr s p) ⟨1, w, o⟩ = mR (fr s (p + chN (fr s p))) ⟨1, w ++ (fr s p).take (chN (fr s p)), o⟩ := by
  obtain ⟨h1, h2⟩ := chN_ok hc
  obtain ⟨m1, m2⟩ := marked_false hm
  rw [h2, ← fr_drop]
  refine mR_on (fr_ne h) ?_
  unfold stepM
  simp only [if_neg (show ¬ (1 : Nat) = 0 by decide), if_true, if_neg (rune_ne h (by decide) hb), h1]
  rw [if_neg]
  rintro (e | e | e)
  · cases e
  · exact rune_ne h (by decide) m1 e
  · exact rune_ne h (by decide) m2 e
theorem bare_bad {s : ByteArray} {p : Nat} (h : p < s.size) (hb : at8 s p ≠ 32) (hm : chN (fr s p) = 0 ∨ marked (at8 s p) = true) (w : List UInt8) (o : List (List UInt8)) :
    mR (fr s p) ⟨1, w, o⟩ = .inl (s.size - p) := by
  rw [← fr_len]
  refine mR_bad (fr_ne h) ?_
  unfold stepM
  simp only [if_neg (show ¬ (1 : Nat) = 0 by decide), if_true, if_neg (rune_ne h (by decide) hb)]
  rw [if_pos]
  rcases hm with hm | hm
  · exact .inl (chN_bad hm)
  · right
    unfold marked at hm
    rw [Bool.or_eq_true, beq_iff_eq, beq_iff_eq] at hm
    rw [fr_cons h]
    rcases hm with hm | hm
    · left; rw [hm]; exact congrArg Prod.fst (Lib.decodeL_ascii 34 _ (by decide))
    · right; rw [hm]; exact congrArg Prod.fst (Lib.decodeL_ascii 92 _ (by decide))
theorem chN_le {s : ByteArray} {p : Nat} (h : p < s.size) : p + chN (fr s p) ≤ s.size := by
  have := Lib.decodeL_le _ (fr_ne h)
  rw [fr_len] at this
  unfold chN
  split <;> omega
/-- What lies between two places. -/
def mid (s : ByteArray) (p q : Nat) : List UInt8 := (fr s p).take (q - p)
theorem mid_self (s : ByteArray) (p : Nat) : mid s p p = [] := by unfold mid; rw [Nat.sub_self, List.take_zero]
theorem mid_add (s : ByteArray) (p q n : Nat) (h : p ≤ q) : mid s p q ++ (fr s q).take n = mid s p (q + n) := by
  unfold mid
  obtain ⟨d, rfl⟩ := Nat.exists_eq_add_of_le h
  rw [← fr_drop s p d, Nat.add_sub_cancel_left, show p + d + n - p = d + n by omega, List.take_add]
theorem extract_mid (s : ByteArray) (p q : Nat) : (s.extract p q).data.toList = mid s p q := by
  rw [Lib.extract_data]
  rfl

theorem clone_any (s : ByteArray) (w : World) (hs : s.size ≤ 281474976710656) : Calls Tryd.prog 55 #[.string s] w (Ret w (Is (.string s))) := by
  have K := hide fun W => Tryd.stringslite_Clone s W hs
  clear hs
  go_enter Tryd.func55, Tryd.ntmps55
  go_wp2_with (go_at_call 61; refine (K.out _).mono ?_; rintro e w1 ⟨rfl, hx1⟩)
  go_ret
  exact Ret.mk hx1 rfl
theorem extract_le (s : ByteArray) (p q : Nat) : (s.extract p q).size ≤ s.size := by rw [ByteArray.size_extract]; omega
theorem bne32 {b : UInt8} {c : Bool} (h : (b == 32) = c) : ((b.toNat : Int) != 32) = !c := by
  show (!((b.toNat : Int) == 32)) = _
  rw [eq32, h]
theorem nat_at {s : ByteArray} {p : Nat} (h : p < s.size) : (s[p].toNat : Int) = ((at8 s p).toNat : Int) := by rw [index_at h]
set_option maxRecDepth 20000 in
set_option maxHeartbeats 2000000 in
/-- 'bareAt': the word from a place on that has no quotes, or the fault. -/
theorem bareAt_any (s : ByteArray) (p : Nat) (w : World) (h : p ≤ s.size) (hs : s.size ≤ 140737488355328) (hT : Tabs w) :
    Calls Tryd.prog 51 #[.string s, .int .i64 (p : Int)] w (Ret w fun _ v =>
      (∃ q : Nat, v = .tuple #[.string (s.extract p q), .int .i64 (q : Int), .bool true] ∧ p ≤ q ∧ q ≤ s.size ∧ (q < s.size → at8 s q = 32) ∧ ∀ o, mR (fr s p) ⟨1, [], o⟩ = mR (fr s q) ⟨1, mid s p q, o⟩) ∨
      (∃ q : Nat, v = .tuple #[.string ⟨#[]⟩, .int .i64 (q : Int), .bool false] ∧ p ≤ q ∧ q ≤ s.size ∧ ∀ o, mR (fr s p) ⟨1, [], o⟩ = .inl (s.size - q))) := by
  obtain ⟨n, HN⟩ : ∃ n, Hid (s.size = n) := ⟨_, rfl⟩
  have hn := h
  have hsn := hs
  rw [HN.out] at hn hsn
  have HS := hide hs
  clear h hs
  go_enter Tryd.func51, Tryd.ntmps51
  go_wp2
  go_loopw [7, 8] (fun i _ wr => ∃ q : Nat, i = .int .i64 q ∧ p ≤ q ∧ q ≤ n ∧ Hid (∀ o, mR (fr s p) ⟨1, [], o⟩ = mR (fr s q) ⟨1, mid s p q, o⟩) ∧ Ext w wr) (fun i _ _ => n - (intOf i).toNat)
  case atStart => exact ⟨p, rfl, Nat.le_refl _, hn, hide fun _ => by rw [mid_self], Ext.refl _⟩
  case round =>
    obtain ⟨q, rfl, hpq, hqn, HR, hx⟩ := hrel
    by_cases hlt : q < n
    · have hqs : q < s.size := by rw [HN.out]; exact hlt
      have hlt2 : (q : Int) < (s.size : Int) := by omega
      have he := nat_at hqs
      have KL := hide fun W => clone_any (s.extract p q) W (Nat.le_trans (extract_le s p q) (Nat.le_trans HS.out (by decide)))
      have hpi : (p : Int) ≤ (q : Int) := by omega
      by_cases hb : at8 s q = 32
      · have hbb := bne32 (beq_iff_eq.2 hb)
        have HB := hide hb
        clear hb
        go_wp2_with (go_at_call 55; refine (KL.out _).mono ?_; rintro e w1 ⟨v1, rfl, hx1, rfl⟩)
        go_ret3
        exact Ret.mk (hx.trans hx1) (.inl ⟨q, rfl, hpq, by rw [HN.out]; exact hqn, fun _ => HB.out, HR.out⟩)
      · have hbb := bne32 (beq_eq_false_iff_ne.2 hb)
        have HB := hide hb
        have HQ := hide hqs
        clear hb KL
        obtain ⟨z, HZ⟩ : ∃ z, Hid (chN (fr s q) = z) := ⟨_, rfl⟩
        have KC := hide fun W (hW : Ext w W) => charAt_any s q W hqs HS.out (hT.ext hW)
        rw [HZ.out] at KC
        have hzl : q + z ≤ n := by rw [← HZ.out, ← HN.out]; exact chN_le hqs
        obtain ⟨m, HM⟩ : ∃ m, Hid (marked (at8 s q) = m) := ⟨_, rfl⟩
        have KM := hide fun W => isMarked_any (at8 s q) W
        rw [HM.out] at KM
        by_cases hz : z = 0
        · have hz2 : ((z : Int) == 0) = true := by rw [hz]; rfl
          have HZ0 : Hid (chN (fr s q) = 0) := by rw [← hz]; exact HZ
          clear hz
          go_wp2_with (first
            | (go_at_call 41; refine (KC.out _ hx).mono ?_; rintro e w1 ⟨v1, rfl, hx1, rfl⟩; have hx2 := hx.trans hx1))
          go_ret3
          exact Ret.mk hx2 (.inr ⟨q, rfl, hpq, by rw [HN.out]; exact hqn, fun o => by rw [HR.out o, bare_bad HQ.out HB.out (.inl HZ0.out)]⟩)
        · have hz2 : ((z : Int) == 0) = false := i64_ne (by omega)
          have HZ0 := hide hz
          clear hz
          cases m
          · go_wp2_with (first
              | (go_at_call 41; refine (KC.out _ hx).mono ?_; rintro e w1 ⟨v1, rfl, hx1, rfl⟩; have hx2 := hx.trans hx1)
              | (go_at_call 43; refine (KM.out _).mono ?_; rintro e w2 ⟨rfl, rfl⟩))
            have hz0 := HZ0.out
            refine ⟨⟨q + z, by go_num, by omega, by omega, hide fun o => ?_, hx2⟩, by simp [intOf]; omega⟩
            rw [HR.out o, bare_on HQ.out HB.out HM.out (by rw [HZ.out]; exact hz0), HZ.out, mid_add s p q z hpq]
          · go_wp2_with (first
              | (go_at_call 41; refine (KC.out _ hx).mono ?_; rintro e w1 ⟨v1, rfl, hx1, rfl⟩; have hx2 := hx.trans hx1)
              | (go_at_call 43; refine (KM.out _).mono ?_; rintro e w2 ⟨rfl, rfl⟩))
            go_ret3
            exact Ret.mk hx2 (.inr ⟨q, rfl, hpq, by rw [HN.out]; exact hqn, fun o => by rw [HR.out o, bare_bad HQ.out HB.out (.inr HM.out)]⟩)
    · obtain rfl : q = n := by omega
      have hlt2 : ¬ (q : Int) < (s.size : Int) := by rw [HN.out]; omega
      have hle2 : (q : Int) ≤ (s.size : Int) := by rw [HN.out]; omega
      have KL := hide fun W => clone_any (s.extract p q) W (Nat.le_trans (extract_le s p q) (Nat.le_trans HS.out (by decide)))
      have hpi : (p : Int) ≤ (q : Int) := by omega
      go_wp2_with (go_at_call 55; refine (KL.out _).mono ?_; rintro e w1 ⟨v1, rfl, hx1, rfl⟩)
      go_ret3
      exact Ret.mk (hx.trans hx1) (.inl ⟨q, rfl, hpq, by rw [HN.out]; exact Nat.le_refl _, fun h => absurd h (by rw [HN.out]; omega), HR.out⟩)
end Go.Proofs.YtmanflfanoddgabDoor
