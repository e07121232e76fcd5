/-
  Lines: words in quotes.
-/
import Derived.Test.YtmanflfanoddgabDoorLinK
import Derived.Test.YtmanflfanoddgabDoorStr
namespace Go.Proofs.YtmanflfanoddgabDoor
open Go.RowKit

theorem asc_at {s : ByteArray} {q : Nat} (h : q < s.size) {k : UInt8} (hb : at8 s q = k) (hk : k.toNat < 128) (x : Rdr) : mR (fr s q) x = match stepM (okP k.toNat 1) k.toNat [k] x with
    | none => .inl (s.size - q)
    | some y => mR (fr s (q + 1)) y := by
  rw [fr_cons h, hb, mR_asc k _ hk, fr_len]
  have : s.size - (q + 1) + 1 = s.size - q := by omega
  rw [this]
  cases stepM (okP k.toNat 1) k.toNat [k] x <;> rfl
theorem quo_slash {s : ByteArray} {q : Nat} (h : q < s.size) (hb : at8 s q = 92) (l : List UInt8) (o : List (List UInt8)) : mR (fr s q) ⟨2, l, o⟩ = mR (fr s (q + 1)) ⟨3, l, o⟩ := by
  rw [asc_at h hb (by decide)]; rfl
theorem quo_close {s : ByteArray} {q : Nat} (h : q < s.size) (hb : at8 s q = 34) (l : List UInt8) (o : List (List UInt8)) : mR (fr s q) ⟨2, l, o⟩ = mR (fr s (q + 1)) ⟨4, l, o⟩ := by
  rw [asc_at h hb (by decide)]; rfl
theorem quo_end {s : ByteArray} {q : Nat} (h : s.size ≤ q) (k : Nat) (hk : k = 2 ∨ k = 3) (l : List UInt8) (o : List (List UInt8)) : mR (fr s q) ⟨k, l, o⟩ = .inl 0 := by
  rw [fr_end h, mR_nil]; unfold finM; simp [hk]
theorem marked_true {b : UInt8} (h : marked b = true) : b = 34 ∨ b = 92 := by
  unfold marked at h
  rwa [Bool.or_eq_true, beq_iff_eq, beq_iff_eq] at h
theorem quo_bad3 {s : ByteArray} {q : Nat} (h : q < s.size) (hm : marked (at8 s q) = false) (l : List UInt8) (o : List (List UInt8)) : mR (fr s q) ⟨3, l, o⟩ = .inl (s.size - q) := by
  obtain ⟨m1, m2⟩ := marked_false hm
  rw [← fr_len]
  refine mR_bad (fr_ne h) ?_
  have n1 := rune_ne h (k := 34) (by decide) m1
  have n2 := rune_ne h (k := 92) (by decide) m2
  unfold stepM
  simp [n1, n2]
theorem quo_ok3 {s : ByteArray} {q : Nat} (h : q < s.size) (hm : marked (at8 s q) = true) : chN (fr s q) = 1 ∧ ∀ (l : List UInt8) (o : List (List UInt8)), mR (fr s q) ⟨3, l, o⟩ = mR (fr s (q + 1)) ⟨2, l ++ (fr s q).take 1, o⟩ := by
  have hk := marked_true hm
  have h128 : (at8 s q).toNat < 128 := by rcases hk with h | h <;> (rw [h]; decide)
  refine ⟨?_, fun l o => ?_⟩
  · unfold chN
    rw [fr_cons h, Lib.decodeL_ascii _ _ h128]
    simp only
    rw [if_pos]
    rcases hk with h | h <;> (rw [h]; decide)
  · rw [asc_at h rfl h128, fr_cons h]
    rcases hk with h | h <;> (rw [h]; rfl)
theorem quo_on {s : ByteArray} {q : Nat} (h : q < s.size) (hb : at8 s q ≠ 34) (hm : at8 s q ≠ 92) (hc : chN (fr s q) ≠ 0) (l : List UInt8) (o : List (List UInt8)) :
    mR (fr s q) ⟨2, l, o⟩ = mR (fr s (q + chN (fr s q))) ⟨2, l ++ (fr s q).take (chN (fr s q)), o⟩ := by
  obtain ⟨h1, h2⟩ := chN_ok hc
  rw [h2, ← fr_drop]
  refine mR_on (fr_ne h) ?_
  have n1 := rune_ne h (k := 34) (by decide) hb
  have n2 := rune_ne h (k := 92) (by decide) hm
  unfold stepM
  simp [h1, n1, n2]
theorem quo_bad {s : ByteArray} {q : Nat} (h : q < s.size) (hc : chN (fr s q) = 0) (l : List UInt8) (o : List (List UInt8)) : mR (fr s q) ⟨2, l, o⟩ = .inl (s.size - q) := by
  rw [← fr_len]
  refine mR_bad (fr_ne h) ?_
  unfold stepM
  simp [chN_bad hc]
theorem cl_bad {s : ByteArray} {q : Nat} (h : q < s.size) (hb : at8 s q ≠ 32) (l : List UInt8) (o : List (List UInt8)) : mR (fr s q) ⟨4, l, o⟩ = .inl (s.size - q) := by
  rw [← fr_len]
  refine mR_bad (fr_ne h) ?_
  have n1 := rune_ne h (k := 32) (by decide) hb
  unfold stepM
  simp [n1]
theorem bne34 {b : UInt8} {c : Bool} (h : (b == 34) = c) : ((b.toNat : Int) != 34) = !c := by
  show (!((b.toNat : Int) == 34)) = _
  rw [eq34, h]
theorem take_extract (s : ByteArray) (q n : Nat) : (s.extract q (q + n)).data.toList = (fr s q).take n := by
  rw [extract_mid]
  unfold mid
  rw [Nat.add_sub_cancel_left]

set_option maxRecDepth 20000 in
set_option maxHeartbeats 4000000 in
/-- 'quotedAt': the word in quotes from behind the first of them on, or the fault. -/
theorem quotedAt_any (s : ByteArray) (p : Nat) (w : World) (h : p ≤ s.size) (hs : s.size ≤ 140737488355328) (hT : Tabs w) :
    Calls Tryd.prog 50 #[.string s, .int .i64 (p : Int)] w (Ret w fun _ v =>
      (∃ (q : Nat) (l : List UInt8), v = .tuple #[.string ⟨l.toArray⟩, .int .i64 (q : Int), .bool true] ∧ p ≤ q ∧ q ≤ s.size ∧ (q < s.size → at8 s q = 32) ∧ ∀ o, mR (fr s p) ⟨2, [], o⟩ = mR (fr s q) ⟨4, l, o⟩) ∨
      (∃ q : Nat, v = .tuple #[.string ⟨#[]⟩, .int .i64 (q : Int), .bool false] ∧ p ≤ q ∧ q ≤ s.size ∧ ∀ o, mR (fr s p) ⟨2, [], o⟩ = .inl (s.size - q))) := by
  obtain ⟨n, HN⟩ : ∃ n, Hid (s.size = n) := ⟨_, rfl⟩
  have hn := h
  have hsn := hs
  rw [HN.out] at hn hsn
  have HS := hide hs
  clear h hs
  go_enter Tryd.func50, Tryd.ntmps50
  go_wp2
  go_loopw [1, 7, 8] (fun i v _ wr => ∃ (q : Nat) (l : List UInt8), i = .int .i64 q ∧ Own wr w.heap.size v l ∧ l.length ≤ q ∧ p ≤ q ∧ q ≤ n ∧ Hid (∀ o, mR (fr s p) ⟨2, [], o⟩ = mR (fr s q) ⟨2, l, o⟩) ∧ Ext w wr) (fun i _ _ _ => n - (intOf i).toNat)
  case atStart => exact ⟨p, [], rfl, Own.nil _ _, Nat.zero_le _, Nat.le_refl _, hn, hide fun _ => rfl, Ext.refl _⟩
  case round =>
    obtain ⟨q, l, rfl, hown, hl, hpq, hqn, HR, hx⟩ := hrel
    by_cases hlt : q < n
    · have hqs : q < s.size := by rw [HN.out]; exact hlt
      have hlt2 : (q : Int) < (s.size : Int) := by omega
      have he := nat_at hqs
      have HQ := hide hqs
      have HO := hide hown
      clear hown
      by_cases c34 : at8 s q = 34
      · have hbb := bne34 (beq_iff_eq.2 c34)
        have hne : ((q : Int) == (s.size : Int)) = false := i64_ne (by omega)
        have HB := hide c34
        clear c34
        by_cases hq1 : q + 1 < n
        · have hq1s : q + 1 < s.size := by rw [HN.out]; exact hq1
          have hlt3 : (q : Int) + 1 < (s.size : Int) := by omega
          have he1 := nat_at hq1s
          by_cases c32 : at8 s (q + 1) = 32
          · have hb1 := bne32 (beq_iff_eq.2 c32)
            have HB1 := hide c32
            clear c32
            go_wp2_with (refine wpList_str rfl (.tmp 72) rfl l HO.out.bytes ?_)
            go_ret3
            exact Ret.mk hx (.inl ⟨q + 1, l, by go_num, by omega, Nat.le_of_lt (by rw [HN.out]; exact hq1), fun _ => HB1.out, fun o => by rw [HR.out o, quo_close HQ.out HB.out]⟩)
          · have hb1 := bne32 (beq_eq_false_iff_ne.2 c32)
            have HB1 := hide c32
            have HQ1 := hide hq1s
            clear c32
            go_wp2
            go_ret3
            exact Ret.mk hx (.inr ⟨q + 1, by go_num, by omega, Nat.le_of_lt HQ1.out, fun o => by rw [HR.out o, quo_close HQ.out HB.out, cl_bad HQ1.out HB1.out]⟩)
        · have hlt3 : ¬ (q : Int) + 1 < (s.size : Int) := by rw [HN.out]; omega
          go_wp2_with (refine wpList_str rfl (.tmp 72) rfl l HO.out.bytes ?_)
          go_ret3
          exact Ret.mk hx (.inl ⟨q + 1, l, by go_num, by omega, by rw [HN.out]; omega, fun h => absurd h (by rw [HN.out]; omega), fun o => by rw [HR.out o, quo_close HQ.out HB.out]⟩)
      · have hbb := bne34 (beq_eq_false_iff_ne.2 c34)
        have HB := hide c34
        clear c34
        by_cases c92 : at8 s q = 92
        · have h92 : (((at8 s q).toNat : Int) == 92) = true := by rw [eq92]; exact beq_iff_eq.2 c92
          have HB2 := hide c92
          clear c92
          by_cases hq1 : q + 1 < n
          · have hq1s : q + 1 < s.size := by rw [HN.out]; exact hq1
            have hne1 : ((q : Int) + 1 == (s.size : Int)) = false := by rw [beq_eq_false_iff_ne]; rw [HN.out]; omega
            have hlt3 : (q : Int) + 1 < (s.size : Int) := by omega
            have he1 := nat_at hq1s
            have HQ1 := hide hq1s
            obtain ⟨m, HM⟩ : ∃ m, Hid (marked (at8 s (q + 1)) = m) := ⟨_, rfl⟩
            have KM := hide fun W => isMarked_any (at8 s (q + 1)) W
            rw [HM.out] at KM
            cases m
            · go_wp2_with (first
                | (go_at_call 43; refine (KM.out _).mono ?_; rintro e w2 ⟨rfl, rfl⟩))
              go_ret3
              exact Ret.mk hx (.inr ⟨q + 1, by go_num, by omega, Nat.le_of_lt HQ1.out, fun o => by rw [HR.out o, quo_slash HQ.out HB2.out, quo_bad3 HQ1.out HM.out]⟩)
            · have HOK := hide (quo_ok3 hq1s HM.out)
              have KC := hide fun W (hW : Ext w W) => charAt_any s (q + 1) W hq1s HS.out (hT.ext hW)
              rw [HOK.out.1] at KC
              go_wp2_with (first
                | (go_at_call 43; refine (KM.out _).mono ?_; rintro e w2 ⟨rfl, rfl⟩)
                | (go_at_call 41; refine (KC.out _ hx).mono ?_; rintro e w1 ⟨v1, rfl, hx1, rfl⟩; have hx2 := hx.trans hx1; have ho1 := HO.out.ext hx1)
                | (at_builtin; refine wpList_catS rfl (.tmp 43) (.tmp 49) rfl w.heap.size _ l (s.extract (q + 1) (q + 1 + 1)) rfl rfl ho1 hx2.size (by rw [ByteArray.size_extract]; omega) ?_; intro v3 w3 hown3 hb3; have HO3 := hide hown3; have hx3 : Ext w w3 := Below.trans hx2 hb3; clear hown3))
              refine ⟨⟨q + 1 + 1, l ++ (fr s (q + 1)).take 1, by go_num, by rw [← take_extract]; exact HO3.out, by rw [List.length_append, List.length_take]; omega, by omega, by omega, hide fun o => by rw [HR.out o, quo_slash HQ.out HB2.out, HOK.out.2], hx3⟩, by simp [intOf]; omega⟩
          · have hne1 : ((q : Int) + 1 == (s.size : Int)) = true := by rw [beq_iff_eq]; rw [HN.out]; omega
            go_wp2
            go_ret3
            exact Ret.mk hx (.inr ⟨q + 1, by go_num, by omega, by rw [HN.out]; omega, fun o => by rw [HR.out o, quo_slash HQ.out HB2.out, quo_end (by rw [HN.out]; omega) 3 (.inr rfl), show s.size - (q + 1) = 0 by rw [HN.out]; omega]⟩)
        · have h92 : (((at8 s q).toNat : Int) == 92) = false := by rw [eq92]; exact beq_eq_false_iff_ne.2 c92
          have HB2 := hide c92
          clear c92
          obtain ⟨z, HZ⟩ : ∃ z, Hid (chN (fr s q) = z) := ⟨_, rfl⟩
          have KC := hide fun W (hW : Ext w W) => charAt_any s q W hqs HS.out (hT.ext hW)
          rw [HZ.out] at KC
          have hzl : q + z ≤ n := by rw [← HZ.out, ← HN.out]; exact chN_le hqs
          by_cases hz : z = 0
          · have hz2 : ((z : Int) == 0) = true := by rw [hz]; rfl
            have HZ0 : Hid (chN (fr s q) = 0) := by rw [← hz]; exact HZ
            clear hz
            go_wp2_with (first
              | (go_at_call 41; refine (KC.out _ hx).mono ?_; rintro e w1 ⟨v1, rfl, hx1, rfl⟩; have hx2 := hx.trans hx1))
            go_ret3
            exact Ret.mk hx2 (.inr ⟨q, rfl, hpq, by rw [HN.out]; exact hqn, fun o => by rw [HR.out o, quo_bad HQ.out HZ0.out]⟩)
          · have hz2 : ((z : Int) == 0) = false := i64_ne (by omega)
            have HZ0 := hide hz
            have hlz : (q : Int) + (z : Int) ≤ (s.size : Int) := by rw [HN.out]; omega
            clear hz
            go_wp2_with (first
              | (go_at_call 41; refine (KC.out _ hx).mono ?_; rintro e w1 ⟨v1, rfl, hx1, rfl⟩; have hx2 := hx.trans hx1; have ho1 := HO.out.ext hx1)
              | (at_builtin; refine wpList_catS rfl (.tmp 43) (.tmp 49) rfl w.heap.size _ l (s.extract q (q + z)) rfl rfl ho1 hx2.size (by rw [ByteArray.size_extract]; omega) ?_; intro v3 w3 hown3 hb3; have HO3 := hide hown3; have hx3 : Ext w w3 := Below.trans hx2 hb3; clear hown3))
            have hz0 := HZ0.out
            refine ⟨⟨q + z, l ++ (fr s q).take z, by go_num, by rw [← take_extract]; exact HO3.out, by rw [List.length_append, List.length_take]; omega, by omega, by omega, hide fun o => ?_, hx3⟩, by simp [intOf]; omega⟩
            rw [HR.out o, quo_on HQ.out HB.out HB2.out (by rw [HZ.out]; exact hz0), HZ.out]
    · obtain rfl : q = n := by omega
      have hlt2 : ¬ (q : Int) < (s.size : Int) := by rw [HN.out]; omega
      have hne : ((q : Int) == (s.size : Int)) = true := by rw [HN.out, beq_iff_eq]
      go_wp2
      go_ret3
      exact Ret.mk hx (.inr ⟨q, rfl, hpq, by rw [HN.out]; exact Nat.le_refl _, fun o => by rw [HR.out o, quo_end (by rw [HN.out]; exact Nat.le_refl _) 2 (.inl rfl), HN.out, Nat.sub_self]⟩)
end Go.Proofs.YtmanflfanoddgabDoor
