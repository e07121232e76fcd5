/-
  Lines: a word at a place, all words, words that can stand: contracts of the program.
-/
import Derived.Test.YtmanflfanoddgabDoorLinQ
import Derived.Test.YtmanflfanoddgabDoorTvs
namespace Go.Proofs.YtmanflfanoddgabDoor
open Go.RowKit

theorem start_quote {s : ByteArray} {q : Nat} (h : q < s.size) (hb : at8 s q = 34) (o : List (List UInt8)) : mR (fr s q) ⟨0, [], o⟩ = mR (fr s (q + 1)) ⟨2, [], o⟩ := by
  rw [asc_at h hb (by decide)]; rfl
theorem start_bare {s : ByteArray} {q : Nat} (h : q < s.size) (h32 : at8 s q ≠ 32) (h34 : at8 s q ≠ 34) (o : List (List UInt8)) : mR (fr s q) ⟨0, [], o⟩ = mR (fr s q) ⟨1, [], o⟩ := by
  have n1 := rune_ne h (k := 32) (by decide) h32
  have n2 := rune_ne h (k := 34) (by decide) h34
  rw [mR_step _ (fr_ne h), mR_step _ (fr_ne h)]
  unfold stepM
  simp [n1, n2]
theorem mid_list (s : ByteArray) (p q : Nat) : s.extract p q = ⟨(mid s p q).toArray⟩ := by
  apply ByteArray.ext
  apply Array.ext'
  exact extract_mid s p q

/-- What a word's reader answers: the word, the place behind it; or the fault. -/
def WordP (s : ByteArray) (q : Nat) (x : ByteArray) (q' : Nat) (b : Bool) : Prop :=
  (b = true ∧ q < q' ∧ q' ≤ s.size ∧ (q' < s.size → at8 s q' = 32) ∧ ∃ k, (k = 1 ∨ k = 4) ∧ ∀ o, mR (fr s q) ⟨0, [], o⟩ = mR (fr s q') ⟨k, x.data.toList, o⟩) ∨
  (b = false ∧ q' ≤ s.size ∧ ∀ o, mR (fr s q) ⟨0, [], o⟩ = .inl (s.size - q'))
def WordV (s : ByteArray) (q : Nat) (_ : World) (v : Value) : Prop := ∃ (x : ByteArray) (q' : Nat) (b : Bool), v = .tuple #[.string x, .int .i64 (q' : Int), .bool b] ∧ Hid (WordP s q x q' b)
theorem WordP.le {s : ByteArray} {q : Nat} {x : ByteArray} {q' : Nat} {b : Bool} (h : WordP s q x q' b) : q' ≤ s.size := by
  rcases h with ⟨_, _, h, _⟩ | ⟨_, h, _⟩ <;> exact h
theorem WordP.leN {s : ByteArray} {q n : Nat} {x : ByteArray} {q' : Nat} {b : Bool} (hn : s.size = n) (h : WordP s q x q' b) : q' ≤ n := by rw [← hn]; exact h.le
theorem quoted_word (s : ByteArray) (q : Nat) (w : World) (h : q < s.size) (hb : at8 s q = 34) (hs : s.size ≤ 140737488355328) (hT : Tabs w) :
    Calls Tryd.prog 50 #[.string s, .int .i64 ((q : Int) + 1)] w (Ret w (WordV s q)) := by
  have K := quotedAt_any s (q + 1) w (by omega) hs hT
  rw [show ((q + 1 : Nat) : Int) = (q : Int) + 1 from by omega] at K
  refine K.mono fun e w1 ⟨v, he, hx, hv⟩ => ⟨v, he, hx, ?_⟩
  rcases hv with ⟨q', l, rfl, hle, hsz, hbl, hm⟩ | ⟨q', rfl, hle, hsz, hm⟩
  · exact ⟨_, q', true, rfl, .inl ⟨rfl, by omega, hsz, hbl, 4, .inr rfl, fun o => by rw [start_quote h hb, hm]⟩⟩
  · exact ⟨_, q', false, rfl, .inr ⟨rfl, hsz, fun o => by rw [start_quote h hb, hm]⟩⟩
theorem bare_word (s : ByteArray) (q : Nat) (w : World) (h : q < s.size) (h32 : at8 s q ≠ 32) (h34 : at8 s q ≠ 34) (hs : s.size ≤ 140737488355328) (hT : Tabs w) :
    Calls Tryd.prog 51 #[.string s, .int .i64 (q : Int)] w (Ret w (WordV s q)) := by
  refine (bareAt_any s q w (by omega) hs hT).mono fun e w1 ⟨v, he, hx, hv⟩ => ⟨v, he, hx, ?_⟩
  rcases hv with ⟨q', rfl, hle, hsz, hbl, hm⟩ | ⟨q', rfl, hle, hsz, hm⟩
  · refine ⟨_, q', true, rfl, .inl ⟨rfl, ?_, hsz, hbl, 1, .inl rfl, fun o => by rw [start_bare h h32 h34, hm, extract_mid]⟩⟩
    rcases Nat.lt_or_ge q q' with h' | h'
    · exact h'
    · obtain rfl : q = q' := by omega
      exact absurd (hbl h) h32
  · exact ⟨_, q', false, rfl, .inr ⟨rfl, hsz, fun o => by rw [start_bare h h32 h34, hm]⟩⟩

set_option maxRecDepth 20000 in
set_option maxHeartbeats 2000000 in
theorem wordAt_any (s : ByteArray) (q : Nat) (w : World) (h : q < s.size) (h32 : at8 s q ≠ 32) (hs : s.size ≤ 140737488355328) (hT : Tabs w) :
    Calls Tryd.prog 40 #[.string s, .int .i64 (q : Int)] w (Ret w (WordV s q)) := by
  have hlt : (q : Int) < (s.size : Int) := by omega
  have hqb : q ≤ 140737488355328 := by omega
  have he := nat_at h
  by_cases c34 : at8 s q = 34
  · have h34 : (((at8 s q).toNat : Int) == 34) = true := by rw [eq34]; exact beq_iff_eq.2 c34
    have KQ := hide (quoted_word s q w h c34 hs hT)
    clear c34 hs
    go_enter Tryd.func40, Tryd.ntmps40
    go_wp2_with (go_at_call 50; refine KQ.out.mono ?_; rintro e w1 ⟨v1, rfl, hx1, x, q', b, rfl, HP⟩)
    go_ret3
    exact Ret.mk hx1 ⟨x, q', b, rfl, HP⟩
  · have h34 : (((at8 s q).toNat : Int) == 34) = false := by rw [eq34]; exact beq_eq_false_iff_ne.2 c34
    have KQ := hide (bare_word s q w h h32 c34 hs hT)
    clear c34 hs h32
    go_enter Tryd.func40, Tryd.ntmps40
    go_wp2_with (go_at_call 51; refine KQ.out.mono ?_; rintro e w1 ⟨v1, rfl, hx1, x, q', b, rfl, HP⟩)
    go_ret3
    exact Ret.mk hx1 ⟨x, q', b, rfl, HP⟩

/-- A word read, at its end: as between words. -/
theorem word_end {s : ByteArray} {q : Nat} {k : Nat} (hk : k = 1 ∨ k = 4) (hb : q < s.size → at8 s q = 32) (l : List UInt8) (o : List (List UInt8)) : mR (fr s q) ⟨k, l, o⟩ = mR (fr s q) ⟨0, [], o ++ [l]⟩ := by
  rcases Nat.lt_or_ge q s.size with h | h
  · rw [asc_at h (hb h) (by decide), asc_at h (hb h) (by decide)]
    rcases hk with rfl | rfl <;> rfl
  · rw [fr_end h, mR_nil, mR_nil]
    rcases hk with rfl | rfl <;> rfl
def resW (n : Nat) : Sum Nat (List (List UInt8)) → List (List UInt8) × Nat × Nat
  | .inl k => ([], n - k, 4)
  | .inr W => (W, 0, 0)
/-- The words of a line, the place at fault, the error. -/
def wordsS (l : List UInt8) : List (List UInt8) × Nat × Nat :=
  if 300 < l.length then ([], 0, 2) else resW l.length (mR l ⟨0, [], []⟩)
def WordsV (l : List UInt8) (w : World) (v : Value) : Prop := ∃ v0, v = .tuple #[v0, .int .i64 ((wordsS l).2.1 : Int), .int .i64 ((wordsS l).2.2 : Int)] ∧ Txs (wordsS l).1 w v0

set_option maxRecDepth 20000 in
set_option maxHeartbeats 2000000 in
theorem words_any (s : ByteArray) (w : World) (hT : Tabs w) (hz : s.size ≤ 140737488355328) :
    Calls Tryd.prog 21 #[.string s] w (Ret w (WordsV s.data.toList)) := by
  have hsl := size_len s
  by_cases hlong : 300 < s.size
  · have HW : Hid (wordsS s.data.toList = ([], 0, 2)) := by unfold wordsS; rw [if_pos (by omega)]; exact hide rfl
    have hl : (300 : Int) < (s.size : Int) := by omega
    clear hsl hlong
    go_enter Tryd.func21, Tryd.ntmps21
    go_wp2
    go_ret3
    refine Ret.mk (Ext.refl _) ?_
    unfold WordsV
    rw [HW.out]
    exact ⟨_, rfl, Txs.nil _⟩
  · have hl : ¬ (300 : Int) < (s.size : Int) := by omega
    have hs : s.size ≤ 300 := by omega
    have HS : Hid (s.size ≤ 140737488355328) := hide (by omega)
    obtain ⟨R, HR⟩ : ∃ R, Hid (mR (fr s 0) ⟨0, [], []⟩ = R) := ⟨_, rfl⟩
    have HW : Hid (wordsS s.data.toList = resW s.size R) := by
      unfold wordsS
      rw [if_neg (by omega), hsl, ← HR.out]
      exact hide rfl
    obtain ⟨n, HN⟩ : ∃ n, Hid (s.size = n) := ⟨_, rfl⟩
    have hn : n ≤ 300 := by rw [← HN.out]; exact hs
    have KP := hide fun q W (hq : q ≤ n) => pastBlanks_any s q W (by rw [HN.out]; exact hq) HS.out
    have K0 := KP.out 0
    rw [show ((0 : Nat) : Int) = 0 from rfl] at K0
    have K0 := hide K0
    clear hsl hlong hs hz
    go_enter Tryd.func21, Tryd.ntmps21
    go_wp2_with (go_at_call 39; refine (K0.out _ (Nat.zero_le _)).mono ?_; rintro e w1 ⟨v1, rfl, hx1, q1, rfl, hle1, hsz1, hnb1, hm1⟩)
    have HNB1 := hide hnb1
    have HM1 := hide hm1
    have HSZ1 := hide hsz1
    clear hnb1 hm1 hsz1
    go_loopw [5, 6, 7, 8, 9] (fun v i _ _ _ wr => ∃ (q : Nat) (ls : List (List UInt8)), i = .int .i64 q ∧ q ≤ n ∧ ls.length ≤ q ∧ OwnT wr w.heap.size v ls ∧ Hid (q < s.size → at8 s q ≠ 32) ∧ Hid (mR (fr s q) ⟨0, [], ls⟩ = R) ∧ Ext w wr) (fun _ i _ _ _ _ => n - (intOf i).toNat)
    case atStart => exact ⟨q1, [], rfl, by rw [← HN.out]; exact HSZ1.out, Nat.zero_le _, OwnT.nil _ _, HNB1, hide (by rw [← HM1.out]; exact HR.out), hx1⟩
    case round =>
      obtain ⟨q, ls, rfl, hqn, hlq, hown, HNB, HRQ, hx⟩ := hrel
      have HO := hide hown
      clear hown
      by_cases hlt : q < n
      · have hqs : q < s.size := by rw [HN.out]; exact hlt
        have hlt2 : (q : Int) < (s.size : Int) := by omega
        have KW := hide fun W (hW : Ext w W) => wordAt_any s q W hqs (HNB.out hqs) HS.out (hT.ext hW)
        clear hqs
        go_wp2_with (first
          | (go_at_call 40; refine (KW.out _ hx).mono ?_; clear KW; rintro e w2 ⟨v2, rfl, hx2, x, q', b, rfl, HP⟩; have hx3 := hx.trans hx2; have ho2 := HO.out.ext hx2; have HQ' : Hid (q' ≤ n) := hide (WordP.leN HN.out HP.out))
          | (at_builtin; refine wpList_pushT rfl (.tmp 29) (.tmp 31) rfl w.heap.size _ ls x rfl rfl ho2 hx3.size (by omega) ?_; intro v4 w4 hown4 hb4 _; have hx4 : Ext w w4 := Below.trans hx3 hb4)
          | (go_at_call 39; refine (KP.out q' _ HQ'.out).mono ?_; rintro e w5 ⟨v5, rfl, hx5, q5, rfl, hle5, hsz5, hnb5, hm5⟩))
        · obtain ⟨hw, _⟩ | ⟨_, hsz, hm⟩ := HP.out
          · have hnb : (!b) = true := by assumption
            rw [hw] at hnb
            cases hnb
          have HL : Hid (wordsS s.data.toList = ([], q', 4)) := by
            have h := HW.out
            rw [← HRQ.out, hm] at h
            rw [h]
            show ([], s.size - (s.size - q'), 4) = _
            rw [Nat.sub_sub_self hsz]
          go_ret3
          refine Ret.mk hx3 ?_
          unfold WordsV
          rw [HL.out]
          exact ⟨_, rfl, Txs.nil _⟩
        · obtain ⟨_, hlt', _, hbl, k, hk, hm⟩ | ⟨hw, _⟩ := HP.out
          · refine ⟨⟨q5, ls ++ [x.data.toList], rfl, by rw [← HN.out]; exact hsz5, by rw [List.length_append]; show ls.length + 1 ≤ _; omega, hown4.ext hx5, hide hnb5, hide ?_, hx4.trans hx5⟩, by simp [intOf]; omega⟩
            rw [← hm5, ← word_end hk hbl, ← hm, HRQ.out]
          · have hnb : (!b) = false := by assumption
            rw [hw] at hnb
            cases hnb
      · obtain rfl : q = n := by omega
        have hlt2 : ¬ (q : Int) < (s.size : Int) := by rw [HN.out]; omega
        have HL : Hid (wordsS s.data.toList = (ls, 0, 0)) := by
          have h := HW.out
          rw [← HRQ.out, fr_end (by rw [HN.out]; exact Nat.le_refl _), mR_nil] at h
          exact h
        go_wp2
        go_ret3
        refine Ret.mk hx ?_
        unfold WordsV
        rw [HL.out]
        exact ⟨_, rfl, HO.out.txs⟩

set_option maxRecDepth 20000 in
set_option maxHeartbeats 1000000 in
theorem canStand_any (s : ByteArray) (w : World) (hs : s.size ≤ 140737488355328) (hT : Tabs w) :
    Calls Tryd.prog 24 #[.string s] w (Ret w (Is (.bool (canS s.data.toList)))) := by
  obtain ⟨n, HN⟩ : ∃ n, Hid (s.size = n) := ⟨_, rfl⟩
  obtain ⟨c, HC⟩ : ∃ c, Hid (canS s.data.toList = c) := ⟨_, rfl⟩
  rw [HC.out]
  have hsn := hs
  rw [HN.out] at hsn
  have HS := hide hs
  clear hs
  go_enter Tryd.func24, Tryd.ntmps24
  go_wp2
  go_loopw [3, 4] (fun i _ wr => ∃ q : Nat, i = .int .i64 q ∧ q ≤ n ∧ Hid (canS (fr s q) = c) ∧ Ext w wr) (fun i _ _ => n - (intOf i).toNat)
  case atStart => exact ⟨0, rfl, Nat.zero_le _, HC, Ext.refl _⟩
  case round =>
    obtain ⟨q, rfl, hqn, HR, hx⟩ := hrel
    by_cases hlt : q < n
    · have hqs : q < s.size := by rw [HN.out]; exact hlt
      have hlt2 : (q : Int) < (s.size : Int) := by omega
      obtain ⟨z, HZ⟩ : ∃ z, Hid (chN (fr s q) = z) := ⟨_, rfl⟩
      have KC := hide fun W (hW : Ext w W) => charAt_any s q W hqs HS.out (hT.ext hW)
      rw [HZ.out] at KC
      have hzl : q + z ≤ n := by rw [← HZ.out, ← HN.out]; exact chN_le hqs
      have HQ := hide hqs
      clear hqs
      by_cases hz : z = 0
      · have hz2 : ((z : Int) == 0) = true := by rw [hz]; rfl
        have HL : Hid (c = false) := by
          rw [← HR.out, canS_step _ (fr_ne HQ.out), chN_bad (by rw [HZ.out]; exact hz)]
          exact hide rfl
        clear hz
        go_wp2_with (go_at_call 41; refine (KC.out _ hx).mono ?_; rintro e w1 ⟨v1, rfl, hx1, rfl⟩; have hx2 := hx.trans hx1)
        go_ret
        rw [HL.out]
        exact Ret.mk hx2 rfl
      · have hz2 : ((z : Int) == 0) = false := i64_ne (by omega)
        have HZ0 := hide hz
        clear hz
        go_wp2_with (go_at_call 41; refine (KC.out _ hx).mono ?_; rintro e w1 ⟨v1, rfl, hx1, rfl⟩; have hx2 := hx.trans hx1)
        have hz0 := HZ0.out
        obtain ⟨h1, h2⟩ := chN_ok (l := fr s q) (by rw [HZ.out]; exact hz0)
        refine ⟨⟨q + z, by go_num, by omega, hide ?_, hx2⟩, by simp [intOf]; omega⟩
        rw [← HR.out, canS_step _ (fr_ne HQ.out), h1, Bool.true_and, fr_drop, ← h2, HZ.out]
    · obtain rfl : q = n := by omega
      have hlt2 : ¬ (q : Int) < (s.size : Int) := by rw [HN.out]; omega
      have HL : Hid (c = true) := by
        rw [← HR.out, fr_end (by rw [HN.out]; exact Nat.le_refl _)]
        exact hide rfl
      go_wp2
      go_ret
      rw [HL.out]
      exact Ret.mk hx rfl
end Go.Proofs.YtmanflfanoddgabDoor
