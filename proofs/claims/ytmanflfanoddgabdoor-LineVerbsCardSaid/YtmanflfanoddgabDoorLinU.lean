/-
  Lines: what is written, as plain functions; read again it is the same; blanks about a line.
-/
import Derived.Test.YtmanflfanoddgabDoorLinB
import Derived.Test.YtmanflfanoddgabDoorLinX
namespace Go.Proofs.YtmanflfanoddgabDoor
open Go.RowKit

theorem cat_data (a b : ByteArray) : (a ++ b).data.toList = a.data.toList ++ b.data.toList := by simp
theorem size_of_list {q : ByteArray} {l : List UInt8} (h : q.data.toList = l) : q.size = l.length := by rw [← h]; rfl
/-- The line of a verb's word and these words. -/
def lineW (wd : List UInt8) (args : List (List UInt8)) : List UInt8 := wd ++ args.flatMap fun x => 32 :: wordW x
/-- The line of a request; the error. -/
def writeS (v : Int) (args : List (List UInt8)) : List UInt8 × Nat :=
  match verbN v with
  | none => ([], 3)
  | some (_, wd, a) => if (args.length : Int) = a then (if args.all canS then (if 300 < (lineW wd args).length then ([], 2) else (lineW wd args, 0)) else ([], 3)) else ([], 3)

theorem vtab_facts : ∀ r ∈ vtab, canS r.2.1 = true ∧ wordW r.2.1 = r.2.1 ∧ verbS r.2.1 = some r ∧ verbN r.1 = some r ∧ r.1 ≠ 0 := by decide +kernel
theorem verbN_mem {v : Int} {r : Int × List UInt8 × Int} (h : verbN v = some r) : r ∈ vtab ∧ r.1 = v := by
  refine ⟨List.mem_of_find?_eq_some h, ?_⟩
  have := List.find?_some h
  simpa using this
theorem verbS_mem {x : List UInt8} {r : Int × List UInt8 × Int} (h : verbS x = some r) : r ∈ vtab ∧ r.2.1 = x := by
  refine ⟨List.mem_of_find?_eq_some h, ?_⟩
  have := List.find?_some h
  simpa using this
theorem wordsS_line {wd : List UInt8} {args : List (List UInt8)} (h1 : canS wd = true) (h2 : wordW wd = wd) (h3 : args.all canS = true) (h4 : (lineW wd args).length ≤ 300) : wordsS (lineW wd args) = (wd :: args, 0, 0) := by
  rw [wordsS_ok h4]
  have := mR_words args wd [] h1 (fun x hx => by rw [List.all_eq_true] at h3; exact h3 x hx)
  rw [h2] at this
  unfold lineW
  rw [this]
  rfl
/-- What is written is read again as it was. -/
theorem write_back {v : Int} {args : List (List UInt8)} {out : List UInt8} (h : writeS v args = (out, 0)) : parseS out = (v, args, 0, 0) := by
  unfold writeS at h
  split at h
  · cases h
  · rename_i n wd a hv
    obtain ⟨hm, hn⟩ := verbN_mem hv
    obtain ⟨f1, f2, f3, -⟩ := vtab_facts _ hm
    simp only at hn f1 f2 f3
    subst hn
    split at h
    · rename_i hlen
      split at h
      · rename_i hall
        split at h
        · cases h
        · rename_i hle
          injection h with h _
          subst h
          unfold parseS
          rw [wordsS_line f1 f2 hall (by omega)]
          simp only [ne_eq, not_true_eq_false, if_false, f3, hlen, if_true]
      · cases h
    · cases h
theorem wordsS_can {l : List UInt8} {W : List (List UInt8)} {p : Nat} (h : wordsS l = (W, p, 0)) : ∀ w ∈ W, canS w = true := by
  by_cases hl : l.length ≤ 300
  · have := words_inr hl h
    exact mR_can (x := ⟨0, [], []⟩) ⟨rfl, fun w hw => by cases hw⟩ this
  · unfold wordsS at h
    rw [if_pos (by omega)] at h
    cases h
/-- What is read is written, or it is too long. -/
theorem parse_write {l : List UInt8} {v : Int} {args : List (List UInt8)} {p : Nat} (h : parseS l = (v, args, p, 0)) : (writeS v args).2 = 0 ∨ (writeS v args).2 = 2 := by
  unfold parseS at h
  rcases hw : wordsS l with ⟨W, q, e⟩
  rw [hw] at h
  simp only at h
  by_cases he : e = 0
  · subst he
    have hcan := wordsS_can hw
    simp only [ne_eq, not_true_eq_false, if_false] at h
    cases W with
    | nil => simp at h
    | cons x t =>
      simp only at h
      cases hv : verbS x with
      | none => rw [hv] at h; simp at h
      | some r =>
        obtain ⟨n, wd, a⟩ := r
        rw [hv] at h
        simp only at h
        split at h
        · rename_i hlen
          injection h with h1 h2
          injection h2 with h2 _
          subst h1 h2
          obtain ⟨hm, _⟩ := verbS_mem hv
          obtain ⟨f1, f2, f3, f4, f5⟩ := vtab_facts _ hm
          simp only at f4
          unfold writeS
          rw [f4]
          simp only [hlen, if_true]
          rw [if_pos (by rw [List.all_eq_true]; exact fun y hy => hcan y (by simp [hy]))]
          split
          · exact .inr rfl
          · exact .inl rfl
        · simp at h
  · rw [if_pos he] at h
    simp at h
    exact absurd h.2.2.2 he
theorem mR_blanks (l : List UInt8) : mR (32 :: 32 :: l) ⟨0, [], []⟩ = mR l ⟨0, [], []⟩ := by
  rw [mR_asc 32 _ (by decide)]
  show mR (32 :: l) ⟨0, [], []⟩ = _
  rw [mR_asc 32 _ (by decide)]
  rfl
theorem mR_le {l : List UInt8} {x : Rdr} {k : Nat} (h : mR l x = .inl k) : k ≤ l.length := by
  induction l using chs_ind generalizing x with
  | h0 =>
    rw [mR_nil] at h
    unfold finM at h
    repeat' split at h
    · injection h with h; omega
    · cases h
    · cases h
  | h1 l hne ih =>
    rw [mR_step l hne] at h
    cases hs : stepM (okP (Lib.decodeL l).1 (Lib.decodeL l).2) (Lib.decodeL l).1 (l.take (Lib.decodeL l).2) x with
    | none => rw [hs] at h; injection h with h; omega
    | some y =>
      rw [hs] at h
      have := ih h
      rw [List.length_drop] at this
      omega
def Rdr.len (N : Nat) (x : Rdr) (k : Nat) : Prop := x.w.length + k ≤ N ∧ ∀ w ∈ x.o, w.length ≤ N
theorem stepM_len {ok : Bool} {r N m k : Nat} {h : List UInt8} {x y : Rdr} (hh : h.length ≤ m) (hx : x.len N (k + m)) (e : stepM ok r h x = some y) : y.len N k := by
  obtain ⟨h1, h2⟩ := hx
  have hsnoc : ∀ w ∈ x.o ++ [x.w], w.length ≤ N := fun w hw => by
    rcases List.mem_append.1 hw with h | h
    · exact h2 w h
    · rw [List.mem_singleton.1 h]; omega
  unfold stepM at e
  repeat' split at e
  all_goals (first | contradiction | (injection e with e; subst e))
  all_goals first
    | exact ⟨by omega, h2⟩
    | exact ⟨by simp; omega, hsnoc⟩
    | exact ⟨by simp only [List.length_append]; omega, h2⟩
theorem mR_len {l : List UInt8} {x : Rdr} {W : List (List UInt8)} {N : Nat} (hx : x.len N l.length) (h : mR l x = .inr W) : ∀ w ∈ W, w.length ≤ N := by
  induction l using chs_ind generalizing x with
  | h0 =>
    rw [mR_nil] at h
    unfold finM at h
    repeat' split at h
    · cases h
    · injection h with h; subst h; exact hx.2
    · injection h with h; subst h
      intro w hw
      rcases List.mem_append.1 hw with h | h
      · exact hx.2 w h
      · rw [List.mem_singleton.1 h]; have := hx.1; omega
  | h1 l hne ih =>
    rw [mR_step l hne] at h
    cases hs : stepM (okP (Lib.decodeL l).1 (Lib.decodeL l).2) (Lib.decodeL l).1 (l.take (Lib.decodeL l).2) x with
    | none => rw [hs] at h; cases h
    | some y =>
      rw [hs] at h
      refine ih (stepM_len (m := (l.take (Lib.decodeL l).2).length) (Nat.le_refl _) ?_ hs) h
      have e : (l.drop (Lib.decodeL l).2).length + (l.take (Lib.decodeL l).2).length = l.length := by
        rw [List.length_drop, List.length_take]; omega
      rw [e]
      exact hx
theorem wordsS_len {l : List UInt8} {W : List (List UInt8)} {p e : Nat} (h : wordsS l = (W, p, e)) : ∀ w ∈ W, w.length ≤ 300 := by
  by_cases hl : l.length ≤ 300
  · by_cases he : e = 0
    · subst he
      exact mR_len (x := ⟨0, [], []⟩) ⟨by simp; exact hl, fun w hw => by cases hw⟩ (words_inr hl h)
    · obtain ⟨_, _, _, _, rfl⟩ := words_inl hl h he
      intro w hw; cases hw
  · unfold wordsS at h
    rw [if_pos (by omega)] at h
    injection h with h _
    subst h
    intro w hw; cases hw
theorem parseS_len {l : List UInt8} {v : Int} {t : List (List UInt8)} {p e : Nat} (h : parseS l = (v, t, p, e)) : ∀ w ∈ t, w.length ≤ 300 := by
  rcases hw : wordsS l with ⟨W, q, f⟩
  have hl := wordsS_len hw
  unfold parseS at h
  rw [hw] at h
  simp only at h
  have nil : ∀ {t : List (List UInt8)}, [] = t → ∀ w ∈ t, w.length ≤ 300 := fun h => by subst h; intro w hw; cases hw
  split at h
  · injection h with _ h; injection h with h _; exact nil h
  · split at h
    · injection h with _ h; injection h with h _; exact nil h
    · rename_i x s
      split at h
      · injection h with _ h; injection h with h _; exact nil h
      · split at h
        · injection h with _ h; injection h with h _
          subst h
          exact fun w hw => hl w (by simp [hw])
        · injection h with _ h; injection h with h _; exact nil h
/-- Blanks about a line change nothing but the place. -/
theorem words_blank {l : List UInt8} (hl : l.length ≤ 290) {W : List (List UInt8)} {p e : Nat} (h : wordsS l = (W, p, e)) :
    ∃ p', wordsS (32 :: 32 :: (l ++ [32])) = (W, p', e) ∧ (e = 0 → p = 0 ∧ p' = 0) ∧ (e ≠ 0 → p' = p + 2 ∨ p' = l.length + 3) := by
  have hl2 : (32 :: 32 :: (l ++ [32])).length ≤ 300 := by simp; omega
  rw [wordsS_ok hl2, mR_blanks]
  by_cases he : e = 0
  · subst he
    have h1 := words_inr (by omega) h
    rw [mR_blank (x := ⟨0, [], []⟩) (fun _ => rfl) h1]
    rw [wordsS_ok (by omega), h1] at h
    unfold resW at h ⊢
    injection h with _ h
    injection h with h _
    exact ⟨0, rfl, fun _ => ⟨h.symm, rfl⟩, fun h => absurd rfl h⟩
  · obtain ⟨k, hk, hp, h4, hW⟩ := words_inl (by omega) h he
    subst hp h4 hW
    have hkl := mR_le hk
    rcases mR_blank_bad hk with h2 | h2
    · rw [h2]
      refine ⟨_, rfl, fun h => absurd h he, fun _ => .inl ?_⟩
      simp only [List.length_cons, List.length_append, List.length_nil]
      omega
    · rw [h2]
      refine ⟨_, rfl, fun h => absurd h he, fun _ => .inr ?_⟩
      simp only [List.length_cons, List.length_append, List.length_nil]
      omega
theorem parse_blank {l : List UInt8} (hl : l.length ≤ 290) {v : Int} {t : List (List UInt8)} {p e : Nat} (h : parseS l = (v, t, p, e)) :
    ∃ p', parseS (32 :: 32 :: (l ++ [32])) = (v, t, p', e) ∧ (p = 0 ∨ p' = p + 2 ∨ p' = l.length + 3) := by
  rcases hw : wordsS l with ⟨W, q, f⟩
  obtain ⟨q', hq, h0, h1⟩ := words_blank hl hw
  unfold parseS at h ⊢
  rw [hw] at h
  rw [hq]
  simp only at h ⊢
  by_cases hf : f = 0
  · subst hf
    simp only [ne_eq, not_true_eq_false, if_false] at h ⊢
    refine ⟨p, h, .inl ?_⟩
    cases W with
    | nil => simp at h; exact h.2.2.1.symm
    | cons x s =>
      simp only at h
      split at h
      · simp at h; exact h.2.2.1.symm
      · split at h
        · simp at h; exact h.2.2.1.symm
        · simp at h; exact h.2.2.1.symm
  · rw [if_pos hf] at h ⊢
    injection h with a1 h
    injection h with a2 h
    injection h with a3 a4
    subst a1 a2 a3 a4
    exact ⟨q', rfl, .inr (h1 hf)⟩
/-- Each verb with that many words. -/
def xs (m : Nat) : List (List UInt8) := List.replicate m [120]
def lineX (wd : List UInt8) (m : Nat) : List UInt8 := wd ++ (List.replicate m [32, 120]).flatten
theorem verbs_plain : ∀ r ∈ vtab, ∀ m, m < 6 → parseS (lineX r.2.1 m) = (if (m : Int) = r.2.2 then (r.1, xs m, 0, 0) else (0, [], 0, 1)) ∧ writeS r.1 (xs m) = if (m : Int) = r.2.2 then (lineX r.2.1 m, 0) else ([], 3) := by decide +kernel
end Go.Proofs.YtmanflfanoddgabDoor
