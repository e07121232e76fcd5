/-
  Lines: their words: what follows from the contract of Words.
-/
import Derived.Test.YtmanflfanoddgabDoorLinA
import Derived.Test.YtmanflfanoddgabDoorGive
namespace Go.Proofs.YtmanflfanoddgabDoor
open Go.RowKit

theorem wordsS_ok {l : List UInt8} (h : l.length ≤ 300) : wordsS l = resW l.length (mR l ⟨0, [], []⟩) := by unfold wordsS; rw [if_neg (by omega)]
theorem words_inr {l : List UInt8} {W : List (List UInt8)} {p : Nat} (hl : l.length ≤ 300) (h : wordsS l = (W, p, 0)) : mR l ⟨0, [], []⟩ = .inr W := by
  rw [wordsS_ok hl] at h
  cases hm : mR l ⟨0, [], []⟩ with
  | inl k => rw [hm] at h; unfold resW at h; simp at h
  | inr V => rw [hm] at h; unfold resW at h; simp at h; rw [h.1]
theorem words_inl {l : List UInt8} {W : List (List UInt8)} {p e : Nat} (hl : l.length ≤ 300) (h : wordsS l = (W, p, e)) (he : e ≠ 0) : ∃ k, mR l ⟨0, [], []⟩ = .inl k ∧ p = l.length - k ∧ e = 4 ∧ W = [] := by
  rw [wordsS_ok hl] at h
  cases hm : mR l ⟨0, [], []⟩ with
  | inl k => rw [hm] at h; unfold resW at h; simp at h; exact ⟨k, rfl, h.2.1.symm, h.2.2.symm, h.1⟩
  | inr V => rw [hm] at h; unfold resW at h; simp at h; omega
theorem joins_plain {a b : List UInt8} {Wa Wb : List (List UInt8)} {pa pb ea eb : Nat} (hl : a.length + b.length ≤ 299) (ha : wordsS a = (Wa, pa, ea)) (hb : wordsS b = (Wb, pb, eb)) (h0 : ea = 0) :
    (eb = 0 → wordsS (a ++ 32 :: b) = (Wa ++ Wb, 0, 0)) ∧ (eb ≠ 0 → (wordsS (a ++ 32 :: b)).2.2 = 4) := by
  subst h0
  have h1 := words_inr (by omega) ha
  have h2 := mR_join (x := ⟨0, [], []⟩) (fun _ => rfl) h1 b
  have h3 := mR_pre Wa b ⟨0, [], []⟩
  have e : (⟨0, [], []⟩ : Rdr).pre Wa = ⟨0, [], Wa⟩ := by unfold Rdr.pre; rw [List.append_nil]
  rw [e] at h3
  rw [wordsS_ok (by simp; omega), h2, h3]
  refine ⟨fun h0 => ?_, fun h0 => ?_⟩
  · subst h0
    rw [words_inr (by omega) hb]
    rfl
  · obtain ⟨k, hk, -⟩ := words_inl (by omega) hb h0
    rw [hk]
    rfl
theorem cat_list (a b : ByteArray) : a ++ ⟨#[32]⟩ ++ b = ⟨(a.data.toList ++ 32 :: b.data.toList).toArray⟩ := by
  apply ByteArray.ext
  apply Array.ext'
  simp
theorem wordsV_of {l : List UInt8} {W : List (List UInt8)} {p e : Nat} (h : wordsS l = (W, p, e)) {w : World} {v : Value} (hv : WordsV l w v) : ∃ v0, v = .tuple #[v0, .int .i64 (p : Int), .int .i64 (e : Int)] ∧ Txs W w v0 := by
  unfold WordsV at hv
  rw [h] at hv
  exact hv
theorem words_is {s : ByteArray} {W : List (List UInt8)} {p e : Nat} (h : wordsS s.data.toList = (W, p, e)) (w : World) (hT : Tabs w) (hz : s.size ≤ 140737488355328) :
    Calls Tryd.prog 21 #[.string s] w (Ret w fun w' v => ∃ v0, v = .tuple #[v0, .int .i64 (p : Int), .int .i64 (e : Int)] ∧ Txs W w' v0) :=
  (words_any s w hT hz).mono fun _ _ ⟨v, he, hx, hv⟩ => ⟨v, he, hx, wordsV_of h hv⟩
end Go.Proofs.YtmanflfanoddgabDoor
