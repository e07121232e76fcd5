/-
  Lines: the document's example.
-/
import Derived.Test.YtmanflfanoddgabDoorLinW
namespace Go.Proofs.YtmanflfanoddgabDoor
open Go.RowKit

theorem stepM_count {ok : Bool} {r : Nat} {h : List UInt8} {x y : Rdr} (e : stepM ok r h x = some y) : y.o.length ≤ x.o.length + 1 := by
  unfold stepM at e
  repeat' split at e
  all_goals (first | contradiction | (injection e with e; subst e; first | (simp only [List.length_append, List.length_singleton]; omega) | (show _ ≤ _; simp)))
theorem mR_count {l : List UInt8} {x : Rdr} {W : List (List UInt8)} (h : mR l x = .inr W) : W.length ≤ x.o.length + l.length + 1 := by
  induction l using chs_ind generalizing x with
  | h0 =>
    rw [mR_nil] at h
    unfold finM at h
    repeat' split at h
    · contradiction
    · injection h with h; subst h; omega
    · injection h with h; subst h
      simp only [List.length_append, List.length_singleton]
      omega
  | h1 l hne ih =>
    have hl : 0 < l.length := List.length_pos_iff.2 hne
    have hw := Lib.decodeL_width l
    rw [mR_step l hne] at h
    cases hs : stepM (okP (Lib.decodeL l).1 (Lib.decodeL l).2) (Lib.decodeL l).1 (l.take (Lib.decodeL l).2) x with
    | none => rw [hs] at h; contradiction
    | some y =>
      rw [hs] at h
      have h1 := ih h
      have h2 := stepM_count hs
      rw [List.length_drop] at h1
      omega
theorem wordsS_count {l : List UInt8} {W : List (List UInt8)} {p e : Nat} (h : wordsS l = (W, p, e)) : W.length ≤ 301 := by
  unfold wordsS at h
  split at h
  · injection h with h _; subst h; simp
  · cases hm : mR l ⟨0, [], []⟩ with
    | inl k => rw [hm] at h; unfold resW at h; injection h with h _; subst h; simp
    | inr V =>
      rw [hm] at h
      unfold resW at h
      injection h with h _
      subst h
      have := mR_count hm
      simp only [List.length_nil] at this
      omega
theorem words_example : wordsS [97, 32, 34, 98, 32, 99, 34, 32, 34, 100, 92, 34, 101, 34] = ([[97], [98, 32, 99], [100, 34, 101]], 0, 0) := by decide +kernel
set_option maxRecDepth 20000 in
set_option maxHeartbeats 1000000 in
theorem awake_any (w : World) (hT : Tabs w) : Calls Tryd.prog 9 #[] w (Ret w (Is (.bool true))) := by
  have K := hide (show Calls Tryd.prog 21 #[.string ⟨#[97, 32, 34, 98, 32, 99, 34, 32, 34, 100, 92, 34, 101, 34]⟩] w (Ret w fun w' v => ∃ v0, v = .tuple #[v0, .int .i64 0, .int .i64 0] ∧ Txs [[97], [98, 32, 99], [100, 34, 101]] w' v0) from (by
    have h := words_any ⟨#[97, 32, 34, 98, 32, 99, 34, 32, 34, 100, 92, 34, 101, 34]⟩ w hT (by decide)
    unfold WordsV at h
    rw [show wordsS (⟨#[97, 32, 34, 98, 32, 99, 34, 32, 34, 100, 92, 34, 101, 34]⟩ : ByteArray).data.toList = ([[97], [98, 32, 99], [100, 34, 101]], 0, 0) from words_example] at h
    exact h))
  go_enter Tryd.func9, Tryd.ntmps9
  go_wp2_with (go_at_call 21; refine K.out.mono ?_; rintro e w1 ⟨v1, rfl, hx1, v0, rfl, A, c, rfl, hc, hr⟩; obtain ⟨b, off, rfl, hcl⟩ := hr (by simp [tvs]); have c1 := hcl 1 _ rfl; have c2 := hcl 2 _ rfl)
  go_ret
  exact Ret.mk hx1 rfl
end Go.Proofs.YtmanflfanoddgabDoor
