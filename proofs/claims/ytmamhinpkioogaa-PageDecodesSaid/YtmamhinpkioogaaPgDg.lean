/-
  firstCell where no cell stands whole; what some bytes read as, plain.
-/
import Derived.Test.YtmamhinpkioogaaPgDf
namespace Go.Proofs.Ytmamhinpkioogaa
open Go.RowKit

/-- The cell in front, and where the rest begins. -/
def firstB (l : List UInt8) : Option (Cl × Nat) := match l with
  | b0 :: b1 :: _ => if 2 + b0.toNat + b1.toNat ≤ l.length then some (((l.drop 2).take b0.toNat, (l.drop (2 + b0.toNat)).take b1.toNat), 2 + b0.toNat + b1.toNat) else none
  | _ => none
/-- So many cells, and what is left. -/
def decC : Nat → List UInt8 → Option (List Cl × List UInt8)
  | 0, l => some ([], l)
  | k + 1, l => match firstB l with
    | none => none
    | some (x, e) => match decC k (l.drop e) with
      | none => none
      | some (L, r) => some (x :: L, r)
set_option maxRecDepth 20000 in
set_option maxHeartbeats 1600000 in
theorem firstCell_no (A : Option Addr) (l : List UInt8) (n c : Nat) (w : World) (hr : Rd w A l) (hn : l.length = n) (hl : n ≤ 1000) (h : firstB l = none) :
    Calls Try.prog 31 #[.slice A n c] w (Ret w (Is (.tuple #[.agg #[.slice none 0 0, .slice none 0 0], .int .i64 0]))) := by
  have hnl : (n : Int) ≤ 1000 := by omega
  obtain ⟨hb, HHB⟩ : ∃ hb, Hid (w.heap.size = hb) := ⟨_, hide rfl⟩
  by_cases h2 : n < 2
  · have hni : (n : Int) < 2 := by omega
    clear hr hn hl h h2
    go_enter Try.func31, Try.ntmps31
    go_upto_region 1 with fail
    obtain ⟨W1, hX1, hR1, hg⟩ : ∃ W1, Ext w W1 ∧ Rw W1 w.heap.size 40 [.slice none 0 0, .slice none 0 0] ∧ w.alloc (.cells #[.slice none 0 0, .slice none 0 0] 40) = W1 := ⟨_, Ext.alloc _ _, Rw.new _ _ _, rfl⟩
    rw [hg]
    have HH := hide (Nat.le_refl w.heap.size)
    have HS : Hid (w.heap.size ≤ hb) := hide (by rw [HHB.out]; exact Nat.le_refl _)
    rw [HHB.out] at hR1 ⊢
    have X1 := hide hX1
    have RB := hide hR1
    have k0 := hR1.cell (i := 0) rfl
    have k1 := hR1.cell (i := 1) rfl
    have f0 := hR1.frozen 0
    have f1 := hR1.frozen 1
    clear hg hX1 hR1
    go_wp2
    have R5 := ((RB.out.set 0 (.slice none 0 0)).set 1 (.slice none 0 0))
    have e0 := R5.cell (i := 0) rfl
    have e1 := R5.cell (i := 1) rfl
    have XE : Ext w ((W1.setCell ⟨hb, 0, none⟩ (.slice none 0 0)).setCell ⟨hb, 1, none⟩ (.slice none 0 0)) := Below.setCell (p := ⟨hb, 1, none⟩) (Below.setCell (p := ⟨hb, 0, none⟩) X1.out HS.out _) HS.out _
    refine bodyPost_ret (v := .tuple #[.agg #[.slice none 0 0, .slice none 0 0], .int .i64 0]) (by simp [results, Try.results31, go_sem, e0, e1]; try rfl) rfl ?_
    exact Ret.mk XE rfl
  · obtain ⟨b0, b1, r, rfl⟩ : ∃ b0 b1 r, l = b0 :: b1 :: r := by
      match l, hn with
      | [], hn => simp at hn; omega
      | [_], hn => simp at hn; omega
      | b0 :: b1 :: r, _ => exact ⟨b0, b1, r, rfl⟩
    obtain ⟨bl, off, rfl, hc⟩ := hr (by simp)
    have m0 := hc 0 b0 rfl
    rw [Nat.add_zero] at m0
    have m1 := hc 1 b1 rfl
    obtain ⟨p, hpp⟩ : ∃ p, b0.toNat = p := ⟨_, rfl⟩
    obtain ⟨q, hqq⟩ : ∃ q, b1.toNat = q := ⟨_, rfl⟩
    have hend : ¬ 2 + p + q ≤ n := by
      intro e
      unfold firstB at h
      simp only [hpp, hqq, hn] at h
      rw [if_pos e] at h
      cases h
    rw [hpp] at m0
    rw [hqq] at m1
    have hni : (2 : Int) ≤ (n : Int) := by omega
    have hp : (p : Int) ≤ 255 := by have := b0.toNat_lt; omega
    have hq : (q : Int) ≤ 255 := by have := b1.toNat_lt; omega
    have hei : (n : Int) < (2 : Int) + (p : Int) + (q : Int) := by omega
    go_enter Try.func31, Try.ntmps31
    go_upto_region 1 with fail
    obtain ⟨W1, hX1, hR1, hg⟩ : ∃ W1, Ext w W1 ∧ Rw W1 w.heap.size 40 [.slice none 0 0, .slice none 0 0] ∧ w.alloc (.cells #[.slice none 0 0, .slice none 0 0] 40) = W1 := ⟨_, Ext.alloc _ _, Rw.new _ _ _, rfl⟩
    rw [hg]
    have HS : Hid (w.heap.size ≤ hb) := hide (by rw [HHB.out]; exact Nat.le_refl _)
    rw [HHB.out] at hR1 ⊢
    have X1 := hide hX1
    have RB := hide hR1
    have M0 := hX1.keeps.cell m0
    have M1 := hX1.keeps.cell m1
    have k0 := hR1.cell (i := 0) rfl
    have k1 := hR1.cell (i := 1) rfl
    have f0 := hR1.frozen 0
    have f1 := hR1.frozen 1
    clear hg hX1 hR1 m0 m1 hc hr hn hl h h2 hend hpp hqq
    go_wp2
    have R5 := ((RB.out.set 0 (.slice none 0 0)).set 1 (.slice none 0 0))
    have e0 := R5.cell (i := 0) rfl
    have e1 := R5.cell (i := 1) rfl
    have XE : Ext w ((W1.setCell ⟨hb, 0, none⟩ (.slice none 0 0)).setCell ⟨hb, 1, none⟩ (.slice none 0 0)) := Below.setCell (p := ⟨hb, 1, none⟩) (Below.setCell (p := ⟨hb, 0, none⟩) X1.out HS.out _) HS.out _
    refine bodyPost_ret (v := .tuple #[.agg #[.slice none 0 0, .slice none 0 0], .int .i64 0]) (by simp [results, Try.results31, go_sem, e0, e1]; try rfl) rfl ?_
    exact Ret.mk XE rfl
/-- firstCell where one stands whole. -/
theorem firstCell_some (A : Option Addr) (l : List UInt8) (n c e : Nat) (x : Cl) (w : World) (hr : Rd w A l) (hn : l.length = n) (hl : n ≤ 1000) (hnc : n ≤ c) (h : firstB l = some (x, e)) :
    e ≤ n ∧ 2 ≤ e ∧ Calls Try.prog 31 #[.slice A n c] w (Ret w (fun W v => ∃ u, v = .tuple #[u, .int .i64 (e : Int)] ∧ CellO w.heap.size x W u)) := by
  obtain ⟨b0, b1, r, rfl⟩ : ∃ b0 b1 r, l = b0 :: b1 :: r := by
    cases l with
    | nil => cases h
    | cons b0 l =>
      cases l with
      | nil => cases h
      | cons b1 r => exact ⟨b0, b1, r, rfl⟩
  unfold firstB at h
  simp only at h
  by_cases hle : 2 + b0.toNat + b1.toNat ≤ (b0 :: b1 :: r).length
  · rw [if_pos hle] at h
    have h' := Option.some.inj h
    have h1 := congrArg Prod.fst h'
    have h2 := congrArg Prod.snd h'
    simp only at h1 h2
    rw [← h1, ← h2]
    rw [hn] at hle
    refine ⟨hle, by omega, ?_⟩
    have := firstCell_yes A (b0 :: b1 :: r) n c b0.toNat b1.toNat w hr hn hl hnc (by rw [← hn]; simp) b0 b1 rfl rfl rfl rfl hle
    have e1 : ((2 + b0.toNat + b1.toNat : Nat) : Int) = 2 + (b0.toNat : Int) + (b1.toNat : Int) := by omega
    rw [e1]
    exact this
  · rw [if_neg hle] at h
    cases h
end Go.Proofs.Ytmamhinpkioogaa
