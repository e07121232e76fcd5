/-
  A record as bytes: the program's Encode, plain.
-/
import Derived.Test.YthdahgekodcloaaDoorRcC
namespace Go.Proofs.YthdahgekodcloaaDoor
open Go.RowKit

/-- A record's bytes but for its sum. -/
def recB (k tx pv pg off nx : Int) (bf af : List UInt8) (L : List (Int × Int)) (op : Bool) : List UInt8 :=
  numN 1 k ++ (numN 8 tx ++ ((if hpv k then numN 8 pv else []) ++ ((if hch k then numN 2 pg ++ (numN 2 off ++ (numN 2 (af.length : Int) ++ (bf ++ af))) else []) ++ ((if hnx k then numN 8 nx else []) ++ (if hck k then numN 1 (cntN L.length op) ++ dirB L else [])))))
def fullB (k tx pv pg off nx : Int) (bf af : List UInt8) (L : List (Int × Int)) (op : Bool) : List UInt8 := recB k tx pv pg off nx bf af L op ++ sumB (recB k tx pv pg off nx bf af L op)
theorem risB_mem : ∀ (L : List (Int × Int)) (last : Int), -1 ≤ last → risB last L = true → ∀ e ∈ L, 0 ≤ e.1 ∧ e.1 < 4096
  | [], _, _, _, e, he => by cases he
  | x :: L, last, hl, h, e, he => by
    simp only [risB, Bool.and_eq_true, decide_eq_true_eq] at h
    rcases List.mem_cons.1 he with rfl | he
    · omega
    · exact risB_mem L x.1 (by omega) h.2.2 e he
def EncP (w : World) (l : List UInt8) (e : Ending) (w' : World) : Prop := ∃ v', e = .returned (.tuple #[v', .int .i64 0]) ∧ Own w' w.heap.size v' l ∧ Ext w w'
theorem own_mono {w : World} {B B' : Nat} {v : Value} {l : List UInt8} (h : Own w B v l) (hB : B' ≤ B) : Own w B' v l := by
  refine ⟨h.1, ?_⟩
  rcases h.2 with hn | ⟨g, cap, cur, rfl, hb, rest⟩
  · exact .inl hn
  · exact .inr ⟨g, cap, cur, rfl, Nat.le_trans hB hb, rest⟩
end Go.Proofs.YthdahgekodcloaaDoor
