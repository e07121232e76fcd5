/-
  OctetReads: for every bytes and every place the law answers true: the walk.
-/
import Derived.Test.YtakmkcfljhfkdaaDoorOctK
import Derived.Test.YtakmkcfljhfkdaaDoorOctO
import Derived.Test.YtakmkcfljhfkdaaDoorOctR
namespace Go.Proofs.YtakmkcfljhfkdaaDoor
open Go.RowKit

theorem three_at {P : Program} {f : Nat} {args : Array Value} {w W : World} {k : IntKind} {x : Int × Int × Int} (h : Calls P f args W (Three k x W)) (hx : Ext w W) :
    Calls P f args W fun e w' => e = .returned (.tuple #[.int k x.1, .int .i64 x.2.1, .int .i64 x.2.2]) ∧ Ext w w' :=
  h.mono fun _ _ ⟨he, hw⟩ => ⟨he, by subst hw; exact hx⟩
theorem txt_at {P : Program} {f : Nat} {args : Array Value} {w W : World} {x : List UInt8 × Int × Int} (h : Calls P f args W (Ret W (Is (Txt x)))) (hx : Ext w W) :
    Calls P f args W fun e w' => e = .returned (.tuple #[.string ⟨x.1.toArray⟩, .int .i64 x.2.1, .int .i64 x.2.2]) ∧ Ext w w' :=
  h.mono fun _ _ ⟨_, he, hw, hv⟩ => ⟨by rw [he, hv]; rfl, hx.trans hw⟩

set_option maxRecDepth 20000 in
set_option maxHeartbeats 1600000 in
theorem reads_walk (A : Option Addr) (c : Nat) (l : List UInt8) (at_ : Int) (w : World) (hr : Rd w A l) (hl : l.length ≤ 140737488355328) (ha : at_ ≤ 9223372036854775807) (ht : Tab w) :
    Calls Tryd.prog 4 #[.slice A l.length c, .int .i64 at_] w (Ret w (Is (.bool true))) := by
  obtain ⟨x, hx⟩ : ∃ x, rdNum l at_ = x := ⟨_, rfl⟩
  obtain ⟨y, hy⟩ : ∃ y, rdOrd l at_ = y := ⟨_, rfl⟩
  obtain ⟨z, hz⟩ : ∃ z, rdTxt l at_ = z := ⟨_, rfl⟩
  have K1 := hide fun W (h : Ext w W) => three_at (by have := readUint_any A c l at_ W (hr.ext h) hl ha; rw [hx] at this; exact this) h
  have K2 := hide fun W (h : Ext w W) => three_at (by have := rreadUint_any A c l at_ W (hr.ext h) hl ha; rw [hx] at this; exact this) h
  have K3 := hide fun W (h : Ext w W) => three_at (by have := readInt_any A c l at_ W (hr.ext h) hl ha; rw [hy] at this; exact this) h
  have K4 := hide fun W (h : Ext w W) => three_at (by have := rreadInt_any A c l at_ W (hr.ext h) hl ha; rw [hy] at this; exact this) h
  have K5 := hide fun W (h : Ext w W) => txt_at (by have := readText_any A c l at_ W (hr.ext h) hl ha; rw [hz] at this; exact this) h
  have K6 := hide fun W (h : Ext w W) => txt_at (by have := rreadText_any A c l at_ W (hr.ext h) hl ha; rw [hz] at this; exact this) h
  clear hx hy hz
  obtain ⟨x1, x2, x3⟩ := x
  obtain ⟨y1, y2, y3⟩ := y
  obtain ⟨z1, z2, z3⟩ := z
  go_enter Tryd.func4, Tryd.ntmps4
  go_wp2_with (first
    | (go_at_call 11; refine (awake_any _ ht).mono ?_; rintro e w1 ⟨v, rfl, hw1, rfl⟩)
    | (go_at_call 12; refine (K1.out _ hw1).mono ?_; rintro e w2 ⟨rfl, hw2⟩)
    | (go_at_call 18; refine (K2.out _ hw2).mono ?_; rintro e w3 ⟨rfl, hw3⟩)
    | (go_at_call 14; refine (K3.out _ hw3).mono ?_; rintro e w4 ⟨rfl, hw4⟩)
    | (go_at_call 19; refine (K4.out _ hw4).mono ?_; rintro e w5 ⟨rfl, hw5⟩)
    | (go_at_call 20; refine (K5.out _ hw5).mono ?_; rintro e w6 ⟨rfl, hw6⟩)
    | (go_at_call 21; refine (K6.out _ hw6).mono ?_; rintro e w7 ⟨rfl, hw7⟩))
  go_goals
  go_ret
  exact Ret.mk hw7 rfl
end Go.Proofs.YtakmkcfljhfkdaaDoor
