/-
  Records of the log: plain, and how they lie in memory.
-/
import Derived.Test.YthdahgekodcloaaDoorOwn
import Derived.Test.YthdahgekodcloaaDoorWds
import Derived.IntWalk
import Derived.Deep.Cut
import Derived.Deep.CutRange
import Derived.Great.BuildSlice
import Derived.Laws.OwnMore
import Derived.Maps.AppendAt
import Derived.BigQuiet
import Derived.Deep.QuietTactic
namespace Go.Proofs.YthdahgekodcloaaDoor
open Go.RowKit

/-- A record. -/
structure Rec where
  k : Int
  tx : Int
  pv : Int
  pg : Int
  off : Int
  bf : List UInt8
  af : List UInt8
  nx : Int
  dl : List (Int × Int)
  op : Bool
/-- Numbers are within their kinds. -/
structure Rec.Ok (r : Rec) : Prop where
  k : 0 ≤ r.k ∧ r.k < 256
  tx : 0 ≤ r.tx ∧ r.tx < 18446744073709551616
  pv : 0 ≤ r.pv ∧ r.pv < 18446744073709551616
  pg : -9223372036854775808 ≤ r.pg ∧ r.pg < 9223372036854775808
  off : -9223372036854775808 ≤ r.off ∧ r.off < 9223372036854775808
  nx : 0 ≤ r.nx ∧ r.nx < 18446744073709551616
  dl : ∀ d ∈ r.dl, (-9223372036854775808 ≤ d.1 ∧ d.1 < 9223372036854775808) ∧ 0 ≤ d.2 ∧ d.2 < 18446744073709551616
  bn : r.bf.length ≤ 140737488351232
  an : r.af.length ≤ 140737488351232
  dn : r.dl.length ≤ 140737488351232
def hok (k : Int) : Bool := decide (1 ≤ k) && decide (k ≤ 6)
def hpv (k : Int) : Bool := decide (2 ≤ k) && decide (k ≤ 6)
def hch (k : Int) : Bool := (k == 2) || (k == 3)
def hbf (k : Int) : Bool := k == 2
def hnx (k : Int) : Bool := k == 3
def hck (k : Int) : Bool := k == 6
def isPg (n : Int) : Bool := decide (0 ≤ n) && decide (n < 4096)
def chgB (r : Rec) (c b : Bool) : Bool := if c then isPg r.pg && (decide (1 ≤ r.af.length) && ((r.bf.length == if b then r.af.length else 0) && (decide (0 ≤ r.off) && decide (r.off ≤ 512 - (r.af.length : Int))))) else (r.pg == 0) && ((r.off == 0) && ((r.af.length == 0) && (r.bf.length == 0)))
/-- The dirty pages rise. -/
def risB : Int → List (Int × Int) → Bool
  | _, [] => true
  | last, d :: l => decide (last < d.1) && (decide (d.1 < 4096) && risB d.1 l)
def chkB (r : Rec) (x : Bool) : Bool := if x then decide (r.dl.length ≤ 64) && risB (-1) r.dl else (r.dl.length == 0) && !r.op
def formR (r : Rec) : Bool := hok r.k && ((hpv r.k || (r.pv == 0)) && ((hnx r.k || (r.nx == 0)) && (chgB r (hch r.k) (hbf r.k) && chkB r (hck r.k))))
/-- The slice at A reads as these dirty pages. -/
def RdD (w : World) (A : Option Addr) (L : List (Int × Int)) : Prop :=
  L ≠ [] → ∃ b off, A = some ⟨b, off, none⟩ ∧ ∀ j d, L[j]? = some d → w.cell? ⟨b, off + j * 2, none⟩ = some (.int .i64 d.1) ∧ w.cell? ⟨b, off + j * 2 + 1, none⟩ = some (.int .u64 d.2)
theorem RdD.nil (w : World) (A : Option Addr) : RdD w A [] := fun h => absurd rfl h
theorem RdD.keep {w w' : World} {A : Option Addr} {L : List (Int × Int)} (h : RdD w A L) (hx : Keeps w w') : RdD w' A L := fun hn => by
  obtain ⟨b, off, hA, hc⟩ := h hn
  exact ⟨b, off, hA, fun j d hj => ⟨hx.cell (hc j d hj).1, hx.cell (hc j d hj).2⟩⟩
theorem RdD.ext {w w' : World} {A : Option Addr} {L : List (Int × Int)} (h : RdD w A L) (hx : Ext w w') : RdD w' A L := h.keep hx.keeps
theorem RdD.at {w : World} {A : Option Addr} {L : List (Int × Int)} (h : RdD w A L) {j : Nat} {d : Int × Int} (hj : L[j]? = some d) : ∃ b off, A = some ⟨b, off, none⟩ ∧ w.cell? ⟨b, off + j * 2, none⟩ = some (.int .i64 d.1) ∧ w.cell? ⟨b, off + j * 2 + 1, none⟩ = some (.int .u64 d.2) := by
  obtain ⟨b, off, hA, hc⟩ := h (by intro e; rw [e] at hj; cases hj)
  exact ⟨b, off, hA, (hc j d hj).1, (hc j d hj).2⟩
/-- Where a record's lists lie, and how much room they have. -/
structure Pls where
  A : Option Addr
  a : Nat
  B : Option Addr
  b : Nat
  D : Option Addr
  d : Nat
/-- A record's ten values. -/
def rcV (r : Rec) (t : Pls) : List Value := [.int .u8 r.k, .int .u64 r.tx, .int .u64 r.pv, .int .i64 r.pg, .int .i64 r.off, .slice t.A r.bf.length t.a, .slice t.B r.af.length t.b, .int .u64 r.nx, .slice t.D r.dl.length t.d, .bool r.op]
/-- A record's lists lie there. -/
structure RcM (w : World) (r : Rec) (t : Pls) : Prop where
  ok : r.Ok
  bf : Rd w t.A r.bf
  af : Rd w t.B r.af
  dl : RdD w t.D r.dl
  bc : r.bf.length ≤ t.a
  ac : r.af.length ≤ t.b
  dc : r.dl.length ≤ t.d
theorem RcM.keep {w w' : World} {r : Rec} {t : Pls} (h : RcM w r t) (hx : Keeps w w') : RcM w' r t := ⟨h.ok, h.bf.keep hx, h.af.keep hx, h.dl.keep hx, h.bc, h.ac, h.dc⟩
theorem RcM.ext {w w' : World} {r : Rec} {t : Pls} (h : RcM w r t) (hx : Ext w w') : RcM w' r t := h.keep hx.keeps
/-- A value of a bool, in a grown world. -/
def RetB (w : World) (b : Bool) (e : Ending) (w' : World) : Prop := e = .returned (.bool b) ∧ Ext w w'
end Go.Proofs.YthdahgekodcloaaDoor
