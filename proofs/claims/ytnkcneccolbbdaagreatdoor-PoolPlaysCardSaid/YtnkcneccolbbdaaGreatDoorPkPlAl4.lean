/-
  The program's Format.
  The log in memory, and its small functions.
  Bytes of the call's own that are written over.
  'append(p, s...)', p a slice of bytes of the call's own, s a text.
  Bytes put behind bytes of the call's own: blocks that aren't bytes stay.
  What a call of the log leaves; the program's write.
  How many bytes a record has: the program's sizeOf and wholeSize.
  The log's bytes as far as its parts are there: the program's 'there'.
  bytes.Clone.
  Parts of slices of bytes.
  The program's find.
  The program's End, Room and Release.
-/
import Derived.Lib.AppendStr
import Derived.Laws.Cover3
import Derived.BigQuiet
import Derived.Test.YtnkcneccolbbdaaGreatDoorPkPlAl0
import Derived.Test.YtnkcneccolbbdaaGreatDoorPkPlAl1
import Derived.Test.YtnkcneccolbbdaaGreatDoorPkPlAl3
set_option linter.unusedVariables false
set_option linter.unusedSimpArgs false

namespace Go.Proofs.YtnkcneccolbbdaaGreatDoor
open Go.RowKit

/-- What Format writes. -/
def fmtHd (D : Dk) (at_ : Int) (count : Nat) : Hd := ⟨(nxE D at_ count).toNat, (nxE D at_ count).toNat, 480, 480, 0, count⟩
def fmtB (D : Dk) (at_ : Int) (count : Nat) : List UInt8 := sealB 1 (fmtHd D at_ count).ns []
/-- What Format answers, and the disk behind it. -/
def fmtE (D : Dk) (at_ count : Int) : Int :=
  if fitsE D.dur.length at_ count ≠ 0 then fitsE D.dur.length at_ count else if D.off = true then 8
  else if wE D at_ (fmtB D at_ count.toNat) ≠ 0 then wE D at_ (fmtB D at_ count.toNat) else sE (wD D at_ (fmtB D at_ count.toNat))
def fmtD (D : Dk) (at_ count : Int) : Dk :=
  if fitsE D.dur.length at_ count ≠ 0 then D else if D.off = true then D
  else if wE D at_ (fmtB D at_ count.toNat) ≠ 0 then wD D at_ (fmtB D at_ count.toNat) else sD (wD D at_ (fmtB D at_ count.toNat))
theorem fmtHd_ok {D : Dk} {at_ : Int} {count : Nat} (h : count < 5000) : (fmtHd D at_ count).Ok := by
  have h1 := nxE_range D at_ count
  exact ⟨by show (nxE D at_ count).toNat < _; omega, by show (nxE D at_ count).toNat < _; omega, by show 480 < _; omega, by show 480 < _; omega, by show 0 < _; omega, by show count < _; omega⟩
theorem fits_in {n : Nat} {at_ count : Int} (h : fitsE n at_ count = 0) : 0 ≤ at_ ∧ 4 ≤ count ∧ at_ + 1 + count ≤ (n : Int) := by
  unfold fitsE at h
  split at h
  · cases h
  · omega
theorem fits_two (n : Nat) (at_ count : Int) : fitsE n at_ count = 0 ∨ fitsE n at_ count = 1 := by
  unfold fitsE
  split
  · exact .inr rfl
  · exact .inl rfl
section
variable {B g gd gn c : Nat} {w w1 : World} {A : Option Addr} {D D' : Dk} {r : Value} {e : Ending} {w' : World}
/-- What one call leaves, and then another one. -/
theorem DPost.trans {A1 : Option Addr} {D2 : Dk} {r2 : Value} {e2 : Ending} {w2 : World} (h2 : Dfr g gd gn A w w1) (h3 : Newer w A A1) (h : DPost B g gd gn w1 A1 r2 D2 e2 w2) : DPost B g gd gn w A r2 D2 e2 w2 := by
  obtain ⟨A', c', he, hd, hf, hn⟩ := h
  exact ⟨A', c', he, hd, h2.trans hf h3, h3.trans hn h2.size⟩
end
section
variable {g gd gn c : Nat} {w0 w w1 : World} {A : Option Addr} {D D' : Dk} {r : Value} {e : Ending} {w' : World}
set_option maxHeartbeats 1600000 in
theorem format_any (hx0 : Ext w0 w) (h : DiskAt w0.heap.size w g gd gn A c D) (b : Bd D) (hp : D.pen.length < 900000) (ho : D.ops < 900000) (hT : Tab w0) (at_ count : Int) (h1 : -9223372036854775808 ≤ at_ ∧ at_ < 9223372036854775808) (h2 : -9223372036854775808 ≤ count ∧ count < 9223372036854775808) :
    Calls Tryz.prog 22 #[.pointer (some ⟨g, 0, none⟩), .int .i64 at_, .int .i64 count] w (DPost w0.heap.size g gd gn w A (.int .i64 (fmtE D at_ count)) (fmtD D at_ count)) := by
  have HD := hide h
  have HB := hide b
  have HX0 := hide hx0
  have HT : Hid (Tab w) := hide (hT.ext hx0)
  have hmx := b.ok.max
  have KF := hide (fits_any h b at_ count h1 h2)
  rcases fits_two D.dur.length at_ count with hf | hf
  · obtain ⟨i0, i4, i5⟩ := fits_in hf
    obtain ⟨n, rfl⟩ : ∃ n : Nat, count = (n : Int) := ⟨count.toNat, by omega⟩
    have KN := hide (nextEpoch_any h b at_ n i0 (by omega) (by omega) HT.out)
    rw [hf] at KF
    cases hd : D.off with
    | true =>
      have HE : Hid (fmtE D at_ n = 8 ∧ fmtD D at_ n = D) := hide (by unfold fmtE fmtD; rw [hf, hd]; exact ⟨rfl, rfl⟩)
      have HNA : Hid (nxA D at_ n = (0, 8)) := hide (by unfold nxA; rw [hd]; rfl)
      rw [HNA.out] at KN
      rw [HE.out.1, HE.out.2]
      clear h b hx0 hf hmx hd hp ho hT i0 i4 i5 h1 h2
      go_enter Tryz.func22, Tryz.ntmps22
      go_wp2_with (first
        | (go_at_call 45; (with_reducible refine KF.out.mono ?_); rintro e w2 ⟨rfl, rfl⟩)
        | (go_at_call 46; (with_reducible refine KN.out.mono ?_); rintro e w2 ⟨rfl, hx2⟩; have HX2 := hide hx2; clear hx2))
      go_ret
      exact DPost.same HD.out HX2.out rfl
    | false =>
      have HNA : Hid (nxA D at_ n = (nxE D at_ n, 0)) := hide (by unfold nxA; rw [hd]; rfl)
      rw [HNA.out] at KN
      have hn5 : n < 5000 := by omega
      obtain ⟨q, HQ⟩ : ∃ q, Hid (fmtB D at_ n = q) := ⟨_, hide rfl⟩
      have HFE : Hid (fmtE D at_ n = if wE D at_ q ≠ 0 then wE D at_ q else sE (wD D at_ q)) := hide (by unfold fmtE; rw [hf, if_neg (by decide), hd, if_neg (by decide), Int.toNat_natCast, HQ.out])
      have HFD : Hid (fmtD D at_ n = if wE D at_ q ≠ 0 then wD D at_ q else sD (wD D at_ q)) := hide (by unfold fmtD; rw [hf, if_neg (by decide), hd, if_neg (by decide), Int.toNat_natCast, HQ.out])
      obtain ⟨x, HX⟩ : ∃ x : Nat, Hid (nxE D at_ n = (x : Int)) := ⟨(nxE D at_ n).toNat, hide (by have := nxE_range D at_ n; omega)⟩
      rw [HX.out] at KN
      have HHD : Hid (fmtHd D at_ n = ⟨x, x, 480, 480, 0, n⟩) := hide (by unfold fmtHd; rw [HX.out, Int.toNat_natCast])
      have KW : Hid (∀ W, Ext w W → Calls Tryz.prog 47 #[.pointer (some ⟨g, 0, none⟩), .int .i64 at_, .agg #[.int .u64 (x : Int), .int .u64 (x : Int), .int .u64 480, .int .u64 480, .int .u64 0, .int .u64 (n : Int)]] W (DPost w0.heap.size g gd gn W A (.int .i64 (wE D at_ q)) (wD D at_ q))) := hide (fun W hW => by
        have k := writeHead_any (HD.out.ext hW) HB.out (Nat.le_trans HX0.out.size hW.size) at_ (fmtHd D at_ n) (fmtHd_ok hn5) (HT.out.ext hW)
        rw [show sealB 1 (fmtHd D at_ n).ns [] = q from HQ.out, HHD.out] at k
        exact k)
      have hnw : IntKind.u64.wrap (n : Int) = (n : Int) := by rw [IntKind.wrap_u64]; omega
      obtain ⟨b1, b2, b3, b4⟩ := wD_bd b hp ho at_ q
      obtain ⟨e1, HE1⟩ : ∃ e1, Hid (wE D at_ q = e1) := ⟨_, hide rfl⟩
      obtain ⟨D1, HD1⟩ : ∃ D1, Hid (wD D at_ q = D1) := ⟨_, hide rfl⟩
      rw [HE1.out, HD1.out] at HFE HFD
      have KW : Hid (∀ W, Ext w W → Calls Tryz.prog 47 #[.pointer (some ⟨g, 0, none⟩), .int .i64 at_, .agg #[.int .u64 (x : Int), .int .u64 (x : Int), .int .u64 480, .int .u64 480, .int .u64 0, .int .u64 (n : Int)]] W (DPost w0.heap.size g gd gn W A (.int .i64 e1) D1)) := hide (by rw [← HE1.out, ← HD1.out]; exact KW.out)
      rw [HFE.out, HFD.out]
      have hb1 := b1
      have HB1 : Hid (Bd D1) := hide (by rw [← HD1.out]; exact hb1)
      clear h b hx0 hf hmx hd hp ho hT i0 i4 i5 h1 h2 b1 b2 b3 b4 hb1
      go_enter Tryz.func22, Tryz.ntmps22
      go_upto_region 9 with (first
        | (go_at_call 45; (with_reducible refine KF.out.mono ?_); rintro e w2 ⟨rfl, rfl⟩)
        | (go_at_call 46; (with_reducible refine KN.out.mono ?_); rintro e w2 ⟨rfl, hx2⟩; have XA : Hid (Ext w (w2.alloc (.cells #[.int .u64 (x : Int), .int .u64 (x : Int), .int .u64 480, .int .u64 480, .int .u64 0, .int .u64 (n : Int)] 92))) := hide (hx2.trans (Ext.alloc _ _)); clear hx2)
        | (go_at_call 47; (with_reducible refine (KW.out _ XA.out).mono ?_); rintro e w3 hp3; obtain ⟨A3, c3, rfl, hd3, hf3, hn3⟩ := DPost.pre XA.out hp3; have HD3 := hide hd3; have HF3 := hide hf3; have HN3 := hide hn3; have HX3 : Hid (Ext w0 w3) := hide (Dfr.grown HX0.out HD.out hf3); clear hp3 hd3 hf3 hn3))
      by_cases he1 : e1 = 0
      · rw [if_neg (by simpa using he1), if_neg (by simpa using he1)]
        subst he1
        have KS := hide (sync_uni HD3.out HB1.out HX3.out.size)
        go_wp2_with (go_at_call 33; (with_reducible refine KS.out.mono ?_); rintro e w4 hp4; have HP4 := hide (DPost.trans HF3.out HN3.out hp4); obtain ⟨A4, c4, rfl, -⟩ := hp4)
        go_ret
        exact HP4.out
      · rw [if_pos he1, if_pos he1]
        have hee : (e1 != 0) = true := by simpa using he1
        go_wp2
        go_ret
        exact ⟨A3, c3, rfl, HD3.out, HF3.out, HN3.out⟩
  · have HE : Hid (fmtE D at_ count = 1 ∧ fmtD D at_ count = D) := hide (by unfold fmtE fmtD; rw [hf]; exact ⟨rfl, rfl⟩)
    rw [hf] at KF
    rw [HE.out.1, HE.out.2]
    clear h b hx0 hf hmx hp ho hT h1 h2
    go_enter Tryz.func22, Tryz.ntmps22
    go_wp2_with (go_at_call 45; (with_reducible refine KF.out.mono ?_); rintro e w2 ⟨rfl, rfl⟩)
    go_ret
    exact DPost.same HD.out (Ext.refl _) rfl
end
end Go.Proofs.YtnkcneccolbbdaaGreatDoor
namespace Go.Proofs.YtnkcneccolbbdaaGreatDoor
open Go.RowKit

/-- A log, plain. -/
structure Lg where
  at_ : Nat
  hd : Hd
  sure : Nat
  tail : List UInt8
  held : Nat
/-- The blocks in which it lies. -/
structure Bk where
  q : Nat
  g : Nat
  gd : Nat
  gn : Nat
  A : Option Addr
  c : Nat
  tv : Value
def Bk.has (X : Bk) (k : Nat) : Prop := k = X.q ∨ k = X.g ∨ k = X.gd ∨ k = X.gn ∨ (∃ a, X.A = some a ∧ a.block = k) ∨ X.tv.ownBlock = some k
def logC (g : Nat) (tv : Value) (L : Lg) : List Value :=
  [.pointer (some ⟨g, 0, none⟩), .int .i64 (L.at_ : Int), .int .u64 (L.hd.ep : Int), .int .u64 (L.hd.old : Int), .int .u64 (L.hd.st : Int), .int .u64 (L.hd.fi : Int), .int .u64 (L.hd.ck : Int), .int .u64 (L.hd.cn : Int), .int .u64 (L.sure : Int), tv, .int .i64 (L.held : Int)]
/-- How it lies. -/
structure LgAt (w0 w : World) (X : Bk) (D : Dk) (L : Lg) : Prop where
  ext : Ext w0 w
  disk : DiskAt w0.heap.size w X.g X.gd X.gn X.A X.c D
  blk : Rw w X.q 94 (logC X.g X.tv L)
  tail : Own w w0.heap.size X.tv L.tail
  base : w0.heap.size ≤ X.q
/-- It is a right one, on such a disk. -/
structure Lg.Ok (L : Lg) (D : Dk) : Prop where
  hd : L.hd.Ok
  cn : 4 ≤ L.hd.cn ∧ L.hd.cn ≤ 4096
  at_ : L.at_ + 1 + L.hd.cn ≤ D.dur.length
  sure : L.sure < 1152921504606846976
  tail : L.tail.length < 1073741824
  held : L.held < 1152921504606846976
/-- Nothing but its blocks has turned, and new ones have come. -/
structure Lfr (X : Bk) (w w' : World) : Prop where
  os : w'.os = w.os
  tape : w'.tape = w.tape
  output : w'.output = w.output
  size : w.heap.size ≤ w'.heap.size
  other : ∀ k, k < w.heap.size → ¬ X.has k → w'.heap[k]? = w.heap[k]?
theorem Lfr.ext {X : Bk} {w w' : World} (h : Ext w w') : Lfr X w w' := ⟨h.os, h.tape, h.output, h.size, fun k hk _ => Below.block h k hk⟩
def flo (u : Nat) : Nat := u - u % 480
def secOf (L : Lg) (a : Nat) : Nat := L.at_ + 1 + a / 480 % L.hd.cn
theorem flo_le (u : Nat) : flo u ≤ u := Nat.sub_le _ _
theorem secOf_lt {L : Lg} {D : Dk} (ok : L.Ok D) (a : Nat) : secOf L a < D.dur.length := by
  have h1 := ok.at_
  have h2 := Nat.mod_lt (a / 480) (show 0 < L.hd.cn by have := ok.cn; omega)
  unfold secOf; omega
theorem step_store_rwK {P : Program} {ops : Array Oper} {o : Oper} {a : Act} {w : World} {K : Act → World → Prop} {Q : Exit → Act → World → Prop} {E : Prop} (hgd : Region.wanted o (yielded ops a.tmps) = true) (ty : TypeId) (x y : Operand) (ho : o.op = .store ty x y) (g : Nat) (hx : a.eval x = .pointer (some ⟨g, 0, none⟩)) (us : List Value) (hy : a.eval y = .agg us.toArray)
    (t : TypeId) (vs : List Value) (hr : Rw w g t vs) (n : Nat) (hi : (P.info? ty).map (·.size) = some n) (hn : n = us.length) (hm : vs.length = us.length) (h1 : us.all (·.oneCell') = true)
    (hK : ∀ w', Rw w' g t us → Laid1 g w w' → K (a.put o.dst undef) w') : if Region.wanted o (yielded ops a.tmps) = true then o.wp P a w K Q else E := by
  rw [if_pos hgd]
  refine wp_of_gives (gives_store_rw ty x y ho g hx us hy t vs hr n hi hn hm h1 (R := fun v w' => v = undef ∧ Rw w' g t us ∧ Laid1 g w w') (fun w' h2 h3 => ⟨rfl, h2, h3⟩)) ?_
  rintro v w2 ⟨rfl, h2, h3⟩
  exact hK w2 h2 h3
theorem rd_laid2 {b : Nat} {w w' : World} {P : Option Addr} {l : List UInt8} {t : TypeId} {vs : List Value} (h : Rd w P l) (hr : Rw w b t vs) (hv : ∀ v ∈ vs, ∀ z, v ≠ .int .u8 z) (hl : Laid1 b w w') : Rd w' P l := fun hn => by
  obtain ⟨bb, off, rfl, hc⟩ := h hn
  refine ⟨bb, off, rfl, fun j u hu => ?_⟩
  have h1 := hc j u hu
  have hne : bb ≠ b := fun e => by
    subst e
    exact hv _ (List.mem_of_getElem? (hr.has h1)) _ rfl
  rw [← h1]
  exact World.cell?_of_block (a := ⟨bb, off + j, none⟩) (hl.other bb hne)
theorem box4 {w wa : World} {P : Option Addr} {l : List UInt8} {b : Nat} {t : TypeId} {v0 v1 v2 v3 : Value} (hr : Rw w b t [.int .u64 0, .int .u64 0, .int .u64 0, .slice none 0 0]) (hrd : Rd w P l) (hx : Ext wa w) (hb : wa.heap.size ≤ b) :
    Rw ((((w.setCell ⟨b, 0, none⟩ v0).setCell ⟨b, 1, none⟩ v1).setCell ⟨b, 2, none⟩ v2).setCell ⟨b, 3, none⟩ v3) b t [v0, v1, v2, v3] ∧ Rd ((((w.setCell ⟨b, 0, none⟩ v0).setCell ⟨b, 1, none⟩ v1).setCell ⟨b, 2, none⟩ v2).setCell ⟨b, 3, none⟩ v3) P l ∧ Ext wa ((((w.setCell ⟨b, 0, none⟩ v0).setCell ⟨b, 1, none⟩ v1).setCell ⟨b, 2, none⟩ v2).setCell ⟨b, 3, none⟩ v3) := by
  refine ⟨(((hr.set 0 v0).set 1 v1).set 2 v2).set 3 v3, fun hn => ?_, ?_⟩
  · obtain ⟨bb, off, rfl, hc⟩ := hrd hn
    refine ⟨bb, off, rfl, fun j u hu => ?_⟩
    have h1 := hc j u hu
    have hne : bb ≠ b := fun e => by
      subst e
      have := List.mem_of_getElem? (hr.has h1)
      simp at this
    rw [← h1]
    refine World.cell?_of_block (a := ⟨bb, off + j, none⟩) ?_
    show _ = w.heap[bb]?
    rw [Below.heap_setCell _ ⟨b, 3, none⟩ _ bb hne, Below.heap_setCell _ ⟨b, 2, none⟩ _ bb hne, Below.heap_setCell _ ⟨b, 1, none⟩ _ bb hne, Below.heap_setCell _ ⟨b, 0, none⟩ _ bb hne]
  · exact Below.setCell (p := ⟨b, 3, none⟩) (Below.setCell (p := ⟨b, 2, none⟩) (Below.setCell (p := ⟨b, 1, none⟩) (Below.setCell (p := ⟨b, 0, none⟩) hx hb _) hb _) hb _) hb _
theorem floor_any (u : Nat) (w : World) (h : u < 18446744073709551616) : Calls Tryz.prog 75 #[.int .u64 (u : Int)] w (Same w (.int .u64 (flo u : Int))) := by
  have e : ((flo u : Nat) : Int) = (u : Int) - (u : Int) % 480 := by unfold flo; have := Nat.mod_le u 480; omega
  have hw : IntKind.u64.wrap ((u : Int) - (u : Int) % 480) = (u : Int) - (u : Int) % 480 := by rw [IntKind.wrap_u64]; omega
  have hw2 : IntKind.u64.wrap ((u : Int) % 480) = (u : Int) % 480 := by rw [IntKind.wrap_u64]; omega
  rw [e]
  clear e
  go_enter Tryz.func75, Tryz.ntmps75
  go_wp2
  go_ret
  exact ⟨by first | rfl | simp [*], rfl⟩
section
variable {w0 w : World} {X : Bk} {D : Dk} {L : Lg}
theorem LgAt.ext_ {w' : World} (h : LgAt w0 w X D L) (hx : Ext w w') : LgAt w0 w' X D L := ⟨h.ext.trans hx, h.disk.ext hx, h.blk.ext hx, h.tail.ext hx, h.base⟩
theorem log_cells (h : LgAt w0 w X D L) : w.cell? ⟨X.q, 0, none⟩ = some (.pointer (some ⟨X.g, 0, none⟩)) ∧ w.cell? ⟨X.q, 1, none⟩ = some (.int .i64 (L.at_ : Int)) ∧ w.cell? ⟨X.q, 2, none⟩ = some (.int .u64 (L.hd.ep : Int)) ∧ w.cell? ⟨X.q, 3, none⟩ = some (.int .u64 (L.hd.old : Int)) ∧ w.cell? ⟨X.q, 4, none⟩ = some (.int .u64 (L.hd.st : Int)) ∧ w.cell? ⟨X.q, 5, none⟩ = some (.int .u64 (L.hd.fi : Int)) ∧ w.cell? ⟨X.q, 6, none⟩ = some (.int .u64 (L.hd.ck : Int)) ∧ w.cell? ⟨X.q, 7, none⟩ = some (.int .u64 (L.hd.cn : Int)) ∧ w.cell? ⟨X.q, 8, none⟩ = some (.int .u64 (L.sure : Int)) ∧ w.cell? ⟨X.q, 9, none⟩ = some X.tv ∧ w.cell? ⟨X.q, 10, none⟩ = some (.int .i64 (L.held : Int)) :=
  ⟨h.blk.cell (i := 0) rfl, h.blk.cell (i := 1) rfl, h.blk.cell (i := 2) rfl, h.blk.cell (i := 3) rfl, h.blk.cell (i := 4) rfl, h.blk.cell (i := 5) rfl, h.blk.cell (i := 6) rfl, h.blk.cell (i := 7) rfl, h.blk.cell (i := 8) rfl, h.blk.cell (i := 9) rfl, h.blk.cell (i := 10) rfl⟩
theorem tailAt_any (h : LgAt w0 w X D L) (ok : L.Ok D) : Calls Tryz.prog 55 #[.pointer (some ⟨X.q, 0, none⟩)] w (Same w (.int .u64 (flo L.sure : Int))) := by
  have c8 := h.blk.cell (i := 8) rfl
  have KF := hide (floor_any L.sure w (by have := ok.sure; omega))
  clear h ok
  go_enter Tryz.func55, Tryz.ntmps55
  go_wp2_with (go_at_call 75; (with_reducible refine KF.out.mono ?_); rintro e w2 ⟨rfl, rfl⟩)
  go_ret
  exact ⟨rfl, rfl⟩
set_option maxHeartbeats 800000 in
theorem sector_any (h : LgAt w0 w X D L) (ok : L.Ok D) (b : D.Ok) (a : Nat) (ha : a < 18446744073709551616) : Calls Tryz.prog 79 #[.pointer (some ⟨X.q, 0, none⟩), .int .u64 (a : Int)] w (fun e w' => e = .returned (.int .i64 (secOf L a : Int)) ∧ Ext w w') := by
  have c1 := h.blk.cell (i := 1) rfl
  have c7 := h.blk.cell (i := 7) rfl
  obtain ⟨hcn, hcn2⟩ := ok.cn
  have hat := ok.at_
  have hmx := b.max
  have hsl := secOf_lt ok a
  obtain ⟨s, HS⟩ : ∃ s, Hid (secOf L a = s) := ⟨_, hide rfl⟩
  have HSE : Hid ((s : Int) = (L.at_ : Int) + 1 + (a : Int) / 480 % (L.hd.cn : Int)) := hide (by rw [← HS.out]; unfold secOf; simp only [Int.natCast_add, Int.natCast_emod, Int.natCast_ediv]; rfl)
  rw [HS.out] at hsl ⊢
  generalize L.at_ = at_ at *
  generalize L.hd.cn = cn at *
  have hne : ¬ (cn : Int) = 0 := by omega
  have hne2 : ((cn : Int) == 0) = false := by simpa using hne
  have hc4 : (4 : Int) ≤ (cn : Int) := by omega
  have hmod0 : 0 ≤ (a : Int) / 480 % (cn : Int) := Int.emod_nonneg _ hne
  have hmod1 : (a : Int) / 480 % (cn : Int) < (cn : Int) := Int.emod_lt_of_pos _ (by omega)
  have hw1 : IntKind.i64.wrap ((at_ : Int) + 1) = (at_ : Int) + 1 := by rw [IntKind.wrap_i64]; omega
  have hw2 : IntKind.i64.wrap ((a : Int) / 480 % (cn : Int)) = (a : Int) / 480 % (cn : Int) := by rw [IntKind.wrap_i64]; omega
  have hw3 : IntKind.i64.wrap ((at_ : Int) + 1 + (a : Int) / 480 % (cn : Int)) = (at_ : Int) + 1 + (a : Int) / 480 % (cn : Int) := by rw [IntKind.wrap_i64]; omega
  clear h ok b hsl hat hmx hmod0 hmod1
  go_enter Tryz.func79, Tryz.ntmps79
  go_wp2
  go_region
  go_wp2
  go_ret
  exact ⟨by rw [HSE.out]; rfl, Ext.drew _⟩
/-- The part in which a place stands: is it there, its epoch and bytes. -/
def ptThere (D : Dk) (L : Lg) (a : Nat) : Bool := ptIs D (secOf L a) && decide ((ptAt D (secOf L a)).num = ((a / 480 : Nat) : Int))
def PartPost (D : Dk) (L : Lg) (a : Nat) (w : World) (e : Ending) (w' : World) : Prop :=
  ∃ P c, e = .returned (.tuple #[.agg #[.int .u64 (ptAt D (secOf L a)).num, .int .u64 (ptAt D (secOf L a)).ep, .int .u64 (ptAt D (secOf L a)).sz, .slice P (ptAt D (secOf L a)).by_.length c], .bool (ptThere D L a), .int .i64 (gE D (secOf L a))]) ∧ (ptAt D (secOf L a)).by_.length ≤ c ∧ Rd w' P (ptAt D (secOf L a)).by_ ∧ Ext w w'
set_option maxHeartbeats 1600000 in
theorem part_any (h : LgAt w0 w X D L) (ok : L.Ok D) (b : Bd D) (a : Nat) (ha : a < 18446744073709551616) (hT : Tab w0) : Calls Tryz.prog 96 #[.pointer (some ⟨X.q, 0, none⟩), .int .u64 (a : Int)] w (PartPost D L a w) := by
  have HL := hide h
  have HT : Hid (Tab w) := hide (hT.ext h.ext)
  have HB := hide b
  have KS := hide (fun (W : World) (hW : Ext w W) => sector_any (h.ext_ hW) ok b.ok a ha)
  have KR := hide (fun (W : World) (hW : Ext w W) => readPart_any (HL.out.disk.ext hW) HB.out (secOf L a : Int) (HT.out.ext hW))
  obtain ⟨s, HS⟩ : ∃ s : Int, Hid ((secOf L a : Int) = s) := ⟨_, hide rfl⟩
  unfold PartPost
  rw [HS.out] at KS KR ⊢
  obtain ⟨P0, HP0⟩ : ∃ P0, Hid (ptAt D s = P0) := ⟨_, hide rfl⟩
  obtain ⟨q, HQ⟩ : ∃ q, Hid (ptIs D s = q) := ⟨_, hide rfl⟩
  obtain ⟨ge, HG⟩ : ∃ ge, Hid (gE D s = ge) := ⟨_, hide rfl⟩
  have HTH : Hid (ptThere D L a = (q && decide (P0.num = ((a / 480 : Nat) : Int)))) := hide (by unfold ptThere; rw [HS.out, HP0.out, HQ.out])
  rw [HP0.out, HG.out, HTH.out]
  obtain ⟨r0, hr0⟩ : ∃ r0, w.heap.size = r0 := ⟨_, rfl⟩
  obtain ⟨wa, HWA⟩ : ∃ wa, Hid (w.alloc (.cells #[.int .u64 0, .int .u64 0, .int .u64 0, .slice none 0 0] 121) = wa) := ⟨_, hide rfl⟩
  have HXA : Hid (Ext w wa) := hide (by rw [← HWA.out]; exact Ext.alloc _ _)
  have HRA : Hid (Rw wa r0 121 [.int .u64 0, .int .u64 0, .int .u64 0, .slice none 0 0]) := hide (by rw [← HWA.out, ← hr0]; exact Rw.new w 121 [.int .u64 0, .int .u64 0, .int .u64 0, .slice none 0 0])
  have c0 := (h.blk.ext HXA.out).cell (i := 0) rfl
  clear h ok b
  go_enter Tryz.func96, Tryz.ntmps96
  go_upto_region 1 with fail
  rw [HWA.out]
  have c0a := ((HL.out.blk.ext HXA.out).ext (Ext.alloc wa (.cells #[.int .u64 0, .int .u64 0, .int .u64 0, .slice none 0 0] 121))).cell (i := 0) rfl
  have HR0 : Hid (r0 < wa.heap.size) := hide HRA.out.lt
  go_cut [7, 8, 9] from 10 to 21 (fun p x y wx => ∃ b7 P pc, p = .pointer (some ⟨b7, 0, none⟩) ∧ x = .bool q ∧ y = .int .i64 ge ∧ Hid (Rw wx b7 121 [.int .u64 P0.num, .int .u64 P0.ep, .int .u64 P0.sz, .slice P P0.by_.length pc]) ∧ Hid (P0.by_.length ≤ pc) ∧ Hid (Rd wx P P0.by_) ∧ Hid (Ext wa wx) ∧ Hid (wa.heap.size ≤ b7))
  · go_region_law (first
      | (go_simp; go_at_call 79; (with_reducible refine (KS.out _ (by first | exact (HXA.out.trans (Ext.drew _)) | exact ((HXA.out.trans (Ext.drew _)).trans (Ext.alloc _ _)))).mono ?_); rintro e w2 ⟨rfl, hx2⟩; have HE2 := hide hx2; have HX2 : Hid (Ext wa w2) := hide (by first | exact ((Ext.drew _).trans hx2) | exact (((Ext.drew _).trans (Ext.alloc _ _)).trans hx2)); have c0b := (HL.out.blk.ext (HXA.out.trans HX2.out)).cell (i := 0) rfl; have c0c := ((HL.out.blk.ext (HXA.out.trans HX2.out)).ext (Ext.alloc w2 (.cells #[.int .u64 0, .int .u64 0, .int .u64 0, .slice none 0 0] 121))).cell (i := 0) rfl; clear hx2)
      | (go_simp; go_at_call 71; (with_reducible refine (KR.out _ (by first | exact (HXA.out.trans HX2.out) | exact ((HXA.out.trans HX2.out).trans (Ext.alloc _ _)))).mono ?_); rintro e w3 ⟨P, pc, rfl, hpc, hrp, hx3⟩; rw [HP0.out] at hpc hrp; rw [HP0.out, HQ.out, HG.out]; have HE3 := hide hx3; have HX3 : Hid (Ext wa w3) := hide (by first | exact (HX2.out.trans hx3) | exact ((HX2.out.trans (Ext.alloc _ _)).trans hx3)); have HPC := hide hpc; have HRP := hide hrp; clear hx3 hpc hrp; first | (have hqq : Ext wa.drew w2 := HE2.out; try (obtain ⟨b7, hb7⟩ : ∃ b7, w2.heap.size = b7 := ⟨_, rfl⟩; have HR7 : Rw w3 b7 121 [.int .u64 0, .int .u64 0, .int .u64 0, .slice none 0 0] := (by rw [← hb7]; exact (Rw.new w2 121 [.int .u64 0, .int .u64 0, .int .u64 0, .slice none 0 0]).ext HE3.out); have k0 := HR7.cell (i := 0) rfl; have k1 := HR7.cell (i := 1) rfl; have k2 := HR7.cell (i := 2) rfl; have k3 := HR7.cell (i := 3) rfl; have z0 := HR7.frozen 0; have z1 := HR7.frozen 1; have z2 := HR7.frozen 2; have z3 := HR7.frozen 3; have HR8 := hide HR7; clear HR7)) | (obtain ⟨b7, hb7⟩ : ∃ b7, wa.heap.size = b7 := ⟨_, rfl⟩; have HR7 : Rw w3 b7 121 [.int .u64 0, .int .u64 0, .int .u64 0, .slice none 0 0] := (by rw [← hb7]; exact (((Rw.new wa 121 [.int .u64 0, .int .u64 0, .int .u64 0, .slice none 0 0]).ext (Ext.drew _)).ext HE2.out).ext HE3.out); have k0 := HR7.cell (i := 0) rfl; have k1 := HR7.cell (i := 1) rfl; have k2 := HR7.cell (i := 2) rfl; have k3 := HR7.cell (i := 3) rfl; have z0 := HR7.frozen 0; have z1 := HR7.frozen 1; have z2 := HR7.frozen 2; have z3 := HR7.frozen 3; have HR8 := hide HR7; clear HR7)))
    all_goals (go_wp2_with fail; go_meet)
    all_goals first
      | (have h8 := HR8.out; have hbb : wa.heap.size ≤ b7 := (by have := HX2.out.size; omega); obtain ⟨q1, q2, q3⟩ := box4 (v0 := .int .u64 P0.num) (v1 := .int .u64 P0.ep) (v2 := .int .u64 P0.sz) (v3 := .slice P P0.by_.length pc) HR8.out HRP.out HX3.out hbb; exact ⟨b7, P, pc, rfl, rfl, rfl, hide q1, HPC, hide q2, hide q3, hide hbb⟩)
      | exact ⟨_, P, pc, rfl, rfl, rfl, hide (Rw.new w3 121 [.int .u64 P0.num, .int .u64 P0.ep, .int .u64 P0.sz, .slice P P0.by_.length pc]), HPC, hide (HRP.out.ext (Ext.alloc _ _)), hide (HX3.out.trans (Ext.alloc _ _)), hide HX3.out.size⟩
  obtain ⟨b7, P, pc, rfl, rfl, rfl, HB7, HPC, HRP, HXC, HB⟩ := hcut
  have HR9 : Hid (Rw wc r0 121 [.int .u64 0, .int .u64 0, .int .u64 0, .slice none 0 0]) := hide (HRA.out.ext HXC.out)
  have hne1 : ¬ b7 = r0 := by have := HB.out; have := HR0.out; omega
  have hne2 : ¬ r0 = b7 := fun e => hne1 e.symm
  have k0 := HB7.out.cell (i := 0) rfl
  have k1 := HB7.out.cell (i := 1) rfl
  have k2 := HB7.out.cell (i := 2) rfl
  have k3 := HB7.out.cell (i := 3) rfl
  have l0 := HR9.out.cell (i := 0) rfl
  have l1 := HR9.out.cell (i := 1) rfl
  have l2 := HR9.out.cell (i := 2) rfl
  have l3 := HR9.out.cell (i := 3) rfl
  have z0 := HR9.out.frozen 0
  have z1 := HR9.out.frozen 1
  have z2 := HR9.out.frozen 2
  have z3 := HR9.out.frozen 3
  obtain ⟨y, HY⟩ : ∃ y : Int, Hid (((a / 480 : Nat) : Int) = y) := ⟨_, hide rfl⟩
  have hya : (a : Int) / 480 = y := by rw [← HY.out]; omega
  have HRR : Hid (w.heap.size ≤ r0) := hide (Nat.le_of_eq hr0)
  clear c0 c0a hr0
  cases q with
  | false =>
    go_wp2
    go_region
    obtain ⟨q1, q2, q3⟩ := box4 (v0 := .int .u64 P0.num) (v1 := .int .u64 P0.ep) (v2 := .int .u64 P0.sz) (v3 := .slice P P0.by_.length pc) HR9.out HRP.out (HXA.out.trans HXC.out) HRR.out
    replace q1 := q1.ext (Ext.drew _)
    replace q2 := q2.ext (Ext.drew _)
    replace q3 := q3.trans (Ext.drew _)
    clear k0 k1 k2 k3 l0 l1 l2 l3 z0 z1 z2 z3
    generalize ((((wc.setCell ⟨r0, 0, none⟩ (.int .u64 P0.num)).setCell ⟨r0, 1, none⟩ (.int .u64 P0.ep)).setCell ⟨r0, 2, none⟩ (.int .u64 P0.sz)).setCell ⟨r0, 3, none⟩ (.slice P P0.by_.length pc)).drew = wz at *
    have d0 := q1.cell (i := 0) rfl
    have d1 := q1.cell (i := 1) rfl
    have d2 := q1.cell (i := 2) rfl
    have d3 := q1.cell (i := 3) rfl
    have Q2 := hide q2
    have Q3 := hide q3
    clear q1 q2 q3
    go_wp2
    refine bodyPost_ret (by simp [results, Tryz.results96, go_sem, d0, d1, d2, d3]; try rfl) rfl ?_
    refine ⟨P, pc, ?_, HPC.out, Q2.out, Q3.out⟩
    rw [HY.out]
    rfl
  | true =>
    go_wp2
    go_region
    obtain ⟨q1, q2, q3⟩ := box4 (v0 := .int .u64 P0.num) (v1 := .int .u64 P0.ep) (v2 := .int .u64 P0.sz) (v3 := .slice P P0.by_.length pc) HR9.out HRP.out (HXA.out.trans HXC.out) HRR.out
    replace q1 := q1.ext (Ext.drew _)
    replace q2 := q2.ext (Ext.drew _)
    replace q3 := q3.trans (Ext.drew _)
    clear k0 k1 k2 k3 l0 l1 l2 l3 z0 z1 z2 z3
    generalize ((((wc.setCell ⟨r0, 0, none⟩ (.int .u64 P0.num)).setCell ⟨r0, 1, none⟩ (.int .u64 P0.ep)).setCell ⟨r0, 2, none⟩ (.int .u64 P0.sz)).setCell ⟨r0, 3, none⟩ (.slice P P0.by_.length pc)).drew = wz at *
    have d0 := q1.cell (i := 0) rfl
    have d1 := q1.cell (i := 1) rfl
    have d2 := q1.cell (i := 2) rfl
    have d3 := q1.cell (i := 3) rfl
    have Q2 := hide q2
    have Q3 := hide q3
    clear q1 q2 q3
    go_wp2
    refine bodyPost_ret (by simp [results, Tryz.results96, go_sem, d0, d1, d2, d3]; try rfl) rfl ?_
    refine ⟨P, pc, ?_, HPC.out, Q2.out, Q3.out⟩
    rw [HY.out]
    rfl
end
end Go.Proofs.YtnkcneccolbbdaaGreatDoor
namespace Go.Proofs.YtnkcneccolbbdaaGreatDoor
open Go.RowKit

theorem own_set {w : World} {B e size n : Nat} {v : Value} {vs : List Value} (h : w.ownsRow B e size v n vs) {g : Nat} (hg : v.ownBlock = some g) (k : Nat) (u : Value) : (w.setCell ⟨g, k, none⟩ u).ownsRow B e size v n (vs.set k u) := by
  refine ⟨by rw [List.length_set]; exact h.1, ?_⟩
  rcases h.2 with ⟨rfl, _⟩ | ⟨g', cap, cur, rfl, hb, hg', hnc, hcm, hcs, ht⟩
  · cases hg
  · obtain rfl : g' = g := by
      have : (Value.slice (some ⟨g', 0, none⟩) n cap).ownBlock = some g' := rfl
      rw [this] at hg
      exact Option.some.inj hg
    refine .inr ⟨g', cap, cur.setIfInBounds k u, rfl, hb, ?_, hnc, hcm, by simpa using hcs, ?_⟩
    · simp [World.setCell, Array.getElem?_modify, hg']
    · rw [← ht, Array.toList_setIfInBounds, List.take_set]
theorem own_cell {w : World} {B e size n c : Nat} {g : Nat} {vs : List Value} (h : w.ownsRow B e size (.slice (some ⟨g, 0, none⟩) n c) n vs) {k : Nat} {u : Value} (hk : vs[k]? = some u) : w.cell? ⟨g, k, none⟩ = some u ∧ w.frozen? ⟨g, k, none⟩ = false := by
  rcases h.2 with ⟨hv, _⟩ | ⟨g', cap, cur, hv, hb, hg', rest⟩
  · cases hv
  · injection hv with hA
    injection hA with hA
    injection hA with hA
    subst hA
    have := h.cells (g := g) rfl k u hk
    rw [add_flat, Nat.zero_add] at this
    exact ⟨this, by simp [World.frozen?, hg']⟩
/-- Where it lies. -/
theorem own_block {w : World} {B e size n : Nat} {v : Value} {vs : List Value} (h : w.ownsRow B e size v n vs) : ∀ k, v.ownBlock = some k → B ≤ k ∧ k < w.heap.size ∧ ∃ cs fr, w.heap[k]? = some (.cells cs e fr) := fun k hk => by
  rcases h.2 with ⟨rfl, _⟩ | ⟨g, cap, cur, rfl, hb, hg, _⟩
  · cases hk
  · obtain rfl : g = k := by
      have : (Value.slice (some ⟨g, 0, none⟩) n cap).ownBlock = some g := rfl
      rw [this] at hk
      exact Option.some.inj hk
    exact ⟨hb, (Array.getElem?_eq_some_iff.1 hg).1, _, _, hg⟩
theorem own_apart {w : World} {B B' e e' size size' n n' : Nat} {v v' : Value} {vs vs' : List Value} (h : w.ownsRow B e size v n vs) (h' : w.ownsRow B' e' size' v' n' vs') (ht : e ≠ e') : ∀ k, v.ownBlock = some k → v'.ownBlock ≠ some k := fun k hk hk' => by
  obtain ⟨_, _, cs, fr, h1⟩ := own_block h k hk
  obtain ⟨_, _, cs', fr', h2⟩ := own_block h' k hk'
  rw [h1] at h2
  injection h2 with h2
  injection h2 with _ h3 _
  exact ht h3
/-- It stays, if another block is written. -/
theorem own_other {w : World} {B e size n : Nat} {v : Value} {vs : List Value} (h : w.ownsRow B e size v n vs) {g : Nat} (hg : v.ownBlock ≠ some g) (k : Nat) (u : Value) : (w.setCell ⟨g, k, none⟩ u).ownsRow B e size v n vs := by
  refine ⟨h.1, ?_⟩
  rcases h.2 with hn | ⟨g', cap, cur, rfl, hb, hg', rest⟩
  · exact .inl hn
  · exact .inr ⟨g', cap, cur, rfl, hb, (Below.heap_setCell w ⟨g, k, none⟩ u g' (fun e => hg (by rw [show (Value.slice (some ⟨g', 0, none⟩) n cap).ownBlock = some g' from rfl]; exact congrArg some e))).trans hg', rest⟩
theorem own_ext {w w' : World} {B e size n : Nat} {v : Value} {vs : List Value} (h : w.ownsRow B e size v n vs) (hx : Ext w w') : w'.ownsRow B e size v n vs := by
  refine ⟨h.1, ?_⟩
  rcases h.2 with hn | ⟨g, cap, cur, rfl, hb, hg, rest⟩
  · exact .inl hn
  · exact .inr ⟨g, cap, cur, rfl, hb, (Below.block hx g (Array.getElem?_eq_some_iff.1 hg).1).trans hg, rest⟩
/-- A slice of the call's own of so many bytes, whatever they are. -/
def AnyB (w : World) (B : Nat) (v : Value) (n : Nat) : Prop := ∃ us : List Value, (∀ j, j < n → ∃ z : Int, us[j]? = some (.int .u8 z)) ∧ w.ownsRow B 5 1 v n us
theorem AnyB.of {w : World} {B : Nat} {v : Value} {l : List UInt8} (h : Own w B v l) : AnyB w B v l.length := by
  refine ⟨bs l, fun j hj => ?_, h⟩
  rw [bs_get, List.getElem?_eq_getElem hj]
  exact ⟨_, rfl⟩
theorem AnyB.ext {w w' : World} {B n : Nat} {v : Value} (h : AnyB w B v n) (hx : Ext w w') : AnyB w' B v n := by
  obtain ⟨us, h1, h2⟩ := h
  exact ⟨us, h1, own_ext h2 hx⟩
theorem AnyB.set {w : World} {B n : Nat} {v : Value} (h : AnyB w B v n) (g k : Nat) (z : Int) : AnyB (w.setCell ⟨g, k, none⟩ (.int .u8 z)) B v n := by
  obtain ⟨us, h1, h2⟩ := h
  by_cases hg : v.ownBlock = some g
  · refine ⟨us.set k (.int .u8 z), fun j hj => ?_, own_set h2 hg k _⟩
    rw [List.getElem?_set]
    obtain ⟨y, hy⟩ := h1 j hj
    split
    · rename_i e
      subst e
      obtain ⟨hl, -⟩ := List.getElem?_eq_some_iff.1 hy
      rw [if_pos hl]
      exact ⟨_, rfl⟩
    · exact ⟨y, hy⟩
  · exact ⟨us, h1, own_other h2 hg k _⟩
theorem AnyB.slice {w : World} {B n : Nat} {v : Value} (h : AnyB w B v n) : ∃ A c, v = .slice A n c := by
  obtain ⟨us, h1, h2⟩ := h
  rcases h2.2 with ⟨rfl, h0⟩ | ⟨g, cap, cur, rfl, _⟩
  · exact ⟨none, 0, by rw [h0]⟩
  · exact ⟨_, _, rfl⟩
theorem AnyB.at {w : World} {B n c : Nat} {A : Option Addr} (h : AnyB w B (.slice A n c) n) {k : Nat} (hk : k < n) : ∃ g z, A = some ⟨g, 0, none⟩ ∧ B ≤ g ∧ w.cell? ⟨g, k, none⟩ = some (.int .u8 z) ∧ w.frozen? ⟨g, k, none⟩ = false := by
  obtain ⟨us, h1, h2⟩ := h
  obtain ⟨z, hz⟩ := h1 k hk
  rcases h2.2 with ⟨hv, h0⟩ | ⟨g, cap, cur, hv, hb, _⟩
  · omega
  · injection hv with hA
    subst hA
    exact ⟨g, z, rfl, hb, (own_cell h2 hz).1, (own_cell h2 hz).2⟩
end Go.Proofs.YtnkcneccolbbdaaGreatDoor
namespace Go.Proofs.YtnkcneccolbbdaaGreatDoor
open Go.RowKit

theorem bs_str (s : ByteArray) : Lib.strCells s = bs s.data.toList := rfl
section
variable {ops : Array Oper} {rest : List Oper} {o : Oper} {a : Act} {Q : Exit → Act → World → Prop} {w : World}
theorem wpList_catS (hgd : o.guard = none) (sl x : Operand) (ho : o.op = .call { callee := .builtin .append, args := #[sl, x], argTypes := #[32, 9] })
    (base : Nat) (v : Value) (l : List UInt8) (s : ByteArray) (hs : a.eval sl = v) (hx : a.eval x = .string s) (hown : Own w base v l) (hbase : base ≤ w.heap.size) (hlen : l.length + s.size ≤ 140737488355328)
    (h : ∀ v' w', Own w' base v' (l ++ s.data.toList) → Below base w w' → wpList Tryz.prog ops Q rest (a.put o.dst v') w') : wpList Tryz.prog ops Q (o :: rest) a w := by
  obtain ⟨i0, hi, hz0, hz1, hz2⟩ := info_parts info_u8
  refine Lib.wpList_append_own_string w hgd sl x _ _ ho base 5 i0 Tryz.underlying32 Tryz.underlying9 hi hz0 hz1 hz2 v l.length (bs l) hs hown s hx (by unfold maxLen; omega) hlen hbase ?_
  intro v' w' h2 h3 _
  refine h v' w' ?_ ((Below.refl _ _).grown h3 hbase (fun k hk => (hown.lt k hk).1))
  have e : l.length + s.size = (l ++ s.data.toList).length := by rw [List.length_append]; rfl
  rw [e, bs_str, ← bs_append] at h2
  exact h2
end
end Go.Proofs.YtnkcneccolbbdaaGreatDoor
namespace Go.Proofs.YtnkcneccolbbdaaGreatDoor
open Go.RowKit

/-- Blocks that aren't bytes stay. -/
def Stay (w w' : World) : Prop := ∀ (g : Nat) (t : TypeId) (vs : List Value), t ≠ 5 → Rw w g t vs → Rw w' g t vs
theorem Stay.ext {w w' : World} (h : Ext w w') : Stay w w' := fun _ _ _ _ hr => hr.ext h
theorem Stay.trans {a b c : World} (h : Stay a b) (k : Stay b c) : Stay a c := fun g t vs ht hr => k g t vs ht (h g t vs ht hr)
theorem own_apartR {w : World} {B g : Nat} {t : TypeId} {v : Value} {l : List UInt8} {vs : List Value} (h : Rw w g t vs) (ht : t ≠ 5) (ho : Own w B v l) : some g ≠ v.ownBlock := fun e => by
  rcases ho.2 with ⟨rfl, _⟩ | ⟨g2, cap, cur, rfl, _, hg, _⟩
  · cases e
  · injection e with e
    subst e
    unfold Rw at h
    rw [hg] at h
    injection h with h
    injection h with _ h2
    exact ht h2.symm
/-- A block of another kind stays. -/
theorem Rw.grown {w w' : World} {B g : Nat} {t : TypeId} {v : Value} {l : List UInt8} {vs : List Value} (h : Rw w g t vs) (ht : t ≠ 5) (ho : Own w B v l) (hg : w.grownBy w' v.ownBlock) : Rw w' g t vs :=
  (hg.block g h.lt (own_apartR h ht ho)).trans h
section
variable {ops : Array Oper} {rest : List Oper} {o : Oper} {a : Act} {Q : Exit → Act → World → Prop} {w : World}
theorem wpList_catG (hgd : Region.wanted o (yielded ops a.tmps) = true) (s x : Operand) (ho : o.op = .call { callee := .builtin .append, args := #[s, x], argTypes := #[32, 32] })
    (base : Nat) (v : Value) (l m : List UInt8) (A : Option Addr) (n c : Nat) (hs : a.eval s = v) (hx : a.eval x = .slice A n c) (hn : n = m.length) (hown : Own w base v l) (hr : Rd w A m) (hbase : base ≤ w.heap.size) (hlen : l.length + m.length ≤ 140737488355328)
    (h : ∀ v' w', Own w' base v' (l ++ m) → Below base w w' → Stay w w' → wpList Tryz.prog ops Q rest (a.put o.dst v') w') : wpList Tryz.prog ops Q (o :: rest) a w := by
  subst hn
  obtain ⟨v', w', hrun, h2, h4, h3⟩ := run_cat w base o.type v l m A c hown hr hbase hlen
  refine wpList_wanted hgd fun K hK => ?_
  unfold Oper.wp execOp
  simp only [ho, resolve, invoke, builtin, Sem.run_bind, Sem.run_pure, Result.andThen_ok, List.map_toArray, List.map_cons, List.map_nil, hs, hx, hrun]
  exact hK _ _ (h v' w' h2 h4 (fun _ _ _ ht hr => hr.grown ht hown h3))
theorem wpList_pushG {w0 : World} {n : Int} (hgd : Region.wanted o (yielded ops a.tmps) = true) (s x : Operand) (ho : o.op = .call { callee := .builtin .append, args := #[s, x], argTypes := #[32, 32] })
    (base : Nat) (v : Value) (l : List UInt8) (hs : a.eval s = v) (hx : a.eval x = .slice (some ⟨w0.heap.size, 0, none⟩) 1 1) (hown : Own w0 base v l) (h0 : 0 ≤ n) (h1 : n < 256) (hbase : base ≤ w0.heap.size) (hlen : l.length < 140737488355328)
    (h : ∀ v' w', Own w' base v' (l ++ [b8 n]) → Below base w0 w' → Stay w0 w' → wpList Tryz.prog ops Q rest (a.put o.dst v') w') : wpList Tryz.prog ops Q (o :: rest) a (w0.alloc (.cells #[.int .u8 n] 5)) :=
  wpList_catG hgd s x ho base v l [b8 n] _ 1 1 hs hx rfl (hown.alloc _) (Rd.one w0 _ n h0 h1) (by simp; omega) (by simp; omega) fun v' w' h2 h3 h4 =>
    h v' w' h2 (((Below.refl base w0).alloc hbase _).trans h3) ((Stay.ext (Ext.alloc _ _)).trans h4)
theorem wpList_catSG (hgd : o.guard = none) (sl x : Operand) (ho : o.op = .call { callee := .builtin .append, args := #[sl, x], argTypes := #[32, 9] })
    (base : Nat) (v : Value) (l : List UInt8) (s : ByteArray) (hs : a.eval sl = v) (hx : a.eval x = .string s) (hown : Own w base v l) (hbase : base ≤ w.heap.size) (hlen : l.length + s.size ≤ 140737488355328)
    (h : ∀ v' w', Own w' base v' (l ++ s.data.toList) → Below base w w' → Stay w w' → wpList Tryz.prog ops Q rest (a.put o.dst v') w') : wpList Tryz.prog ops Q (o :: rest) a w := by
  obtain ⟨i0, hi, hz0, hz1, hz2⟩ := info_parts info_u8
  refine Lib.wpList_append_own_string w hgd sl x _ _ ho base 5 i0 Tryz.underlying32 Tryz.underlying9 hi hz0 hz1 hz2 v l.length (bs l) hs hown s hx (by unfold maxLen; omega) hlen hbase ?_
  intro v' w' h2 h3 _
  refine h v' w' ?_ ((Below.refl _ _).grown h3 hbase (fun k hk => (hown.lt k hk).1)) (fun _ _ _ ht hr => hr.grown ht hown h3)
  have e : l.length + s.size = (l ++ s.data.toList).length := by rw [List.length_append]; rfl
  rw [e, bs_str, ← bs_append] at h2
  exact h2
end
end Go.Proofs.YtnkcneccolbbdaaGreatDoor
namespace Go.Proofs.YtnkcneccolbbdaaGreatDoor
open Go.RowKit

/-- The blocks behind a call: those of before, and new ones. -/
structure Bk.Later (X' X : Bk) (w : World) : Prop where
  q : X'.q = X.q
  g : X'.g = X.g
  gd : X'.gd = X.gd
  gn : X'.gn = X.gn
  has : ∀ k, X'.has k → X.has k ∨ w.heap.size ≤ k
theorem Bk.Later.refl (X : Bk) (w : World) : X.Later X w := ⟨rfl, rfl, rfl, rfl, fun _ h => .inl h⟩
theorem Bk.Later.trans {X X' X'' : Bk} {w w' : World} (h : X'.Later X w) (k : X''.Later X' w') (hs : w.heap.size ≤ w'.heap.size) : X''.Later X w :=
  ⟨k.q.trans h.q, k.g.trans h.g, k.gd.trans h.gd, k.gn.trans h.gn, fun b hb => by
    rcases k.has b hb with h1 | h1
    · exact h.has b h1
    · exact .inr (by omega)⟩
theorem Bk.Later.up {X X' : Bk} {w w' : World} (h : X'.Later X w') (hs : w.heap.size ≤ w'.heap.size) : X'.Later X w := ⟨h.q, h.g, h.gd, h.gn, fun b hb => by
  rcases h.has b hb with h1 | h1
  · exact .inl h1
  · exact .inr (by omega)⟩
theorem Lfr.trans {X X' : Bk} {w w' w'' : World} (h : Lfr X w w') (k : Lfr X' w' w'') (hl : X'.Later X w) : Lfr X w w'' :=
  ⟨k.os.trans h.os, k.tape.trans h.tape, k.output.trans h.output, Nat.le_trans h.size k.size, fun b hb hn => (k.other b (Nat.lt_of_lt_of_le hb h.size) (fun e => by
    rcases hl.has b e with h1 | h1
    · exact hn h1
    · omega)).trans (h.other b hb hn)⟩
/-- What a call leaves. -/
def LPost (w0 w : World) (X : Bk) (r : Value) (D' : Dk) (L' : Lg) (e : Ending) (w' : World) : Prop := ∃ X', e = .returned r ∧ LgAt w0 w' X' D' L' ∧ Lfr X w w' ∧ X'.Later X w
section
variable {w0 w w1 : World} {X : Bk} {D D' : Dk} {L L' : Lg} {r : Value} {e : Ending} {w' : World}
theorem LPost.pre (hx : Ext w w1) (h : LPost w0 w1 X r D' L' e w') : LPost w0 w X r D' L' e w' := by
  obtain ⟨X', he, hl, hf, hn⟩ := h
  exact ⟨X', he, hl, (Lfr.ext hx).trans hf (Bk.Later.refl _ _), hn.up hx.size⟩
theorem LPost.trans {X1 : Bk} (h2 : Lfr X w w1) (h3 : X1.Later X w) (h : LPost w0 w1 X1 r D' L' e w') : LPost w0 w X r D' L' e w' := by
  obtain ⟨X', he, hl, hf, hn⟩ := h
  exact ⟨X', he, hl, h2.trans hf h3, h3.trans hn h2.size⟩
theorem LgAt.ne (h : LgAt w0 w X D L) : (X.q ≠ X.g ∧ X.q ≠ X.gd ∧ X.q ≠ X.gn ∧ (∀ a, X.A = some a → a.block ≠ X.q)) ∧ (∀ k, X.tv.ownBlock = some k → k ≠ X.q ∧ k ≠ X.g ∧ k ≠ X.gd ∧ k ≠ X.gn ∧ ∀ a, X.A = some a → a.block ≠ k) := by
  refine ⟨⟨h.blk.apart h.disk.blk (by decide), h.blk.apart h.disk.dur (by decide), h.blk.apart h.disk.new (by decide), fun a ha => h.blk.apart_own h.disk.pen (by decide) a ha⟩, fun k hk => ?_⟩
  have n : ∀ {b : Nat} {t : TypeId} {vs : List Value}, Rw w b t vs → t ≠ 5 → k ≠ b := fun hr ht e => by
    subst e
    exact own_apartR hr ht h.tail hk.symm
  refine ⟨n h.blk (by decide), n h.disk.blk (by decide), n h.disk.dur (by decide), n h.disk.new (by decide), fun a ha e => ?_⟩
  subst e
  exact own_apart h.disk.pen h.tail (by decide) a.block (by rw [ha]; rfl) hk
theorem Own.keep1 {B : Nat} {v : Value} {l : List UInt8} (h : Own w B v l) (hk : ∀ k, v.ownBlock = some k → w'.heap[k]? = w.heap[k]?) : Own w' B v l := by
  refine ⟨h.1, ?_⟩
  rcases h.2 with hn | ⟨g', cap, cur, hv, hb, hg, rest⟩
  · exact .inl hn
  · refine .inr ⟨g', cap, cur, hv, hb, ?_, rest⟩
    rw [hk g' (by rw [hv]; rfl)]
    exact hg
/-- A call of the disk leaves the log. -/
theorem LPost.of_disk (h : LgAt w0 w X D L) (hp : DPost w0.heap.size X.g X.gd X.gn w X.A r D' e w') : LPost w0 w X r D' L e w' := by
  obtain ⟨A', c', rfl, hd, hf, hn⟩ := hp
  obtain ⟨⟨n1, n2, n3, n4⟩, n5⟩ := h.ne
  have hx : Ext w0 w' := Dfr.grown h.ext h.disk hf
  have hq : w'.heap[X.q]? = w.heap[X.q]? := hf.other X.q h.blk.lt n1 n2 n3 n4
  refine ⟨{ X with A := A', c := c' }, rfl, ⟨hx, hd, hq.trans h.blk, ?_, h.base⟩, ⟨hf.os, hf.tape, hf.output, hf.size, fun k hk hnk => ?_⟩, ⟨rfl, rfl, rfl, rfl, fun k hk => ?_⟩⟩
  · refine h.tail.keep1 fun k hk => ?_
    obtain ⟨m1, m2, m3, m4, m5⟩ := n5 k hk
    exact hf.other k (own_block h.tail k hk).2.1 m2 m3 m4 m5
  · unfold Bk.has at hnk
    refine hf.other k hk (fun e => hnk (.inr (.inl e))) (fun e => hnk (.inr (.inr (.inl e)))) (fun e => hnk (.inr (.inr (.inr (.inl e))))) (fun a ha e => hnk (.inr (.inr (.inr (.inr (.inl ⟨a, ha, e⟩))))))
  · unfold Bk.has at hk ⊢
    rcases hk with hk | hk | hk | hk | ⟨a, ha, hk⟩ | hk
    · exact .inl (.inl hk)
    · exact .inl (.inr (.inl hk))
    · exact .inl (.inr (.inr (.inl hk)))
    · exact .inl (.inr (.inr (.inr (.inl hk))))
    · rcases hn a ha with ⟨d, hd2, e2⟩ | h5
      · exact .inl (.inr (.inr (.inr (.inr (.inl ⟨d, hd2, e2.trans hk⟩)))))
      · exact .inr (by omega)
    · exact .inl (.inr (.inr (.inr (.inr (.inr hk)))))
/-- What write puts on a sector. -/
def partB (L : Lg) (a : Nat) (p : List UInt8) : List UInt8 := sealB 2 (ptNs (a / 480) L.hd.ep p.length) p
set_option maxHeartbeats 1600000 in
theorem gwrite_any (h : LgAt w0 w X D L) (ok : L.Ok D) (b : Bd D) (a : Nat) (ha : a < 18446744073709551616) (T : Option Addr) (ct nt : Nat) (p : List UInt8) (hr : Rd w T p) (hn : p.length = nt) (hl : nt ≤ 480) (hT : Tab w0) :
    Calls Tryz.prog 54 #[.pointer (some ⟨X.q, 0, none⟩), .int .u64 (a : Int), .slice T nt ct] w (LPost w0 w X (.int .i64 (wE D (secOf L a) (partB L a p))) (wD D (secOf L a) (partB L a p)) L) := by
  have HL := hide h
  have HB := hide b
  have HR := hide hr
  have HN := hide hn
  have HT := hide hT
  obtain ⟨q, HQ⟩ : ∃ q, Hid (partB L a p = q) := ⟨_, hide rfl⟩
  obtain ⟨s, HS⟩ : ∃ s : Int, Hid ((secOf L a : Int) = s) := ⟨_, hide rfl⟩
  have KS := hide (fun (W : World) (hW : Ext w W) => sector_any (h.ext_ hW) ok b.ok a ha)
  have hep := ok.hd.ep
  have hnum : a / 480 < 18446744073709551616 := by omega
  have KW : Hid (∀ (W : World), Ext w W → Calls Tryz.prog 78 #[.pointer (some ⟨X.g, 0, none⟩), .int .i64 s, .agg #[.int .u64 ((a / 480 : Nat) : Int), .int .u64 (L.hd.ep : Int), .int .u64 0, .slice T nt ct]] W (DPost w0.heap.size X.g X.gd X.gn W X.A (.int .i64 (wE D s q)) (wD D s q))) := hide (fun W hW => by
    have k := writePart_any (HL.out.disk.ext hW) HB.out (Nat.le_trans HL.out.ext.size hW.size) s (a / 480) L.hd.ep nt 0 hnum hep T ct p (HR.out.ext hW) HN.out hl (HT.out.ext (HL.out.ext.trans hW))
    rw [show sealB 2 (ptNs (a / 480) L.hd.ep nt) p = q by rw [← HQ.out, ← HN.out]; rfl] at k
    exact k)
  rw [HQ.out, HS.out]
  rw [HS.out] at KS
  have c0 := h.blk.cell (i := 0) rfl
  have c2 := h.blk.cell (i := 2) rfl
  have hda : ((a / 480 : Nat) : Int) = (a : Int) / 480 := by omega
  rw [hda] at KW
  have hwq : IntKind.u64.wrap ((a : Int) / 480) = (a : Int) / 480 := by rw [IntKind.wrap_u64]; omega
  clear hr hn hT b ok h hda
  go_enter Tryz.func54, Tryz.ntmps54
  go_wp2
  go_region_law (first
    | (go_simp; go_at_call 79; (with_reducible refine (KS.out _ (Ext.drew _)).mono ?_); rintro e w2 ⟨rfl, hx2⟩; have HX2 : Hid (Ext w w2) := hide ((Ext.drew _).trans hx2); have c0b := (HL.out.blk.ext HX2.out).cell (i := 0) rfl; have c2b := (HL.out.blk.ext HX2.out).cell (i := 2) rfl; clear hx2)
    | (go_simp; go_at_call 78; (with_reducible refine (KW.out w2 HX2.out).mono ?_); rintro e w3 hp3; have HP3 := hide (LPost.pre HX2.out (LPost.of_disk (HL.out.ext_ HX2.out) hp3)); obtain ⟨A3, c3, rfl, -⟩ := hp3))
  all_goals
    go_wp2
    go_ret
    exact HP3.out
end
end Go.Proofs.YtnkcneccolbbdaaGreatDoor
namespace Go.Proofs.YtnkcneccolbbdaaGreatDoor
open Go.RowKit

def szOf (l : List UInt8) : Nat := if (l.getD 0 0).toNat * 256 + (l.getD 1 0).toNat > 1200 then 0 else (l.getD 0 0).toNat * 256 + (l.getD 1 0).toNat
def whSz (l : List UInt8) : Nat := if l.length < 2 then 0 else if szOf l = 0 ∨ szOf l > l.length - 2 then 0 else 2 + szOf l
theorem szOf_le (l : List UInt8) : szOf l ≤ 1200 := by unfold szOf; split <;> omega
theorem whSz_le (l : List UInt8) : whSz l ≤ l.length := by
  unfold whSz
  split
  · omega
  · split <;> omega
theorem or_i64 (x y : UInt8) : bits .or .i64 ((x.toNat : Int) * 256) (y.toNat : Int) = ((x.toNat * 256 + y.toNat : Nat) : Int) := by
  have hx2 := x.toNat_lt
  have hy2 := y.toNat_lt
  have e1 : (x.toNat : Int) * 256 = ((x.toNat * 256 : Nat) : Int) := by omega
  rw [e1]
  show IntKind.i64.wrap ((BitVec.ofInt 64 ((x.toNat * 256 : Nat) : Int) ||| BitVec.ofInt 64 ((y.toNat : Nat) : Int)).toNat : Int) = _
  rw [BitVec.toNat_or, BitVec.ofInt_natCast, BitVec.ofInt_natCast, BitVec.toNat_ofNat, BitVec.toNat_ofNat,
    Nat.mod_eq_of_lt (show x.toNat * 256 < 2 ^ 64 by omega), Nat.mod_eq_of_lt (show y.toNat < 2 ^ 64 by omega), or_low _ _ (by omega), IntKind.wrap_i64]
  omega
set_option maxHeartbeats 800000 in
theorem sizeOf_any (A : Option Addr) (l : List UInt8) (n c : Nat) (w : World) (hr : Rd w A l) (hn : l.length = n) (h2 : 2 ≤ n) (hl : n ≤ 140737488355328) : Calls Tryz.prog 97 #[.slice A n c] w (fun e w' => e = .returned (.int .i64 (szOf l : Int)) ∧ Ext w w') := by
  obtain ⟨b, off, x, rfl, hx, hc0⟩ := hr.at (k := 0) (by omega)
  obtain ⟨b', off', y, he, hy, hc1⟩ := hr.at (k := 1) (by omega)
  injection he with he
  injection he with he1 he2
  subst he1 he2
  have hx2 := x.toNat_lt
  have hy2 := y.toNat_lt
  have HS : Hid (szOf l = if x.toNat * 256 + y.toNat > 1200 then 0 else x.toNat * 256 + y.toNat) := hide (by
    unfold szOf
    rw [show l.getD 0 0 = x by rw [List.getD_eq_getElem?_getD, hx]; rfl, show l.getD 1 0 = y by rw [List.getD_eq_getElem?_getD, hy]; rfl])
  have hor := or_i64 x y
  obtain ⟨z, HZ⟩ : ∃ z : Nat, Hid (x.toNat * 256 + y.toNat = z) := ⟨_, hide rfl⟩
  rw [HZ.out] at hor HS
  have hi0 : (0 : Int) < (n : Int) := by omega
  have hi1 : (1 : Int) < (n : Int) := by omega
  rw [Nat.add_zero] at hc0
  clear hr hx hy
  by_cases hz : z > 1200
  · have HS2 : Hid (szOf l = 0) := hide (by rw [HS.out, if_pos hz])
    have hzi : (1200 : Int) < (z : Int) := by omega
    rw [HS2.out]
    clear hz
    go_enter Tryz.func97, Tryz.ntmps97
    go_wp2
    go_region
    go_wp2
    go_ret
    exact ⟨rfl, Ext.drew _⟩
  · have HS2 : Hid (szOf l = z) := hide (by rw [HS.out, if_neg hz])
    have hzi : ¬ (1200 : Int) < (z : Int) := by omega
    rw [HS2.out]
    clear hz
    go_enter Tryz.func97, Tryz.ntmps97
    go_wp2
    go_region
    go_wp2
    go_ret
    exact ⟨rfl, Ext.drew _⟩
set_option maxHeartbeats 800000 in
theorem wholeSize_any (A : Option Addr) (l : List UInt8) (n c : Nat) (w : World) (hr : Rd w A l) (hn : l.length = n) (hl : n ≤ 140737488355328) : Calls Tryz.prog 77 #[.slice A n c] w (fun e w' => e = .returned (.int .i64 (whSz l : Int)) ∧ Ext w w') := by
  by_cases h2 : n < 2
  · have HS : Hid (whSz l = 0) := hide (by unfold whSz; rw [hn, if_pos h2])
    have hni : (n : Int) < 2 := by omega
    rw [HS.out]
    clear h2 hr hn
    go_enter Tryz.func77, Tryz.ntmps77
    go_wp2
    go_ret
    exact ⟨rfl, Ext.refl _⟩
  · have KS := hide (sizeOf_any A l n c w hr hn (by omega) hl)
    have hni : ¬ (n : Int) < 2 := by omega
    obtain ⟨z, HZ⟩ : ∃ z : Nat, Hid (szOf l = z) := ⟨_, hide rfl⟩
    have hz12 : z ≤ 1200 := by rw [← HZ.out]; exact szOf_le l
    have HS : Hid (whSz l = if z = 0 ∨ z > n - 2 then 0 else 2 + z) := hide (by unfold whSz; rw [hn, if_neg h2, HZ.out])
    rw [HZ.out] at KS
    by_cases h0 : z = 0
    · have HS2 : Hid (whSz l = 0) := hide (by rw [HS.out, if_pos (.inl h0)])
      rw [HS2.out]
      subst h0
      clear h2 hr hn
      go_enter Tryz.func77, Tryz.ntmps77
      go_wp2_with (go_at_call 97; (with_reducible refine KS.out.mono ?_); rintro e w2 ⟨rfl, hx2⟩; have HX2 := hide hx2; clear hx2)
      go_ret
      exact ⟨rfl, HX2.out⟩
    · have h0i : ((z : Int) == 0) = false := by simpa using h0
      by_cases hg : z > n - 2
      · have HS2 : Hid (whSz l = 0) := hide (by rw [HS.out, if_pos (.inr hg)])
        have hgi : (n : Int) - 2 < (z : Int) := by omega
        rw [HS2.out]
        clear hr hn hg h0 h2
        go_enter Tryz.func77, Tryz.ntmps77
        go_wp2_with (go_at_call 97; (with_reducible refine KS.out.mono ?_); rintro e w2 ⟨rfl, hx2⟩; have HX2 := hide hx2; clear hx2)
        go_ret
        exact ⟨rfl, HX2.out⟩
      · have HS2 : Hid (whSz l = 2 + z) := hide (by rw [HS.out, if_neg (by omega)])
        have hgi : ¬ (n : Int) - 2 < (z : Int) := by omega
        have hzi : (z : Int) ≤ 1200 := by omega
        have hzw : (2 : Int) + (z : Int) = ((2 + z : Nat) : Int) := by omega
        rw [HS2.out]
        have HZW := hide hzw
        clear hr hn hg h0 h2 hzw
        go_enter Tryz.func77, Tryz.ntmps77
        go_wp2_with (go_at_call 97; (with_reducible refine KS.out.mono ?_); rintro e w2 ⟨rfl, hx2⟩; have HX2 := hide hx2; clear hx2)
        go_ret
        exact ⟨by rw [← HZW.out]; rfl, HX2.out⟩
end Go.Proofs.YtnkcneccolbbdaaGreatDoor
namespace Go.Proofs.YtnkcneccolbbdaaGreatDoor
open Go.RowKit

/-- The log's bytes from a place on, so many parts at most, none of an earlier epoch. -/
def thP (D : Dk) (L : Lg) : Nat → Nat → Int → List UInt8
  | 0, _, _ => []
  | f + 1, a, ep => if ptThere D L a = true ∧ ¬ (ptAt D (secOf L a)).ep < ep then
      (if (ptAt D (secOf L a)).by_.length < 480 then (ptAt D (secOf L a)).by_ else (ptAt D (secOf L a)).by_ ++ thP D L f (a + 480) (ptAt D (secOf L a)).ep) else []
theorem ptOf_len (b : List UInt8) : (ptOf b).by_.length ≤ 480 := by unfold ptOf ptLen; simp only [List.length_take]; omega
theorem ptAt_len (D : Dk) (i : Int) : (ptAt D i).by_.length ≤ 480 := by
  unfold ptAt
  split
  · exact ptOf_len _
  · exact Nat.zero_le _
theorem thP_len (D : Dk) (L : Lg) : ∀ (f a : Nat) (ep : Int), (thP D L f a ep).length ≤ 480 * f
  | 0, _, _ => Nat.zero_le _
  | f + 1, a, ep => by
    have h := thP_len D L f (a + 480) (ptAt D (secOf L a)).ep
    have h2 := ptAt_len D (secOf L a)
    unfold thP
    split
    · split
      · omega
      · rw [List.length_append]; omega
    · exact Nat.zero_le _
/-- A ring's length further on there is another part. -/
theorem there_ring {D : Dk} {L : Lg} (hcn : 0 < L.hd.cn) (a : Nat) (h : ptThere D L a = true) : ptThere D L (a + 480 * L.hd.cn) = false := by
  have hd : (a + 480 * L.hd.cn) / 480 = a / 480 + L.hd.cn := by omega
  have hs : secOf L (a + 480 * L.hd.cn) = secOf L a := by unfold secOf; rw [hd, Nat.add_mod_right]
  unfold ptThere at *
  rw [hs, hd]
  simp only [Bool.and_eq_true, decide_eq_true_eq] at h
  rw [h.2]
  simp
  intro _
  omega
section
variable {w0 w : World} {X : Bk} {D : Dk} {L : Lg}
def ThPost (w : World) (l : List UInt8) (n : Int) (e : Ending) (w' : World) : Prop := ∃ v, e = .returned (.tuple #[v, .int .i64 n]) ∧ Own w' w.heap.size v l ∧ Ext w w'
set_option maxHeartbeats 3200000 in
theorem there_any (h : LgAt w0 w X D L) (ok : L.Ok D) (b : Bd D) (a : Nat) (ha : a < 1152921504606846976) (hT : Tab w0) : Calls Tryz.prog 76 #[.pointer (some ⟨X.q, 0, none⟩), .int .u64 (a : Int)] w
    (ThPost w (if D.off = true then [] else thP D L (L.hd.cn + 1) a (L.hd.old : Int)) (if D.off = true then 8 else 0)) := by
  have HL := hide h
  have HB := hide b
  have HT := hide hT
  have HOK := hide ok
  have hcn := ok.cn
  have HSL : Hid (∀ x, gE D (secOf L x) = if D.off = true then 8 else 0) := hide (fun x => by
    have h1 := secOf_lt ok x
    unfold gE
    rw [if_neg (by omega)])
  have KP : Hid (∀ (W : World) (x : Nat), Ext w W → x < 1200000000000000000 → Calls Tryz.prog 96 #[.pointer (some ⟨X.q, 0, none⟩), .int .u64 (x : Int)] W (PartPost D L x W)) := hide (fun W x hW hx => part_any (HL.out.ext_ hW) HOK.out HB.out x (by omega) HT.out)
  have c3 := h.blk.cell (i := 3) rfl
  have HA := hide ha
  obtain ⟨o0, HO0⟩ : ∃ o0, Hid ((L.hd.old : Int) = o0) := ⟨_, hide rfl⟩
  rw [HO0.out] at c3 ⊢
  have HX0 : Hid (Ext w w) := hide (Ext.refl w)
  have HV0 : Hid (Own w w.heap.size (.slice none 0 0) []) := hide (Own.nil _ _)
  obtain ⟨cn, HCN⟩ : ∃ cn, Hid (L.hd.cn = cn) := ⟨_, hide rfl⟩
  rw [HCN.out] at hcn ⊢
  have hcl : cn ≤ 4096 := hcn.2
  obtain ⟨tl, HTL⟩ : ∃ tl, Hid ((if D.off = true then [] else thP D L (cn + 1) a o0) = tl) := ⟨_, hide rfl⟩
  obtain ⟨te, HTE⟩ : ∃ te, Hid ((if D.off = true then (8 : Int) else 0) = te) := ⟨_, hide rfl⟩
  rw [HTL.out, HTE.out]
  clear h ok b hT ha hcn
  go_enter Tryz.func76, Tryz.ntmps76
  go_wp2
  clear c3
  go_loopw [1, 6, 7] (fun x v y wr => ∃ (k : Nat) (acc : List UInt8) (ep : Int), k ≤ cn ∧ x = .int .u64 ((a + 480 * k : Nat) : Int) ∧ y = .int .u64 ep ∧ Hid (Own wr w.heap.size v acc) ∧ Hid (Ext w wr) ∧ Hid (acc.length = 480 * k) ∧
    Hid (acc ++ thP D L (cn + 1 - k) (a + 480 * k) ep = thP D L (cn + 1) a o0) ∧ Hid (0 < k → D.off = false ∧ ptThere D L a = true)) (fun x _ _ _ => a + 480 * (cn + 1) - (intOf x).toNat)
  case atStart => exact ⟨0, [], o0, Nat.zero_le _, rfl, rfl, HV0, HX0, hide rfl, hide rfl, hide (fun h => absurd h (by decide))⟩
  case round =>
    obtain ⟨k, acc, ep, hk, rfl, rfl, HV, HX, HAL, HTH, HK⟩ := hrel
    obtain ⟨x, HXX⟩ : ∃ x, Hid (a + 480 * k = x) := ⟨_, hide rfl⟩
    rw [HXX.out] at HTH ⊢
    have HXL : Hid (x < 1200000000000000000) := hide (by have := HA.out; have := HXX.out; omega)
    have HRING : Hid (k = cn → ptThere D L x = false) := hide (fun e => by
      have h0 : 0 < cn := by have := HOK.out.cn.1; have := HCN.out; omega
      have h1 := (HK.out (by omega)).2
      have h2 := there_ring (D := D) (L := L) (by rw [HCN.out]; exact h0) a h1
      rw [HCN.out, ← e, HXX.out] at h2
      exact h2)
    obtain ⟨P0, HP0⟩ : ∃ P0, Hid (ptAt D (secOf L x) = P0) := ⟨_, hide rfl⟩
    obtain ⟨q, HQ⟩ : ∃ q, Hid (ptThere D L x = q) := ⟨_, hide rfl⟩
    have HGS : Hid (gE D (secOf L x) = te) := hide (by rw [HSL.out, HTE.out])
    have HP48 : Hid (P0.by_.length ≤ 480) := hide (by rw [← HP0.out]; exact ptAt_len _ _)
    have HPE : Hid (0 ≤ P0.ep ∧ P0.ep < 18446744073709551616) := hide (by rw [← HP0.out]; exact ptAt_ep _ _)
    rw [HQ.out] at HRING
    have HUN : Hid (thP D L (cn + 1 - k) x ep = if q = true ∧ ¬ P0.ep < ep then (if P0.by_.length < 480 then P0.by_ else P0.by_ ++ thP D L (cn - k) (x + 480) P0.ep) else []) := hide (by
      rw [show cn + 1 - k = (cn - k) + 1 by omega]
      rw [thP, HP0.out, HQ.out])
    have KPX := hide (KP.out wr x HX.out HXL.out)
    unfold PartPost at KPX
    rw [HP0.out, HQ.out, HGS.out] at KPX
    go_upto_region 5 with (go_at_call 96; (with_reducible refine KPX.out.mono ?_); rintro e w2 ⟨P, pc, rfl, hpc, hrp, hx2⟩; have HX2 := hide (HX.out.trans hx2); have HRP := hide hrp; have HV2 := hide (HV.out.ext hx2); clear hpc hrp hx2)
    have HBX : Hid (Rw (w2.alloc (.cells #[.int .u64 P0.num, .int .u64 P0.ep, .int .u64 P0.sz, .slice P P0.by_.length pc] 121)) w2.heap.size 121 [.int .u64 P0.num, .int .u64 P0.ep, .int .u64 P0.sz, .slice P P0.by_.length pc]) := hide (Rw.new w2 121 [.int .u64 P0.num, .int .u64 P0.ep, .int .u64 P0.sz, .slice P P0.by_.length pc])
    have HX3 := hide (HX2.out.trans (Ext.alloc w2 (.cells #[.int .u64 P0.num, .int .u64 P0.ep, .int .u64 P0.sz, .slice P P0.by_.length pc] 121)))
    have HRP3 := hide (HRP.out.ext (Ext.alloc w2 (.cells #[.int .u64 P0.num, .int .u64 P0.ep, .int .u64 P0.sz, .slice P P0.by_.length pc] 121)))
    have HV3 := hide (HV2.out.ext (Ext.alloc w2 (.cells #[.int .u64 P0.num, .int .u64 P0.ep, .int .u64 P0.sz, .slice P P0.by_.length pc] 121)))
    obtain ⟨bx, HBE⟩ : ∃ bx, Hid (w2.heap.size = bx) := ⟨_, hide rfl⟩
    rw [HBE.out] at HBX ⊢
    generalize w2.alloc (.cells #[.int .u64 P0.num, .int .u64 P0.ep, .int .u64 P0.sz, .slice P P0.by_.length pc] 121) = w3 at *
    clear HX2 HRP HV2 HV HX HBE
    cases hd : D.off with
    | true =>
      rw [hd, if_pos rfl] at HTE HTL
      have hte : te = 8 := HTE.out.symm
      have htl : tl = [] := HTL.out.symm
      subst hte htl
      go_wp2
      go_ret2
      exact ⟨_, rfl, Own.nil _ _, HX3.out⟩
    | false =>
      rw [hd, if_neg (by decide)] at HTE HTL
      have hte : te = 0 := HTE.out.symm
      subst hte
      have HD2 := hide hd
      clear hd
      have k1 := HBX.out.cell (i := 1) rfl
      have k3 := HBX.out.cell (i := 3) rfl
      cases q with
      | false =>
        have HE0 : Hid (acc = tl) := hide (by
          have h1 := HTH.out
          rw [HUN.out, if_neg (by simp), List.append_nil, HTL.out] at h1
          exact h1)
        go_wp2
        go_ret2
        exact ⟨_, rfl, by rw [← HE0.out]; exact HV3.out, HX3.out⟩
      | true =>
        by_cases hlt : P0.ep < ep
        · have HE0 : Hid (acc = tl) := hide (by
            have h1 := HTH.out
            rw [HUN.out, if_neg (by simp [hlt]), List.append_nil, HTL.out] at h1
            exact h1)
          go_wp2
          go_ret2
          exact ⟨_, rfl, by rw [← HE0.out]; exact HV3.out, HX3.out⟩
        · have hkc : k < cn := by
            rcases Nat.lt_or_ge k cn with h | h
            · exact h
            · have := HRING.out (by omega); cases this
          by_cases h48 : P0.by_.length < 480
          · have HE0 : Hid (acc ++ P0.by_ = tl) := hide (by
              have h1 := HTH.out
              rw [HUN.out, if_pos (by refine ⟨rfl, ?_⟩; omega), if_pos h48, HTL.out] at h1
              exact h1)
            have h48i : (P0.by_.length : Int) < 480 := by omega
            clear h48
            go_wp2_with ((with_reducible show wpList _ _ _ (⟨some 40, _, _, _, _, _⟩ :: _) _ _); refine wpList_catG rfl (.tmp 37) (.tmp 39) rfl w.heap.size _ acc P0.by_ P P0.by_.length pc rfl rfl rfl HV3.out HRP3.out HX3.out.size (by have := HAL.out; have := HP48.out; omega) ?_; intro v4 w4 ho4 hb4 hs4; have HV4 := hide ho4; have HX4 : Hid (Ext w w4) := hide (Below.trans HX3.out hb4); have HB4 := hide (hs4 bx _ _ (by decide) HBX.out); have k1b := HB4.out.cell (i := 1) rfl; have k3b := HB4.out.cell (i := 3) rfl; clear ho4 hb4 hs4)
            go_ret2
            exact ⟨_, rfl, by rw [← HE0.out]; exact HV4.out, HX4.out⟩
          · have HE0 : Hid ((acc ++ P0.by_) ++ thP D L (cn + 1 - (k + 1)) (a + 480 * (k + 1)) P0.ep = thP D L (cn + 1) a o0) := hide (by
              have h1 := HTH.out
              rw [HUN.out, if_pos (by refine ⟨rfl, ?_⟩; omega), if_neg h48, ← List.append_assoc] at h1
              rw [show cn + 1 - (k + 1) = cn - k by omega, show a + 480 * (k + 1) = x + 480 by have := HXX.out; omega]
              exact h1)
            have h48e : P0.by_.length = 480 := by have := HP48.out; omega
            have HAL2 : Hid ((acc ++ P0.by_).length = 480 * (k + 1)) := hide (by rw [List.length_append, HAL.out, h48e]; omega)
            have h48i : ¬ (P0.by_.length : Int) < 480 := by omega
            have hxw : IntKind.u64.wrap ((x : Int) + 480) = ((a + 480 * (k + 1) : Nat) : Int) := by rw [IntKind.wrap_u64]; have := HXL.out; have := HXX.out; omega
            have HTH1 : Hid (0 < k + 1 → D.off = false ∧ ptThere D L a = true) := hide (fun _ => ⟨HD2.out, by
              rcases Nat.eq_zero_or_pos k with h | h
              · have h1 := HQ.out
                have h2 := HXX.out
                rw [h] at h2
                rw [← h2] at h1
                exact h1
              · exact (HK.out h).2⟩)
            have HMS : Hid (a + 480 * (cn + 1) - (a + 480 * (k + 1)) < a + 480 * (cn + 1) - x) := hide (by have := HXX.out; omega)
            clear h48 h48e
            go_wp2_with ((with_reducible show wpList _ _ _ (⟨some 40, _, _, _, _, _⟩ :: _) _ _); refine wpList_catG rfl (.tmp 37) (.tmp 39) rfl w.heap.size _ acc P0.by_ P P0.by_.length pc rfl rfl rfl HV3.out HRP3.out HX3.out.size (by have := HAL.out; have := HP48.out; omega) ?_; intro v4 w4 ho4 hb4 hs4; have HV4 := hide ho4; have HX4 : Hid (Ext w w4) := hide (Below.trans HX3.out hb4); have HB4 := hide (hs4 bx _ _ (by decide) HBX.out); have k1b := HB4.out.cell (i := 1) rfl; have k3b := HB4.out.cell (i := 3) rfl; clear ho4 hb4 hs4)
            refine ⟨⟨k + 1, acc ++ P0.by_, P0.ep, by omega, congrArg (Value.int .u64) (by omega), rfl, HV4, HX4, HAL2, HE0, HTH1⟩, ?_⟩
            show a + 480 * (cn + 1) - ((a : Int) + 480 * ((k : Int) + 1)).toNat < a + 480 * (cn + 1) - (x : Int).toNat
            have := HMS.out
            omega
end
end Go.Proofs.YtnkcneccolbbdaaGreatDoor
namespace Go.Proofs.YtnkcneccolbbdaaGreatDoor
open Go.RowKit

theorem run_eql_nil {P : Program} (w : World) (t e : TypeId) (a : Option Addr) (l c : Nat) (h : P.underlying t = some (.slice e)) : (binOp .eql t (.slice a l c) (.slice none 0 0)).run P w = .ok (.bool a.isNone) w := by
  simp only [binOp]
  simp [run_equal_slice_nil w t e a l c h]
theorem Own.empty (w : World) : Own (w.alloc (.cells #[] 5)) w.heap.size (.slice (some ⟨w.heap.size, 0, none⟩) 0 0) [] :=
  ⟨rfl, .inr ⟨w.heap.size, 0, #[], rfl, Nat.le_refl _, heap_alloc_new w _, Nat.le_refl _, by unfold maxLen; decide, rfl, rfl⟩⟩
/-- It stays, if just blocks below turn. -/
theorem Own.farB {w : World} {B : Nat} {v : Value} {l : List UInt8} (h : Own w B v l) {g : Nat} (hg : g < B) (i : Nat) (u : Value) : Own (w.setCell ⟨g, i, none⟩ u) B v l := by
  refine ⟨h.1, ?_⟩
  rcases h.2 with hn | ⟨g', cap, cur, rfl, hb, hg', rest⟩
  · exact .inl hn
  · exact .inr ⟨g', cap, cur, rfl, hb, (Below.heap_setCell w ⟨g, i, none⟩ u g' (by show g' ≠ g; omega)).trans hg', rest⟩
set_option maxRecDepth 20000 in
set_option maxHeartbeats 800000 in
theorem clone_any (A : Option Addr) (l : List UInt8) (n c : Nat) (w : World) (hr : Rd w A l) (hn : l.length = n) (hl : n ≤ 140737488351232) : Calls Tryz.prog 56 #[.slice A n c] w (Ret w (fun w' v => Own w' w.heap.size v l)) := by
  rcases A with _ | a
  · have hl : l = [] := by
      cases l with
      | nil => rfl
      | cons x xs => obtain ⟨_, _, hA, _⟩ := hr (by simp); cases hA
    subst hl
    clear hr
    have hq := fun (W : World) => run_eql_nil (P := Tryz.prog) W 32 5 none n c Tryz.underlying32
    go_enter Tryz.func56, Tryz.ntmps56
    go_wp2
    go_ret
    exact Ret.mk (Ext.refl _) (Own.nil _ _)
  · have HR := hide hr
    have HL := hide hl
    have hq := fun (W : World) => run_eql_nil (P := Tryz.prog) W 32 5 (some a) n c Tryz.underlying32
    clear hr hl
    go_enter Tryz.func56, Tryz.ntmps56
    go_wp2_with (at_builtin; refine wpList_cat rfl (.tmp 5) (.tmp 6) rfl w.heap.size _ [] l _ n c rfl rfl hn.symm (Own.empty w) (HR.out.ext (Ext.alloc _ _)) (by simp) (by rw [List.length_nil, hn]; have := HL.out; omega) ?_; intro v2 w2 hown hb; rw [List.nil_append] at hown; have O2 := hide hown; have X2 : Hid (Ext w w2) := hide (Below.trans (Ext.alloc w _) hb); clear hown hb)
    go_ret
    exact Ret.mk X2.out O2.out
end Go.Proofs.YtnkcneccolbbdaaGreatDoor
namespace Go.Proofs.YtnkcneccolbbdaaGreatDoor
open Go.RowKit

def cutB (A : Option Addr) (c k : Nat) : Option Addr := if c = k then A else A.map (·.add k)
theorem byteSize : (Tryz.prog.info? 5).map (·.size) = some 1 := by kernel_rfl
theorem byteInfo : ∃ q, Tryz.prog.info? 5 = some q ∧ q.size = 1 := by
  have he := byteSize
  cases hq : Tryz.prog.info? 5 with
  | none => simp [hq] at he
  | some q => exact ⟨q, rfl, by simpa [hq] using he⟩
theorem run_fromI (A : Option Addr) (n c k : Nat) (hk : k ≤ n) (w : World) : (Instr.sliceAt 32 (.slice A n c) (some (.int .i64 (k : Int))) none none).run Tryz.prog w = .ok (.slice (cutB A c k) (n - k) (c - k)) w := by
  obtain ⟨q, hq, hs⟩ := byteInfo
  have h1 : (0 : Int) ≤ (k : Int) ∧ (k : Int) ≤ (n : Int) := by omega
  have hcut : (Instr.slice 32 (.slice A n c) (some (.int .i64 (k : Int))) none none).run Tryz.prog w = .ok (.slice (cutB A c k) (n - k) (c - k)) w := by
    simp [Instr.slice, run_underlying Tryz.underlying32, Instr.sliceBounds, Instr.sliceBound, asIntOf, hk, sizeOf, typeInfo, hq, hs, cutB]
  simp [Instr.sliceAt, run_underlying Tryz.underlying32, hcut]
theorem run_fromU (A : Option Addr) (n c k : Nat) (hk : k ≤ n) (w : World) : (Instr.sliceAt 32 (.slice A n c) (some (.int .u64 (k : Int))) none none).run Tryz.prog w = .ok (.slice (cutB A c k) (n - k) (c - k)) w := by
  obtain ⟨q, hq, hs⟩ := byteInfo
  have h1 : (0 : Int) ≤ (k : Int) ∧ (k : Int) ≤ (n : Int) := by omega
  have hcut : (Instr.slice 32 (.slice A n c) (some (.int .u64 (k : Int))) none none).run Tryz.prog w = .ok (.slice (cutB A c k) (n - k) (c - k)) w := by
    simp [Instr.slice, run_underlying Tryz.underlying32, Instr.sliceBounds, Instr.sliceBound, asIntOf, hk, sizeOf, typeInfo, hq, hs, cutB]
  simp [Instr.sliceAt, run_underlying Tryz.underlying32, hcut]
theorem run_cutUI (A : Option Addr) (n c i j d : Nat) (hd : i + d = j) (hi : i ≤ j) (hj : j ≤ c) (w : World) : (Instr.sliceAt 32 (.slice A n c) (some (.int .u64 (i : Int))) (some (.int .i64 (j : Int))) none).run Tryz.prog w = .ok (.slice (cutB A c i) d (c - i)) w := by
  obtain ⟨q, hq, hs⟩ := byteInfo
  have hji : j - i = d := by omega
  have hcut : (Instr.slice 32 (.slice A n c) (some (.int .u64 (i : Int))) (some (.int .i64 (j : Int))) none).run Tryz.prog w = .ok (.slice (cutB A c i) d (c - i)) w := by
    simp [Instr.slice, run_underlying Tryz.underlying32, Instr.sliceBounds, Instr.sliceBound, asIntOf, hi, hj, sizeOf, typeInfo, hq, hs, hji, cutB]
  simp [Instr.sliceAt, run_underlying Tryz.underlying32, hcut]
theorem run_cutII (A : Option Addr) (n c i j d : Nat) (hd : i + d = j) (hi : i ≤ j) (hj : j ≤ c) (w : World) : (Instr.sliceAt 32 (.slice A n c) (some (.int .i64 (i : Int))) (some (.int .i64 (j : Int))) none).run Tryz.prog w = .ok (.slice (cutB A c i) d (c - i)) w := by
  obtain ⟨q, hq, hs⟩ := byteInfo
  have hji : j - i = d := by omega
  have hcut : (Instr.slice 32 (.slice A n c) (some (.int .i64 (i : Int))) (some (.int .i64 (j : Int))) none).run Tryz.prog w = .ok (.slice (cutB A c i) d (c - i)) w := by
    simp [Instr.slice, run_underlying Tryz.underlying32, Instr.sliceBounds, Instr.sliceBound, asIntOf, hi, hj, sizeOf, typeInfo, hq, hs, hji, cutB]
  simp [Instr.sliceAt, run_underlying Tryz.underlying32, hcut]
theorem Rd.cutF {w : World} {A : Option Addr} {l : List UInt8} {n c : Nat} (h : Rd w A l) (hn : l.length = n) (hc : n ≤ c) (k : Nat) (hk : k ≤ n) : Rd w (cutB A c k) (l.drop k) := by
  unfold cutB
  split
  · rw [List.drop_of_length_le (by omega)]
    exact Rd.nil _ _
  · cases A with
    | none =>
      have hl0 : l = [] := by
        cases l with
        | nil => rfl
        | cons u r => obtain ⟨_, _, hA, _⟩ := h (by simp); cases hA
      subst hl0
      rw [List.drop_nil]
      exact Rd.nil _ _
    | some a => exact h.drop k
theorem Rd.cutT {w : World} {A : Option Addr} {l : List UInt8} {n c : Nat} (h : Rd w A l) (hn : l.length = n) (hc : n ≤ c) (k d : Nat) (hk : k + d ≤ n) : Rd w (cutB A c k) ((l.drop k).take d) := (h.cutF hn hc k (by omega)).take d
theorem gives_fromV {P : Program} {o : Oper} {a : Act} {w : World} {R : Value → World → Prop} {x y : Operand} {t : Nat} {u z v : Value} (h : o.op = .slice t x (some y) none none) (hx : a.eval x = u) (hy : a.eval y = z) (hrun : (Instr.sliceAt t u (some z) none none).run P w = .ok v w) (hR : R v w) : gives P o a w R := by
  refine gives_of_run (w' := w) (v := v) ?_ hR
  unfold execOp
  simp only [h, Option.map_none, Option.map_some, hx, hy, Sem.run_bind, hrun, Result.andThen_ok, Sem.run_pure]
theorem gives_cutV {P : Program} {o : Oper} {a : Act} {w : World} {R : Value → World → Prop} {x y z : Operand} {t : Nat} {u p q v : Value} (h : o.op = .slice t x (some y) (some z) none) (hx : a.eval x = u) (hy : a.eval y = p) (hz : a.eval z = q) (hrun : (Instr.sliceAt t u (some p) (some q) none).run P w = .ok v w) (hR : R v w) : gives P o a w R := by
  refine gives_of_run (w' := w) (v := v) ?_ hR
  unfold execOp
  simp only [h, Option.map_none, Option.map_some, hx, hy, hz, Sem.run_bind, hrun, Result.andThen_ok, Sem.run_pure]
/-- What comes behind a record's place while whole records stand there. -/
def runN (l : List UInt8) : Nat → Nat → Nat
  | 0, e => e
  | f + 1, e => if whSz (l.drop e) = 0 then e else runN l f (e + whSz (l.drop e))
theorem runN_le (l : List UInt8) : ∀ f e, e ≤ l.length → e ≤ runN l f e ∧ runN l f e ≤ l.length
  | 0, e, h => ⟨Nat.le_refl _, h⟩
  | f + 1, e, h => by
    have h1 := whSz_le (l.drop e)
    rw [List.length_drop] at h1
    unfold runN
    split
    · exact ⟨Nat.le_refl _, h⟩
    · have h2 := runN_le l f (e + whSz (l.drop e)) (by omega)
      omega
/-- So it goes on to the end. -/
theorem runN_more (l : List UInt8) : ∀ f e, e ≤ l.length → l.length ≤ e + f → runN l (f + 1) e = runN l f e
  | 0, e, h, hf => by
    have h1 := whSz_le (l.drop e)
    rw [List.length_drop] at h1
    unfold runN runN
    rw [if_pos (by omega)]
  | f + 1, e, h, hf => by
    have h1 := whSz_le (l.drop e)
    rw [List.length_drop] at h1
    unfold runN
    split
    · rfl
    · exact runN_more l f _ (by omega) (by omega)
/-- What find finds. -/
def fnBase (L : Lg) : Nat := flo L.hd.fi
def fnAll (D : Dk) (L : Lg) : List UInt8 := thP D L (L.hd.cn + 1) (fnBase L) (L.hd.old : Int)
def fnEnd (D : Dk) (L : Lg) : Nat := runN (fnAll D L) (fnAll D L).length (L.hd.fi - fnBase L)
def fnSure (D : Dk) (L : Lg) : Nat := fnBase L + fnEnd D L
def fnTail (D : Dk) (L : Lg) : List UInt8 := ((fnAll D L).take (fnEnd D L)).drop (flo (fnSure D L) - fnBase L)
def fnE (D : Dk) (L : Lg) : Int := if D.off = true then 8 else if L.hd.fi - fnBase L > (fnAll D L).length then 15 else if fnSure D L < L.hd.ck then 15 else 0
def fnL (D : Dk) (L : Lg) : Lg := { L with sure := fnSure D L, tail := fnTail D L }
end Go.Proofs.YtnkcneccolbbdaaGreatDoor
namespace Go.Proofs.YtnkcneccolbbdaaGreatDoor
open Go.RowKit

theorem Own.low {w : World} {B B' : Nat} {v : Value} {l : List UInt8} (h : Own w B v l) (hB : B' ≤ B) : Own w B' v l := by
  refine ⟨h.1, ?_⟩
  rcases h.2 with hn | ⟨g', cap, cur, hv, hb, hg, rest⟩
  · exact .inl hn
  · exact .inr ⟨g', cap, cur, hv, Nat.le_trans hB hb, hg, rest⟩
theorem DiskAt.keep1 {B g gd gn c : Nat} {w w' : World} {A : Option Addr} {D : Dk} (h : DiskAt B w g gd gn A c D) (hk : ∀ k, (k = g ∨ k = gd ∨ k = gn ∨ ∃ a, A = some a ∧ a.block = k) → w'.heap[k]? = w.heap[k]?) : DiskAt B w' g gd gn A c D :=
  ⟨(hk g (.inl rfl)).trans h.blk, (hk gd (.inr (.inl rfl))).trans h.dur, (hk gn (.inr (.inr (.inl rfl)))).trans h.new, ownsRow_far h.pen fun a ha => hk _ (.inr (.inr (.inr ⟨a, ha, rfl⟩))), h.base⟩
section
variable {w0 w : World} {X : Bk} {D : Dk} {L : Lg}
theorem LgAt.diskAlt (h : LgAt w0 w X D L) {w' : World} (ha : Alt X.q X.q w w') : DiskAt w0.heap.size w' X.g X.gd X.gn X.A X.c D := by
  obtain ⟨⟨n1, n2, n3, n4⟩, -⟩ := h.ne
  refine h.disk.keep1 fun k hk => ?_
  rcases hk with rfl | rfl | rfl | ⟨a, hA, rfl⟩
  · exact ha.2.2 _ (Ne.symm n1) h.disk.blk.lt
  · exact ha.2.2 _ (Ne.symm n2) h.disk.dur.lt
  · exact ha.2.2 _ (Ne.symm n3) h.disk.new.lt
  · exact ha.2.2 _ (n4 a hA) (own_base h.disk.pen a hA).2
/-- A field of the log written. -/
theorem LgAt.put (h : LgAt w0 w X D L) (i : Nat) (v : Value) (L' : Lg) (ht : L'.tail = L.tail) (hl : (logC X.g X.tv L).set i v = logC X.g X.tv L') : LgAt w0 (w.setCell ⟨X.q, i, none⟩ v) X D L' := by
  obtain ⟨-, n5⟩ := h.ne
  have ha : Alt X.q X.q w (w.setCell ⟨X.q, i, none⟩ v) := Alt.set
  refine ⟨h.ext.alt ha h.base, h.diskAlt ha, by rw [← hl]; exact h.blk.set i v, ?_, h.base⟩
  rw [ht]
  exact h.tail.keep1 fun k hk => ha.2.2 k (n5 k hk).1 (own_block h.tail k hk).2.1
theorem LgAt.putTail (h : LgAt w0 w X D L) (v : Value) (l : List UInt8) (hv : Own w w0.heap.size v l) : LgAt w0 (w.setCell ⟨X.q, 9, none⟩ v) { X with tv := v } D { L with tail := l } := by
  have ha : Alt X.q X.q w (w.setCell ⟨X.q, 9, none⟩ v) := Alt.set
  refine ⟨h.ext.alt ha h.base, h.diskAlt ha, h.blk.set 9 v, ?_, h.base⟩
  refine hv.keep1 fun k hk => ha.2.2 k (fun e => ?_) (own_block hv k hk).2.1
  subst e
  exact own_apartR h.blk (by decide) hv hk.symm
def FnPost (w0 w : World) (X : Bk) (D : Dk) (L : Lg) (e : Ending) (w' : World) : Prop :=
  e = .returned (.int .i64 (fnE D L)) ∧ Alt X.q X.q w w' ∧ (fnE D L = 0 → ∃ tv', LgAt w0 w' { X with tv := tv' } D (fnL D L) ∧ ∀ k, tv'.ownBlock = some k → w.heap.size ≤ k)
set_option maxRecDepth 20000 in
set_option maxHeartbeats 3200000 in
theorem find_any (h : LgAt w0 w X D L) (ok : L.Ok D) (b : Bd D) (hf : L.hd.fi < 576460752303423488) (hT : Tab w0) : Calls Tryz.prog 49 #[.pointer (some ⟨X.q, 0, none⟩)] w (FnPost w0 w X D L) := by
  have HL := hide h
  have HB := hide b
  have HT := hide hT
  have HOK := hide ok
  have HFI := hide hf
  have HFL : Hid (flo L.hd.fi ≤ L.hd.fi) := hide (flo_le _)
  have KT := hide (fun (W : World) (hW : Ext w W) => there_any (h.ext_ hW) ok b (flo L.hd.fi) (by have := flo_le L.hd.fi; omega) hT)
  have KF := hide (floor_any L.hd.fi w (by omega))
  have c5 := h.blk.cell (i := 5) rfl
  have HLT : Hid (X.q < w.heap.size) := hide h.blk.lt
  obtain ⟨fi, HFE⟩ : ∃ fi, Hid (L.hd.fi = fi) := ⟨_, hide rfl⟩
  obtain ⟨bs_, HBS⟩ : ∃ bs_, Hid (flo fi = bs_) := ⟨_, hide rfl⟩
  rw [HFE.out, HBS.out] at KT KF HFL
  rw [HFE.out] at c5 HFI
  cases hd : D.off with
  | true =>
    have HE : Hid (fnE D L = 8) := hide (by unfold fnE; rw [hd]; rfl)
    rw [hd, if_pos rfl, if_pos rfl] at KT
    clear h b hT ok hf hd
    go_enter Tryz.func49, Tryz.ntmps49
    go_wp2_with (first
      | (go_at_call 75; (with_reducible refine KF.out.mono ?_); rintro e w2 ⟨rfl, rfl⟩)
      | (go_at_call 76; (with_reducible refine (KT.out w (Ext.refl w)).mono ?_); rintro e w2 ⟨v, rfl, hv, hx2⟩; have HX2 := hide hx2; clear hv hx2))
    go_ret
    exact ⟨by rw [HE.out]; rfl, Alt.of_ext HX2.out (Nat.le_of_lt HLT.out), fun h => by rw [HE.out] at h; cases h⟩
  | false =>
    rw [hd, if_neg (by decide), if_neg (by decide)] at KT
    have HAL : Hid (fnAll D L = thP D L (L.hd.cn + 1) bs_ (L.hd.old : Int)) := hide (by unfold fnAll fnBase; rw [HFE.out, HBS.out])
    rw [← HAL.out] at KT
    obtain ⟨al, HALN⟩ : ∃ al, Hid (fnAll D L = al) := ⟨_, hide rfl⟩
    have HEN : Hid (fnEnd D L = runN al al.length (fi - bs_)) := hide (by unfold fnEnd fnBase; rw [HALN.out, HFE.out, HBS.out])
    have HFE1 : Hid (fnE D L = if fi - bs_ > al.length then 15 else if bs_ + fnEnd D L < L.hd.ck then 15 else 0) := hide (by unfold fnE fnSure fnBase; rw [hd, if_neg (by decide), HALN.out, HFE.out, HBS.out])
    have HALL : Hid (al.length < 4000000) := hide (by
      rw [← HALN.out]
      have h1 := thP_len D L (L.hd.cn + 1) (fnBase L) (L.hd.old : Int)
      have h2 := ok.cn
      unfold fnAll; omega)
    rw [HALN.out] at KT
    obtain ⟨m, HM⟩ : ∃ m, Hid (fi - bs_ = m) := ⟨_, hide rfl⟩
    rw [HM.out] at HEN HFE1
    have hw1 : IntKind.u64.wrap ((fi : Int) - (bs_ : Int)) = (m : Int) := by rw [IntKind.wrap_u64]; have := HM.out; have := HFI.out; have := HFL.out; omega
    have HMW : Hid (m < 1152921504606846976) := hide (by have := HM.out; have := HFI.out; omega)
    have hw2 : IntKind.i64.wrap (m : Int) = (m : Int) := by rw [IntKind.wrap_i64]; have := HMW.out; omega
    obtain ⟨n, HN⟩ : ∃ n, Hid (al.length = n) := ⟨_, hide rfl⟩
    have KT2 : Hid (Calls Tryz.prog 76 #[.pointer (some ⟨X.q, 0, none⟩), .int .u64 (bs_ : Int)] w (fun e w' => ∃ A c, e = .returned (.tuple #[.slice A n c, .int .i64 0]) ∧ n ≤ c ∧ Rd w' A al ∧ Ext w w')) := hide ((KT.out w (Ext.refl w)).mono (fun e w' ⟨v, he, hv, hx⟩ => by
      obtain ⟨A, c, rfl, hc, hr⟩ := hv.bytes
      rw [HN.out] at he hc
      exact ⟨A, c, he, hc, hr, hx⟩))
    rw [HN.out] at HEN HFE1 HALL
    clear KT
    have hnn : (n : Int) < 4000000 := by have := HALL.out; omega
    by_cases hmn : m > n
    · have HE : Hid (fnE D L = 15) := hide (by rw [HFE1.out, if_pos hmn])
      have hmi : (n : Int) < (m : Int) := by omega
      clear h b hT ok hf hd hmn
      go_enter Tryz.func49, Tryz.ntmps49
      go_wp2_with (first
        | (go_at_call 75; (with_reducible refine KF.out.mono ?_); rintro e w2 ⟨rfl, rfl⟩)
        | (go_at_call 76; (with_reducible refine KT2.out.mono ?_); rintro e w2 ⟨A, c, rfl, hc, hr, hx2⟩; have HX2 := hide hx2; have c5b := (HL.out.blk.ext hx2).cell (i := 5) rfl; rw [HFE.out] at c5b; clear hc hr hx2))
      go_ret
      exact ⟨by rw [HE.out]; rfl, Alt.of_ext HX2.out (Nat.le_of_lt HLT.out), fun h => by rw [HE.out] at h; cases h⟩
    · have HMN : Hid (m ≤ n) := hide (by omega)
      have hmi : ¬ (n : Int) < (m : Int) := by omega
      clear h b hT ok hf hd hmn hnn
      go_enter Tryz.func49, Tryz.ntmps49
      go_upto_region 9 with (first
        | (go_at_call 75; (with_reducible refine KF.out.mono ?_); rintro e w2 ⟨rfl, rfl⟩)
        | (go_at_call 76; (with_reducible refine KT2.out.mono ?_); rintro e w2 ⟨A, c, rfl, hc, hr, hx2⟩; have HX2 := hide hx2; have c5b := (HL.out.blk.ext hx2).cell (i := 5) rfl; rw [HFE.out] at c5b; have HC := hide hc; have HR := hide hr; clear hc hr hx2)
        | ((with_reducible show wpList _ _ _ (⟨some 37, _, _, _, _, _⟩ :: _) _ _); refine wpList_gives (gives_fromV rfl rfl rfl (run_fromI A n c m HMN.out _) ⟨rfl, rfl⟩) rfl ?_)
        | (go_at_call 77; (with_reducible refine (wholeSize_any (cutB A c m) (al.drop m) (n - m) (c - m) w2 (HR.out.cutF HN.out HC.out m HMN.out) (by rw [List.length_drop, HN.out]) (by have := HALL.out; omega)).mono ?_); rintro e w3 ⟨rfl, hx3⟩; have HX3 := hide (HX2.out.trans hx3); have HR3 := hide (HR.out.ext hx3); clear hx3))
      have HRN : Hid (runN al n m = fnEnd D L) := hide (by rw [HEN.out])
      have HX33 : Hid (Ext w3 w3) := hide (Ext.refl w3)
      clear hmi hw1 hw2 c5 c5b
      go_loopw [6, 7] (fun x y wr => ∃ e : Nat, e ≤ n ∧ x = .int .i64 (e : Int) ∧ y = .int .i64 (whSz (al.drop e) : Int) ∧ Hid (Ext w3 wr) ∧ Hid (runN al n e = fnEnd D L)) (fun x _ _ => n + 1 - (intOf x).toNat)
      case atStart => exact ⟨m, HMN.out, rfl, rfl, HX33, HRN⟩
      case round =>
        obtain ⟨e, he, rfl, rfl, HX, HRE⟩ := hrel
        have HRR := hide (HR3.out.ext HX.out)
        have HXW : Hid (Ext w wr) := hide (HX3.out.trans HX.out)
        obtain ⟨z, HZ⟩ : ∃ z, Hid (whSz (al.drop e) = z) := ⟨_, hide rfl⟩
        have HZL : Hid (e + z ≤ n) := hide (by have h1 := whSz_le (al.drop e); rw [HZ.out, List.length_drop, HN.out] at h1; omega)
        have HST : Hid (runN al n e = if z = 0 then e else runN al n (e + z)) := hide (by
          rw [← HZ.out]
          have h1 := runN_more al n e (by rw [HN.out]; exact he) (by rw [HN.out]; omega)
          rw [← h1]
          rfl)
        rw [HZ.out]
        by_cases hz : z = 0
        · subst hz
          have HEE : Hid (fnEnd D L = e) := hide (by rw [← HRE.out, HST.out, if_pos rfl])
          have hzz : ¬ ((0 : Nat) : Int) > 0 := by omega
          have HLW := hide (HL.out.ext_ HXW.out)
          have r8 := HLW.out.blk.cell (i := 8) rfl
          have f8 := HLW.out.blk.frozen 8
          obtain ⟨su, HSU⟩ : ∃ su, Hid (bs_ + e = su) := ⟨_, hide rfl⟩
          have HSUL : Hid (su < 1152921504606846976) := hide (by have := HSU.out; have := HFI.out; have := HFL.out; have := HALL.out; omega)
          have hws1 : IntKind.u64.wrap (e : Int) = (e : Int) := by rw [IntKind.wrap_u64]; have := HALL.out; omega
          have hws2 : IntKind.u64.wrap ((bs_ : Int) + (e : Int)) = (su : Int) := by rw [IntKind.wrap_u64]; have := HSU.out; have := HSUL.out; omega
          have HL4 := hide (HLW.out.put 8 (.int .u64 (su : Int)) { L with sure := su } rfl rfl)
          have HA4 : Hid (Alt X.q X.q w (wr.setCell ⟨X.q, 8, none⟩ (.int .u64 (su : Int)))) := hide ((Alt.of_ext HXW.out (Nat.le_of_lt HLT.out)).trans Alt.set)
          have s8 := HL4.out.blk.cell (i := 8) rfl
          have s6 := HL4.out.blk.cell (i := 6) rfl
          simp only at s8 s6
          have HR4 : Hid (Rd (wr.setCell ⟨X.q, 8, none⟩ (.int .u64 (su : Int))) A al) := hide (rd_laid2 HRR.out HLW.out.blk (by
            intro v hv z hz
            subst hz
            have htv : X.tv ≠ .int .u8 z := by
              intro e
              rcases HLW.out.tail.2 with ⟨h1, _⟩ | ⟨g', cap, cur, h1, _⟩ <;> rw [e] at h1 <;> cases h1
            simp [logC] at hv
            exact htv hv.symm) (Laid1.of_cell wr X.q 8 _))
          obtain ⟨w4, hw4⟩ : ∃ w4, wr.setCell ⟨X.q, 8, none⟩ (.int .u64 (su : Int)) = w4 := ⟨_, rfl⟩
          rw [hw4] at HL4 HA4 s8 s6 HR4
          have HFE2 : Hid (fnE D L = if su < L.hd.ck then 15 else 0) := hide (by rw [HFE1.out, if_neg (by have := HMN.out; omega), HEE.out, HSU.out])
          by_cases hck : su < L.hd.ck
          · have HE : Hid (fnE D L = 15) := hide (by rw [HFE2.out, if_pos hck])
            have hcki : (su : Int) < (L.hd.ck : Int) := by omega
            clear hck
            go_wp2
            go_region
            go_wp2
            go_ret
            exact ⟨by rw [HE.out]; rfl, HA4.out.trans (Alt.of_ext (Ext.drew _) (Nat.le_of_lt HL4.out.blk.lt)), fun h => by rw [HE.out] at h; cases h⟩
          · have HE : Hid (fnE D L = 0) := hide (by rw [HFE2.out, if_neg hck])
            have hcki : ¬ (su : Int) < (L.hd.ck : Int) := by omega
            clear hck
            go_wp2
            go_region
            have HOK4 : Hid (({ L with sure := su } : Lg).Ok D) := hide ⟨HOK.out.hd, HOK.out.cn, HOK.out.at_, HSUL.out, HOK.out.tail, HOK.out.held⟩
            have HL5 : Hid (LgAt w0 w4.drew X D { L with sure := su }) := hide (HL4.out.ext_ (Ext.drew _))
            have KTA : Hid (Calls Tryz.prog 55 #[.pointer (some ⟨X.q, 0, none⟩)] w4.drew (Same w4.drew (.int .u64 (flo su : Int)))) := hide (tailAt_any HL5.out HOK4.out)
            obtain ⟨i, HI⟩ : ∃ i, Hid (flo su - bs_ = i) := ⟨_, hide rfl⟩
            have HIE : Hid (i ≤ e ∧ bs_ + i = flo su) := hide (by
              have h1 := HI.out
              have h2 := HBS.out
              have h3 := HSU.out
              unfold flo at h1 h2 ⊢
              omega)
            obtain ⟨fs, HFS⟩ : ∃ fs, Hid (flo su = fs) := ⟨_, hide rfl⟩
            rw [HFS.out] at KTA HIE
            have hwi : IntKind.u64.wrap ((fs : Int) - (bs_ : Int)) = (i : Int) := by rw [IntKind.wrap_u64]; have := HIE.out.2; have := HIE.out.1; have := HALL.out; omega
            obtain ⟨d, HDD⟩ : ∃ d, Hid (i + d = e) := ⟨e - i, hide (by have := HIE.out.1; omega)⟩
            have HTL : Hid ((al.drop i).take d = fnTail D L) := hide (by
              have h5 : fnSure D L = su := by unfold fnSure fnBase; rw [HEE.out, HFE.out, HBS.out, HSU.out]
              unfold fnTail
              rw [h5, HALN.out, HEE.out, HFS.out, show fnBase L = bs_ by unfold fnBase; rw [HFE.out, HBS.out], List.drop_take, show fs - bs_ = i by have := HIE.out.2; omega, show e - i = d by have := HDD.out; omega])
            have HTLL : Hid (((al.drop i).take d).length = d) := hide (by rw [List.length_take, List.length_drop, HN.out]; have := HDD.out; omega)
            have HR5 : Hid (Rd w4.drew A al) := hide (HR4.out.ext (Ext.drew _))
            have KCL := hide (clone_any (cutB A c i) ((al.drop i).take d) d (c - i) w4.drew (HR5.out.cutT HN.out HC.out i d (by have := HDD.out; omega)) HTLL.out (by have := HDD.out; have := HALL.out; omega))
            obtain ⟨tt, HTT⟩ : ∃ tt, Hid ((al.drop i).take d = tt) := ⟨_, hide rfl⟩
            rw [HTT.out] at KCL HTL HTLL
            go_wp2_with (first
              | (go_at_call 55; (with_reducible refine KTA.out.mono ?_); rintro e w5 ⟨rfl, rfl⟩)
              | ((with_reducible show wpList _ _ _ (⟨some 72, _, _, _, _, _⟩ :: _) _ _); refine wpList_gives (gives_cutV rfl rfl rfl rfl (run_cutUI A n c i e d HDD.out HIE.out.1 (by have := HC.out; omega) _) ⟨rfl, rfl⟩) rfl ?_)
              | (go_at_call 56; (with_reducible refine KCL.out.mono ?_); rintro e w6 ⟨v, rfl, hx6, ho6⟩; obtain ⟨A6, c6, hv6, -, -⟩ := ho6.bytes; rw [HTLL.out] at hv6; subst hv6; have HOB := hide (fun k hk => (own_block ho6 k hk).1); have HX6 := hide hx6; have HO6 := hide (ho6.low (HL5.out.ext.size)); have HL6 := hide (HL5.out.ext_ hx6); have r9 := HL6.out.blk.cell (i := 9) rfl; have f9 := HL6.out.blk.frozen 9; clear hx6 ho6))
            go_ret
            have HP9 := HL6.out.putTail _ _ HO6.out
            have e1 : ({ ({ L with sure := su } : Lg) with tail := tt } : Lg) = fnL D L := by
              unfold fnL
              rw [show fnSure D L = su by unfold fnSure fnBase; rw [HEE.out, HFE.out, HBS.out, HSU.out], ← HTL.out]
            rw [e1] at HP9
            exact ⟨by rw [HE.out]; rfl, ((HA4.out.trans (Alt.of_ext (Ext.drew _) (Nat.le_of_lt HL4.out.blk.lt))).trans (Alt.of_ext HX6.out (Nat.le_of_lt HL5.out.blk.lt))).trans Alt.set, fun _ => ⟨_, HP9, fun k hk => Nat.le_trans (HA4.out.trans (Alt.of_ext (Ext.drew _) (Nat.le_of_lt HL4.out.blk.lt))).2.1 (HOB.out k hk)⟩⟩
        · obtain ⟨e2, HE2⟩ : ∃ e2, Hid (e + z = e2) := ⟨_, hide rfl⟩
          have HE2L : Hid (e2 ≤ n) := hide (by rw [← HE2.out]; exact HZL.out)
          have HRE2 : Hid (runN al n e2 = fnEnd D L) := hide (by rw [← HRE.out, HST.out, if_neg hz, HE2.out])
          have hwz : IntKind.i64.wrap ((e : Int) + (z : Int)) = (e2 : Int) := by rw [IntKind.wrap_i64]; have := HE2.out; have := HE2L.out; have := HALL.out; omega
          have hzi : (0 : Int) < (z : Int) := by omega
          have HMS : Hid (n + 1 - e2 < n + 1 - e) := hide (by have := HE2.out; have := HE2L.out; omega)
          clear hz
          go_wp2_with (first
            | ((with_reducible show wpList _ _ _ (⟨some 43, _, _, _, _, _⟩ :: _) _ _); refine wpList_gives (gives_fromV rfl rfl rfl (run_fromI A n c e2 HE2L.out _) ⟨rfl, rfl⟩) rfl ?_)
            | (go_at_call 77; (with_reducible refine (wholeSize_any (cutB A c e2) (al.drop e2) (n - e2) (c - e2) wr (HRR.out.cutF HN.out HC.out e2 HE2L.out) (by rw [List.length_drop, HN.out]) (by have := HALL.out; omega)).mono ?_); rintro e w5 ⟨rfl, hx5⟩; have HX5 := hide (HX.out.trans hx5); clear hx5))
          refine ⟨⟨e2, HE2L.out, rfl, rfl, HX5, HRE2⟩, ?_⟩
          show n + 1 - ((e2 : Int)).toNat < n + 1 - ((e : Int)).toNat
          have := HMS.out
          omega
end
end Go.Proofs.YtnkcneccolbbdaaGreatDoor
namespace Go.Proofs.YtnkcneccolbbdaaGreatDoor
open Go.RowKit

def endOf (L : Lg) : Nat := flo L.sure + L.tail.length
def roomOf (L : Lg) : Int := (((L.hd.st / 480 + L.hd.cn) * 480 : Nat) : Int) - (endOf L : Int) - (L.held : Int)
section
variable {w0 w : World} {X : Bk} {D : Dk} {L : Lg}
theorem endOf_lt (ok : L.Ok D) : endOf L < 1152921505680588800 := by
  have h1 := ok.sure
  have h2 := ok.tail
  have h3 := flo_le L.sure
  unfold endOf; omega
set_option maxHeartbeats 800000 in
theorem end_any (h : LgAt w0 w X D L) (ok : L.Ok D) : Calls Tryz.prog 53 #[.pointer (some ⟨X.q, 0, none⟩)] w (fun e w' => e = .returned (.int .u64 (endOf L : Int)) ∧ ∃ m, w' = w.drewN m) := by
  have KT : Hid (∀ (W : World), Ext w W → Calls Tryz.prog 55 #[.pointer (some ⟨X.q, 0, none⟩)] W (fun e w' => e = .returned (.int .u64 (flo L.sure : Int)) ∧ ∃ m, w' = W.drewN m)) := hide (fun (W : World) (hW : Ext w W) => (tailAt_any (h.ext_ hW) ok).mono (fun e w' hs => by obtain ⟨rfl, rfl⟩ := hs; exact ⟨rfl, 0, rfl⟩))
  obtain ⟨At, ct, htv, -, -⟩ := h.tail.bytes
  have c9 := h.blk.cell (i := 9) rfl
  rw [htv] at c9
  have HTL : Hid (L.tail.length < 1073741824) := hide ok.tail
  have HEL := hide (endOf_lt ok)
  obtain ⟨n, HN⟩ : ∃ n, Hid (L.tail.length = n) := ⟨_, hide rfl⟩
  obtain ⟨f, HF⟩ : ∃ f, Hid (flo L.sure = f) := ⟨_, hide rfl⟩
  have HE : Hid (endOf L = f + n) := hide (by unfold endOf; rw [HF.out, HN.out])
  rw [HE.out] at HEL ⊢
  rw [HF.out] at KT
  rw [HN.out] at c9 HTL
  have hw1 : IntKind.u64.wrap (n : Int) = (n : Int) := by rw [IntKind.wrap_u64]; have := HTL.out; omega
  have hw2 : IntKind.u64.wrap ((f : Int) + (n : Int)) = ((f + n : Nat) : Int) := by rw [IntKind.wrap_u64]; have := HEL.out; omega
  have HW2 := hide hw2
  obtain ⟨y, HY⟩ : ∃ y : Int, Hid (((f + n : Nat) : Int) = y) := ⟨_, hide rfl⟩
  rw [HY.out] at hw2 ⊢
  clear h ok htv
  go_enter Tryz.func53, Tryz.ntmps53
  go_wp2
  go_quiet ((go_at_call 55; exact Calls.quiet_of (KT.out _ ((Ext.refl _).drewN _))))
  go_wp2
  go_ret
  exact ⟨rfl, _, rfl⟩
theorem end_nil : Calls Tryz.prog 53 #[.pointer none] w (Same w (.int .u64 0)) := by
  go_enter Tryz.func53, Tryz.ntmps53
  go_wp2
  go_ret
  exact ⟨rfl, rfl⟩
set_option maxHeartbeats 1600000 in
theorem room_any (h : LgAt w0 w X D L) (ok : L.Ok D) (hs : L.hd.st < 1152921504606846976) : Calls Tryz.prog 43 #[.pointer (some ⟨X.q, 0, none⟩)] w (fun e w' => e = .returned (.int .i64 (roomOf L)) ∧ ∃ m, w' = w.drewN m) := by
  have KE := hide (fun (W : World) (hW : Ext w W) => end_any (h.ext_ hW) ok)
  have HL := hide h
  have c4 := h.blk.cell (i := 4) rfl
  have c7 := h.blk.cell (i := 7) rfl
  have c10 := h.blk.cell (i := 10) rfl
  have hcn := ok.cn.2
  have hen := endOf_lt ok
  have hhe := ok.held
  have HR : Hid (roomOf L = ((L.hd.st : Int) / 480 + (L.hd.cn : Int)) * 480 - (endOf L : Int) - (L.held : Int)) := hide (by unfold roomOf; omega)
  rw [HR.out]
  obtain ⟨en, HEN⟩ : ∃ en, Hid (endOf L = en) := ⟨_, hide rfl⟩
  rw [HEN.out] at KE hen ⊢
  generalize L.hd.st = st at *
  generalize L.hd.cn = cn at *
  generalize L.held = he at *
  have hw0 : IntKind.u64.wrap ((st : Int) / 480) = (st : Int) / 480 := by rw [IntKind.wrap_u64]; omega
  have hw1 : IntKind.u64.wrap ((st : Int) / 480 + (cn : Int)) = (st : Int) / 480 + (cn : Int) := by rw [IntKind.wrap_u64]; omega
  have hw2 : IntKind.u64.wrap (((st : Int) / 480 + (cn : Int)) * 480) = ((st : Int) / 480 + (cn : Int)) * 480 := by rw [IntKind.wrap_u64]; omega
  have hw3 : IntKind.i64.wrap (IntKind.u64.wrap (((st : Int) / 480 + (cn : Int)) * 480 - (en : Int))) = ((st : Int) / 480 + (cn : Int)) * 480 - (en : Int) := by rw [IntKind.wrap_u64, IntKind.wrap_i64]; omega
  have hw4 : IntKind.i64.wrap (((st : Int) / 480 + (cn : Int)) * 480 - (en : Int) - (he : Int)) = ((st : Int) / 480 + (cn : Int)) * 480 - (en : Int) - (he : Int) := by rw [IntKind.wrap_i64]; omega
  clear h ok hcn hen hhe hs
  go_enter Tryz.func43, Tryz.ntmps43
  go_wp2
  go_quiet ((go_at_call 53; exact Calls.quiet_of (KE.out _ ((Ext.refl _).drewN _))))
  go_wp2
  go_ret
  exact ⟨rfl, _, rfl⟩
theorem room_nil : Calls Tryz.prog 43 #[.pointer none] w (Same w (.int .i64 0)) := by
  go_enter Tryz.func43, Tryz.ntmps43
  go_wp2
  go_ret
  exact ⟨rfl, rfl⟩
end
end Go.Proofs.YtnkcneccolbbdaaGreatDoor
