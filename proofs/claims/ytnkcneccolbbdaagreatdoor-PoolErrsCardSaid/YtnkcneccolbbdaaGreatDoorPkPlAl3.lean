/-
  The disk's awake: contract.
  The calls of the disk, in all cases (without the document's own).
  A sector's bytes, written: the program's 'sealed'.
  The program's writeHead and writePart.
  A region that draws its order, one of whose operations writes into a block of the call's own, that is none of what the others' facts speak of; it need not be the last.
  A sector's numbers, read: the program's 'unseal'.
  The program's readHead and readPart.
  The program's readPart.
  The program's fits, nextEpoch and Format.
-/
import Derived.Lib.SlBytesConst
import Derived.Deep.RegionLaw
import Derived.BigQuiet
import Derived.Deep.Cut
import Derived.Deep.CutRange
import Derived.Test.YtnkcneccolbbdaaGreatDoorPkPlAl0
import Derived.Test.YtnkcneccolbbdaaGreatDoorPkPlAl1
import Derived.Test.YtnkcneccolbbdaaGreatDoorPkPlAl2
set_option linter.unusedVariables false
set_option linter.unusedSimpArgs false

namespace Go.Proofs.YtnkcneccolbbdaaGreatDoor
open Go.RowKit

theorem own_base {B t size n c : Nat} {w : World} {A : Option Addr} {xs : List Value} (h : w.ownsRow B t size (.slice A n c) n xs) : ∀ a, A = some a → B ≤ a.block ∧ a.block < w.heap.size := fun a ha => by
  rcases h.2 with ⟨hv, _⟩ | ⟨g', _, _, hv, hb, hg', _⟩
  · injection hv with hv; rw [ha] at hv; cases hv
  · injection hv with hv; rw [ha] at hv; injection hv with hv; subst hv; exact ⟨hb, (Array.getElem?_eq_some_iff.1 hg').1⟩
/-- A disk that the call itself made: what turns is its own. -/
theorem Dfr.grown {g gd gn c : Nat} {w0 w w' : World} {A : Option Addr} {D : Dk} (h : Ext w0 w) (hd : DiskAt w0.heap.size w g gd gn A c D) (k : Dfr g gd gn A w w') : Ext w0 w' :=
  ⟨k.os.trans h.os, k.tape.trans h.tape, k.output.trans h.output, Nat.le_trans h.size k.size, fun b hb => (k.other b (Nat.lt_of_lt_of_le hb h.size) (by have := hd.base; omega) (by have := hd.base; omega) (by have := hd.base; omega) (fun a ha e => by have := (own_base hd.pen a ha).1; omega)).trans (Below.block h b hb)⟩
theorem Dk.fallen_dur (D : Dk) (keep : List Bool) : (D.fallen keep).dur = durK (fun k => keep.getD k false) D.dur D.pen D.pen.length := rfl
theorem Dk.fallen_ok {D : Dk} (ok : D.Ok) (keep : List Bool) : (D.fallen keep).Ok :=
  ⟨by rw [Dk.fallen_dur, durK_len]; exact ok.pos, by rw [Dk.fallen_dur, durK_len]; exact ok.max, by rw [Dk.fallen_dur]; exact durK_lens ok.dur ok.pens _, fun x hx => by cases hx⟩
def Dk.more (D : Dk) (k : Nat) (p : List UInt8) : Dk := { D with pen := D.pen ++ [(k, p)], ops := D.ops + 1 }
theorem Dk.more_ok {D : Dk} (ok : D.Ok) {k : Nat} (hk : k < D.dur.length) {p : List UInt8} (hp : p.length = 512) : (D.more k p).Ok :=
  ⟨ok.pos, ok.max, ok.dur, fun x hx => by
    rcases List.mem_append.1 hx with h | h
    · exact ok.pen x h
    · rw [List.mem_singleton.1 h]; exact ⟨hk, hp⟩⟩
theorem Rd.of_rw {w : World} {g : Nat} {t : TypeId} {l : List UInt8} (h : Rw w g t (bs l)) : Rd w (some ⟨g, 0, none⟩) l := fun _ => ⟨g, 0, rfl, fun j u hu => by rw [Nat.zero_add]; exact h.cell (by rw [bs_get, hu]; rfl)⟩
theorem write_quiet {B g gd gn c q : Nat} {w : World} {A : Option Addr} {D : Dk} (h : DiskAt B w g gd gn A c D) (ok : D.Ok) (hoff : D.off = false) (harm : D.arm = 0) (hf : D.pen.length < 1000000) (ho : D.ops < 1000000) (k : Nat) (hk : k < D.dur.length)
    (p : List UInt8) (hp : p.length = 512) (hq : Rw w q 5 (bs p)) (hB : B ≤ w.heap.size) :
    Calls Tryz.prog 59 #[.pointer (some ⟨g, 0, none⟩), .int .i64 (k : Int), .slice (some ⟨q, 0, none⟩) 512 512] w (DPost B g gd gn w A (.int .i64 0) (D.more k p)) := by
  have h1 := write_any (d := 512) h ok hoff hf ho (by omega) k hk p hp (Rd.of_rw hq) hB
  have e1 : (D.put k p).opE = 0 := by unfold Dk.opE Dk.put; rw [if_neg (by show ¬ D.arm = 1; omega)]
  have e2 : (D.put k p).op = D.more k p := by
    obtain ⟨a, b, c, d, e⟩ := D
    simp only at hoff harm
    subst hoff harm
    rfl
  rw [e1, e2] at h1
  exact h1
theorem write_zero {B g gd gn c q : Nat} {w : World} {A : Option Addr} {D : Dk} (h : DiskAt B w g gd gn A c D) (ok : D.Ok) (hoff : D.off = false) (harm : D.arm = 0) (hf : D.pen.length < 1000000) (ho : D.ops < 1000000) (hk : 0 < D.dur.length)
    (p : List UInt8) (hp : p.length = 512) (hq : Rw w q 5 (bs p)) (hB : B ≤ w.heap.size) :
    Calls Tryz.prog 59 #[.pointer (some ⟨g, 0, none⟩), .int .i64 0, .slice (some ⟨q, 0, none⟩) 512 512] w (DPost B g gd gn w A (.int .i64 0) (D.more 0 p)) := write_quiet h ok hoff harm hf ho 0 hk p hp hq hB
theorem build_byte (b : Int) (W : World) : (Instr.buildSlice 32 1 #[(0, .int .u8 b)]).run Tryz.prog W = .ok (.slice (some ⟨W.heap.size, 0, none⟩) 1 1) (W.alloc (.cells #[.int .u8 b] 5)) := by
  obtain ⟨i0, hi, hz0, hz1, hz2⟩ := info_parts info_u8
  refine run_buildSlice W 32 5 1 #[(0, .int .u8 b)] #[.int .u8 b] i0 _ Tryz.underlying32 hi hz0 (by rw [hz1]; decide) (by rw [hz1]; decide) ?_
  rw [hz1]
  have h := Great.fill_whole (s := 1) (by decide) [.int .u8 b] ((Array.range (1 * 1)).map ((Value.int .u8 0).cells[· % (Value.int .u8 0).cells.size]!)) (by intro v hv; rw [List.mem_singleton.1 hv]; rfl) (by rw [Array.size_map, Array.size_range]; rfl)
  exact h
theorem build_bools (W : World) : (Instr.buildSlice 117 2 #[(0, .bool true), (1, .bool false)]).run Tryz.prog W = .ok (.slice (some ⟨W.heap.size, 0, none⟩) 2 2) (W.alloc (.cells #[.bool true, .bool false] 4)) := by
  have hz : (Tryz.prog.info? 4).map (fun i => (i.zero, i.size)) = some (some (.bool false), 1) := by kernel_rfl
  cases hq : Tryz.prog.info? 4 with
  | none => rw [hq] at hz; cases hz
  | some i =>
    rw [hq] at hz
    simp only [Option.map_some, Option.some.injEq, Prod.mk.injEq] at hz
    refine run_buildSlice W 117 4 2 #[(0, .bool true), (1, .bool false)] #[.bool true, .bool false] i _ Tryz.underlying117 hq hz.1 (by rw [hz.2]; decide) (by rw [hz.2]; decide) ?_
    rw [hz.2]
    have h := Great.fill_whole (s := 1) (by decide) [.bool true, .bool false] ((Array.range (2 * 1)).map ((Value.bool false).cells[· % (Value.bool false).cells.size]!)) (fun v hv => (List.mem_cons.1 hv).elim (fun e => by rw [e]; rfl) (fun hv => by rw [List.mem_singleton.1 hv]; rfl)) (by rw [Array.size_map, Array.size_range]; rfl)
    exact h
theorem at_awake (p q : List UInt8) : (((((D0 2).more 0 p).more 0 q).fallen [true, false]).at 0) = p := rfl
theorem keep_new {B g gd gn c : Nat} {w : World} {A : Option Addr} {D : Dk} (h : DiskAt B w g gd gn A c D) : ∀ W, Dfr g gd gn A (w.alloc (.cells #[.bool true, .bool false] 4)) W → RdB W (some ⟨w.heap.size, 0, none⟩) [true, false] := fun W hW _ => by
  have h1 : Rw (w.alloc (.cells #[.bool true, .bool false] 4)) w.heap.size 4 [.bool true, .bool false] := Rw.new _ _ _
  have lg := h.blk.lt
  have ld := h.dur.lt
  have ln := h.new.lt
  have h2 : Rw W w.heap.size 4 [.bool true, .bool false] := (hW.other _ h1.lt (by omega) (by omega) (by omega) (fun a ha e => by have := (own_base h.pen a ha).2; omega)).trans h1
  refine ⟨w.heap.size, 0, rfl, fun j v hv => ?_⟩
  rw [Nat.zero_add]
  refine h2.cell ?_
  have : ([true, false].map Value.bool)[j]? = some (.bool v) := by rw [List.getElem?_map, hv]; rfl
  exact this
theorem restart_two {B g gd gn c : Nat} {w : World} {A : Option Addr} {D : Dk} (h : DiskAt B w g gd gn A c D) (ok : D.Ok) (hf : D.pen.length < 1000000) (hB : B ≤ w.heap.size) :
    Calls Tryz.prog 37 #[.pointer (some ⟨g, 0, none⟩), .slice (some ⟨w.heap.size, 0, none⟩) 2 2] (w.alloc (.cells #[.bool true, .bool false] 4)) (DPost B g gd gn (w.alloc (.cells #[.bool true, .bool false] 4)) A (.int .i64 0) (D.fallen [true, false])) :=
  restart_any (ck := 2) (h.ext (Ext.alloc _ _)) ok hf (Nat.le_trans hB (Ext.alloc _ _).size) [true, false] (P := some ⟨w.heap.size, 0, none⟩) (keep_new h)
theorem read_awake {B g gd gn c : Nat} {w : World} {A : Option Addr} {p q : List UInt8} (h : DiskAt B w g gd gn A c ((((D0 2).more 0 p).more 0 q).fallen [true, false])) (ok : ((((D0 2).more 0 p).more 0 q).fallen [true, false]).Ok) :
    Calls Tryz.prog 27 #[.pointer (some ⟨g, 0, none⟩), .int .i64 0] w (RPost w p) := read_any h ok rfl (by show 0 < 1000000000; decide) 0 (Nat.lt_of_lt_of_le Nat.zero_lt_one ok.pos)
def Awake (w : World) (e : Ending) (w' : World) : Prop := e = .returned (.bool true) ∧ Ext w w'
end Go.Proofs.YtnkcneccolbbdaaGreatDoor
namespace Go.Proofs.YtnkcneccolbbdaaGreatDoor
open Go.RowKit

section
variable {B g gd gn c d : Nat} {w : World} {A Pp : Option Addr} {D : Dk}
theorem write_arg (h : DiskAt B w g gd gn A c D) (i : Int) (n : Nat) (hi : i < 0 ∨ (D.dur.length : Int) ≤ i) : Calls Tryz.prog 59 #[.pointer (some ⟨g, 0, none⟩), .int .i64 i, .slice Pp n d] w (Same w (.int .i64 1)) := by
  have KH := has_any h i
  rw [show (decide (0 ≤ i) && decide (i < (D.dur.length : Int))) = false by rw [Bool.and_eq_false_iff]; rcases hi with h | h; exact .inl (decide_eq_false (by omega)); exact .inr (decide_eq_false (by omega))] at KH
  have HK := hide KH
  clear h hi KH
  go_enter Tryz.func59, Tryz.ntmps59
  go_wp2_with (go_at_call 57; (with_reducible refine HK.out.mono ?_); rintro e w2 ⟨rfl, rfl⟩)
  go_ret
  exact ⟨rfl, rfl⟩
theorem write_form (h : DiskAt B w g gd gn A c D) (k n : Nat) (hk : k < D.dur.length) (hn : n ≠ 512) (hnl : n ≤ 140737488355328) : Calls Tryz.prog 59 #[.pointer (some ⟨g, 0, none⟩), .int .i64 (k : Int), .slice Pp n d] w (Same w (.int .i64 3)) := by
  have KH := has_any h (k : Int)
  rw [show (decide ((0 : Int) ≤ (k : Int)) && decide ((k : Int) < (D.dur.length : Int))) = true by simp; omega] at KH
  have HK := hide KH
  have hnz : ((n : Int) != 512) = true := by simp; omega
  clear h hk KH hn hnl
  go_enter Tryz.func59, Tryz.ntmps59
  go_wp2_with (go_at_call 57; (with_reducible refine HK.out.mono ?_); rintro e w2 ⟨rfl, rfl⟩)
  go_ret
  exact ⟨rfl, rfl⟩
theorem write_off (h : DiskAt B w g gd gn A c D) (k : Nat) (hk : k < D.dur.length) (hoff : D.off = true) : Calls Tryz.prog 59 #[.pointer (some ⟨g, 0, none⟩), .int .i64 (k : Int), .slice Pp 512 d] w (Same w (.int .i64 8)) := by
  obtain ⟨-, -, -, -, -, c5⟩ := disk_cells h
  rw [hoff] at c5
  have KH := has_any h (k : Int)
  rw [show (decide ((0 : Int) ≤ (k : Int)) && decide ((k : Int) < (D.dur.length : Int))) = true by simp; omega] at KH
  have HK := hide KH
  clear h hk KH hoff
  go_enter Tryz.func59, Tryz.ntmps59
  go_wp2_with (go_at_call 57; (with_reducible refine HK.out.mono ?_); rintro e w2 ⟨rfl, rfl⟩)
  go_ret
  exact ⟨rfl, rfl⟩
theorem new_bad (i : Int) (hi : i < 1 ∨ 4096 < i) : Calls Tryz.prog 21 #[.int .i64 i] w (Same w (.tuple #[.pointer none, .int .i64 1])) := by
  by_cases h1 : i < 1
  · clear hi
    go_enter Tryz.func21, Tryz.ntmps21
    go_wp2
    go_ret2
    exact ⟨rfl, rfl⟩
  · have h2 : 4096 < i := by omega
    clear hi
    go_enter Tryz.func21, Tryz.ntmps21
    go_wp2
    go_ret2
    exact ⟨rfl, rfl⟩
end
/-- What Write answers, and the disk behind it. -/
def wE (D : Dk) (i : Int) (p : List UInt8) : Int := if i < 0 ∨ (D.dur.length : Int) ≤ i then 1 else if p.length ≠ 512 then 3 else if D.off = true then 8 else (D.put i.toNat p).opE
def wD (D : Dk) (i : Int) (p : List UInt8) : Dk := if i < 0 ∨ (D.dur.length : Int) ≤ i then D else if p.length ≠ 512 then D else if D.off = true then D else (D.put i.toNat p).op
/-- What Sync answers, and the disk behind it. -/
def sE (D : Dk) : Int := if D.off = true then 8 else if D.arm = 1 then 8 else 0
def sD (D : Dk) : Dk := if D.off = true then D else if D.arm = 1 then D.op else D.op.settled fun _ => true
/-- What Read answers. -/
def gE (D : Dk) (i : Int) : Int := if i < 0 ∨ (D.dur.length : Int) ≤ i then 1 else if D.off = true then 8 else 0
def gB (D : Dk) (i : Int) : List UInt8 := if i < 0 ∨ (D.dur.length : Int) ≤ i then [] else if D.off = true then [] else D.at i.toNat
section
variable {B g gd gn c d gl cl gx cx : Nat} {w : World} {A Pp AX : Option Addr} {D : Dk} {rest : List Value}
theorem dpost_same (h : DiskAt B w g gd gn A c D) {r : Value} {e : Ending} {w' : World} (hs : Same w r e w') : DPost B g gd gn w A r D e w' := by
  obtain ⟨rfl, rfl⟩ := hs
  exact ⟨A, c, rfl, h, Dfr.refl _ _ _ _ _, Newer.refl _ _⟩
structure Bd (D : Dk) : Prop where
  ok : D.Ok
  pen : D.pen.length < 1000000
  ops : D.ops < 1000000
  arm : D.arm < 9223372036854775808
theorem write_uni (h : DiskAt B w g gd gn A c D) (b : Bd D) (hB : B ≤ w.heap.size) (i : Int) (p : List UInt8) (np : Nat) (hp : p.length = np) (hnl : np ≤ 140737488355328) (hP : Rd w Pp p) :
    Calls Tryz.prog 59 #[.pointer (some ⟨g, 0, none⟩), .int .i64 i, .slice Pp np d] w (DPost B g gd gn w A (.int .i64 (wE D i p)) (wD D i p)) := by
  unfold wE wD
  by_cases h1 : i < 0 ∨ (D.dur.length : Int) ≤ i
  · rw [if_pos h1, if_pos h1]
    exact (write_arg h i np h1).mono fun _ _ hs => dpost_same h hs
  · rw [if_neg h1, if_neg h1]
    obtain ⟨k, rfl⟩ : ∃ k : Nat, i = (k : Int) := ⟨i.toNat, by omega⟩
    have hk : k < D.dur.length := by omega
    by_cases h2 : p.length ≠ 512
    · rw [if_pos h2, if_pos h2]
      exact (write_form h k np hk (by rw [← hp]; exact h2) hnl).mono fun _ _ hs => dpost_same h hs
    · rw [if_neg h2, if_neg h2]
      have h512 : p.length = 512 := by omega
      obtain rfl : np = 512 := by omega
      by_cases h3 : D.off = true
      · rw [if_pos h3, if_pos h3]
        exact (write_off h k hk h3).mono fun _ _ hs => dpost_same h hs
      · rw [if_neg h3, if_neg h3, Int.toNat_natCast]
        exact write_any h b.ok (by simpa using h3) b.pen b.ops b.arm k hk p h512 hP hB
theorem sync_uni (h : DiskAt B w g gd gn A c D) (b : Bd D) (hB : B ≤ w.heap.size) : Calls Tryz.prog 33 #[.pointer (some ⟨g, 0, none⟩)] w (DPost B g gd gn w A (.int .i64 (sE D)) (sD D)) := by
  unfold sE sD
  by_cases h3 : D.off = true
  · rw [if_pos h3, if_pos h3]
    exact (sync_off h h3).mono fun _ _ hs => dpost_same h hs
  · rw [if_neg h3, if_neg h3]
    have hoff : D.off = false := by simpa using h3
    by_cases h1 : D.arm = 1
    · rw [if_pos h1, if_pos h1]
      exact sync_fall h hoff h1 b.ops
    · rw [if_neg h1, if_neg h1]
      exact sync_any h b.ok hoff h1 b.arm b.pen b.ops hB
/-- What Read leaves. -/
def RdPost (w : World) (D : Dk) (i : Int) (e : Ending) (w' : World) : Prop := ∃ v, e = .returned (.tuple #[v, .int .i64 (gE D i)]) ∧ Bytes (gB D i) w' v ∧ Ext w w'
theorem at_len (b : Bd D) (k : Nat) (hk : k < D.dur.length) : (D.at k).length = 512 := by
  unfold Dk.at
  split
  · rw [List.getD_eq_getElem?_getD, List.getElem?_eq_getElem hk]
    exact b.ok.dur _ (List.getElem_mem _)
  · rename_i h0
    rcases lastP_at D.pen.length D.pen k rfl with h | ⟨s, h1, h2, h3⟩
    · exact absurd h h0
    · rw [List.getD_eq_getElem?_getD, h1]
      exact (b.ok.pen _ (List.mem_of_getElem? h1)).2
theorem read_uni (h : DiskAt B w g gd gn A c D) (b : Bd D) (i : Int) : Calls Tryz.prog 27 #[.pointer (some ⟨g, 0, none⟩), .int .i64 i] w (RdPost w D i) := by
  unfold RdPost gE gB
  by_cases h1 : i < 0 ∨ (D.dur.length : Int) ≤ i
  · rw [if_pos h1, if_pos h1]
    refine (read_arg h i h1).mono fun e w' hs => ?_
    obtain ⟨rfl, rfl⟩ := hs
    exact ⟨_, rfl, ⟨none, 0, rfl, Nat.le_refl _, Rd.nil _ _⟩, Ext.refl _⟩
  · rw [if_neg h1, if_neg h1]
    obtain ⟨k, rfl⟩ : ∃ k : Nat, i = (k : Int) := ⟨i.toNat, by omega⟩
    have hk : k < D.dur.length := by omega
    by_cases h3 : D.off = true
    · rw [if_pos h3, if_pos h3]
      refine (read_off h h3 (k : Int) (by omega) (by omega)).mono fun e w' hs => ?_
      obtain ⟨rfl, rfl⟩ := hs
      exact ⟨_, rfl, ⟨none, 0, rfl, Nat.le_refl _, Rd.nil _ _⟩, Ext.refl _⟩
    · rw [if_neg h3, if_neg h3, Int.toNat_natCast]
      refine (read_any h b.ok (by simpa using h3) (by have := b.pen; omega) k hk).mono fun e w' hs => ?_
      obtain ⟨hh, rfl, hr, _, hx⟩ := hs
      have hl := at_len b k hk
      exact ⟨_, rfl, ⟨some ⟨hh, 0, none⟩, 512, by rw [hl], by rw [hl]; exact Nat.le_refl _, Rd.of_rw hr⟩, hx⟩
theorem wD_bd (b : Bd D) (hp : D.pen.length < 900000) (ho : D.ops < 900000) (i : Int) (p : List UInt8) : Bd (wD D i p) ∧ (wD D i p).pen.length ≤ D.pen.length + 1 ∧ (wD D i p).ops ≤ D.ops + 1 ∧ (wD D i p).dur.length = D.dur.length := by
  unfold wD
  split
  · exact ⟨b, by omega, by omega, rfl⟩
  · rename_i h1
    split
    · exact ⟨b, by omega, by omega, rfl⟩
    · rename_i h2
      split
      · exact ⟨b, by omega, by omega, rfl⟩
      · have hk : i.toNat < D.dur.length := by omega
        refine ⟨⟨⟨b.ok.pos, b.ok.max, b.ok.dur, fun x hx => ?_⟩, ?_, ?_, ?_⟩, ?_, Nat.le_refl _, rfl⟩
        · have hx : x ∈ D.pen ++ [(i.toNat, p)] := hx
          rcases List.mem_append.1 hx with hx | hx
          · exact b.ok.pen x hx
          · rw [List.mem_singleton.1 hx]; exact ⟨hk, by simpa using h2⟩
        · show (D.pen ++ [(i.toNat, p)]).length < 1000000
          rw [List.length_append, List.length_singleton]; omega
        · show D.ops + 1 < 1000000
          omega
        · show D.arm - 1 < 9223372036854775808
          have := b.arm; omega
        · show (D.pen ++ [(i.toNat, p)]).length ≤ D.pen.length + 1
          rw [List.length_append, List.length_singleton]; omega
theorem settled_bd (b : Bd D) (kept : Nat → Bool) (ar : Nat) (har : ar < 9223372036854775808) (op : Nat) (hop : op < 1000000) (f : Bool) : Bd ⟨durK kept D.dur D.pen D.pen.length, [], op, ar, f⟩ :=
  ⟨⟨by show 1 ≤ (durK kept D.dur D.pen D.pen.length).length; rw [durK_len]; exact b.ok.pos, by show (durK kept D.dur D.pen D.pen.length).length ≤ 4096; rw [durK_len]; exact b.ok.max, durK_lens b.ok.dur b.ok.pens _, fun x hx => (List.not_mem_nil hx).elim⟩, by show (0 : Nat) < 1000000; decide, hop, har⟩
theorem sD_bd (b : Bd D) (ho : D.ops < 900000) : Bd (sD D) ∧ (sD D).pen.length ≤ D.pen.length + 1 ∧ (sD D).ops ≤ D.ops + 1 ∧ (sD D).dur.length = D.dur.length := by
  unfold sD
  split
  · exact ⟨b, by omega, by omega, rfl⟩
  · split
    · exact ⟨⟨Dk.op_ok b.ok, b.pen, by show D.ops + 1 < 1000000; omega, by show D.arm - 1 < 9223372036854775808; have := b.arm; omega⟩, by show D.pen.length ≤ _; omega, Nat.le_refl _, rfl⟩
    · exact ⟨settled_bd b _ _ (by show D.arm - 1 < 9223372036854775808; have := b.arm; omega) _ (by show D.ops + 1 < 1000000; omega) _, by show (0 : Nat) ≤ _; omega, Nat.le_refl _, durK_len (fun _ => true) D.dur D.pen D.pen.length⟩
theorem fallen_bd (b : Bd D) (keep : List Bool) : Bd (D.fallen keep) ∧ (D.fallen keep).pen.length ≤ D.pen.length + 1 ∧ (D.fallen keep).ops ≤ D.ops + 1 ∧ (D.fallen keep).dur.length = D.dur.length :=
  ⟨settled_bd b _ 0 (by decide) _ b.ops _, by show (0 : Nat) ≤ _; omega, by show D.ops ≤ _; omega, durK_len (fun k => keep.getD k false) D.dur D.pen D.pen.length⟩
end
end Go.Proofs.YtnkcneccolbbdaaGreatDoor
namespace Go.Proofs.YtnkcneccolbbdaaGreatDoor
open Go.RowKit

/-- The bytes when so many numbers are written. -/
def sealK (kind : UInt8) (ns : List Int) (k : Nat) : List UInt8 := splice ((List.replicate 512 0).set 4 kind) 5 (numsB (ns.take k))
theorem sealK_len (kind : UInt8) (ns : List Int) (k : Nat) (h : ns.length ≤ 6) : (sealK kind ns k).length = 512 := by
  unfold sealK
  rw [length_splice _ _ _ (by rw [numsB_length, set4_length, List.length_take]; omega), set4_length]
theorem sealK_succ (kind : UInt8) (ns : List Int) (k : Nat) (n : Int) (h : ns.length ≤ 6) (hk : ns[k]? = some n) : splice (sealK kind ns k) (5 + 8 * k) (be64 n) = sealK kind ns (k + 1) := by
  have hkl := (List.getElem?_eq_some_iff.1 hk).1
  unfold sealK
  rw [numsB_take ns k n hk]
  have e : (numsB (ns.take k)).length = 8 * k := by rw [numsB_length, List.length_take]; omega
  rw [← e]
  exact splice_next _ _ _ _ (by rw [e, be64_length, set4_length]; omega)
theorem sealK_zero (kind : UInt8) (ns : List Int) : sealK kind ns 0 = (List.replicate 512 0).set 4 kind := by
  unfold sealK
  rw [List.take_zero]
  exact splice_nil _ _
theorem sealK_all (kind : UInt8) (ns : List Int) (tail : List UInt8) : splice (sealK kind ns ns.length) 32 tail = bodyB kind ns tail := by
  unfold sealK bodyB
  rw [List.take_of_length_le (Nat.le_refl _)]
theorem bs_set (l : List UInt8) (k : Nat) (x : UInt8) : (bs l).set k (.int .u8 (x.toNat : Int)) = bs (l.set k x) := by simp [bs, List.map_set]
set_option maxRecDepth 20000 in
set_option maxHeartbeats 1600000 in
theorem sealed_any (kind : UInt8) (gh n : Nat) (ns : List Int) (vN : Value) (T : Option Addr) (ct : Nat) (tail : List UInt8) (w : World) (hn : ns.length = n) (h6 : n ≤ 6) (hv : PtrS gh n w vN)
    (hc : ∀ j x, ns[j]? = some x → w.cell? ⟨gh, j, none⟩ = some (.int .u64 x) ∧ 0 ≤ x ∧ x < 18446744073709551616) (ht : Rd w T tail) (nt : Nat) (hnt : tail.length = nt) (htl : nt ≤ 480) (hT : Tab w) :
    Calls Tryz.prog 72 #[.int .u8 (kind.toNat : Int), vN, .slice T nt ct] w (FPost w (sealB kind ns tail)) := by
  obtain ⟨h, rfl, hp⟩ := hv
  have HP := hide hp
  have HC := hide hc
  have HT := hide ht
  have HTab := hide hT
  have HN := hide hn
  have HNT := hide hnt
  have hkb := kind.toNat_lt
  have HM := hide (make_512 w)
  have hmk := HM.out
  obtain ⟨z0, HZ⟩ : ∃ z0, Hid (bs (List.replicate 512 0) = z0) := ⟨_, hide rfl⟩
  rw [HZ.out] at hmk
  obtain ⟨w1, hw1⟩ : ∃ w1, w1 = w.alloc (.cells z0.toArray 5) := ⟨_, rfl⟩
  obtain ⟨g, hg⟩ : ∃ g, g = w.heap.size := ⟨_, rfl⟩
  rw [← hw1, ← hg] at hmk
  have HG : Hid (g = w.heap.size) := hide hg
  have HX1 : Hid (Ext w w1) := hide (by rw [hw1]; exact Ext.alloc _ _)
  have HR1 : Hid (Rw w1 g 5 (bs (List.replicate 512 0))) := hide (by rw [hw1, hg, HZ.out]; exact Rw.new _ _ _)
  have c4 := HR1.out.cell (i := 4) rfl
  have f4 := HR1.out.frozen 4
  have HR2 : Hid (Rw (w1.setCell ⟨g, 4, none⟩ (.int .u8 (kind.toNat : Int))) g 5 (bs (sealK kind ns 0))) := hide (by rw [sealK_zero, ← bs_set]; exact HR1.out.set 4 _)
  have HX2 : Hid (Ext w (w1.setCell ⟨g, 4, none⟩ (.int .u8 (kind.toNat : Int)))) := hide (Below.setCell (p := ⟨g, 4, none⟩) HX1.out (by rw [HG.out]; exact Nat.le_refl _) _)
  clear hw1 hg HM hp hc ht hT hn hnt HR1 HZ
  go_enter Tryz.func72, Tryz.ntmps72
  go_wp2
  clear hmk c4 f4
  go_loopw [8, 17] (fun a i wr => ∃ k : Nat, k ≤ n ∧ a = .int .i64 ((5 + 8 * k : Nat) : Int) ∧ i = .int .i64 (k : Int) ∧ Hid (Rw wr g 5 (bs (sealK kind ns k))) ∧ Hid (Ext w wr)) (fun _ i _ => n - (intOf i).toNat)
  case atStart => exact ⟨0, Nat.zero_le _, rfl, rfl, HR2, HX2⟩
  case round =>
    obtain ⟨k, hk, rfl, rfl, HW, HX⟩ := hrel
    clear HR2 HX2
    by_cases hlt : k < n
    · obtain ⟨x, hx⟩ : ∃ x, ns[k]? = some x := ⟨_, List.getElem?_eq_getElem (by rw [HN.out]; exact hlt)⟩
      obtain ⟨hc0, hx0, hx1⟩ := HC.out k x hx
      have cx := HX.out.keeps.cell hc0
      have cp := HX.out.keeps.cell (HP.out k hlt)
      unfold ptr at cp
      obtain ⟨q, HQ⟩ : ∃ q, Hid (be64 x = q) := ⟨_, hide rfl⟩
      have HQL : Hid (q.length = 8) := hide (by rw [← HQ.out]; rfl)
      have KU := hide (fun W => uint_any x W hx0 hx1)
      rw [HQ.out] at KU
      have HS : Hid (splice (sealK kind ns k) (5 + 8 * k) q = sealK kind ns (k + 1)) := hide (by rw [← HQ.out]; exact sealK_succ kind ns k x (by rw [HN.out]; exact h6) hx)
      obtain ⟨a, HA⟩ : ∃ a, Hid (5 + 8 * k = a) := ⟨_, hide rfl⟩
      rw [HA.out] at HS ⊢
      have HA5 : Hid (a ≤ 45) := hide (by have := HA.out; omega)
      have HKL : Hid ((sealK kind ns k).length = 512) := hide (sealK_len kind ns k (by rw [HN.out]; exact h6))
      have ha1 : (a : Int) ≤ 512 := by have := HA5.out; omega
      have ha2 : a ≤ 512 := by have := HA5.out; omega
      have ha3 : ¬ 512 = a := by have := HA5.out; omega
      have ha4 : (0 : Int) ≤ (a : Int) := by omega
      have hki : (k : Int) < (n : Int) := by omega
      have HXX := hide hx
      clear hx hc0 hx0 hx1
      have hq8 : (bs q).length = 8 := by rw [bs_length, HQL.out]
      go_wp2
      go_region_law (first
        | (go_simp; go_at_call 70; (with_reducible refine (KU.out _).mono ?_); rintro e w2 ⟨v, rfl, hx2, A2, c2, rfl, hc2, hr2⟩; rw [HQL.out] at hc2 ⊢; have HR2 := hide hr2; have HX2 : Hid (Ext w w2) := hide (HX.out.trans ((Ext.drew _).trans hx2)); have HW2 : Hid (Rw w2 g 5 (bs (sealK kind ns k))) := hide ((HW.out.ext (Ext.drew _)).ext hx2); clear hr2 hx2)
        | (refine step_copy_splice rfl (.tmp 24) (.tmp 28) 32 32 rfl 5 Tryz.underlying32 (by kernel_rfl) (some ⟨g, a, none⟩) A2 (512 - a) (512 - a) 8 c2 (by rfl) (by rfl) g a (bs (sealK kind ns k)) 5 HW2.out (bs q) (by rw [hq8]; have := HA5.out; exact (Nat.min_eq_left (by omega)).symm) (fun _ => ⟨rfl, copy_src HR2.out (fun e => by have := HQL.out; rw [e] at this; cases this)⟩) (by rw [bs_length (sealK kind ns k), HKL.out, hq8]; have := HA5.out; omega) (bs_one q) w.heap.size w HX2.out (by rw [HG.out]; exact Nat.le_refl _) ?_; intro w3 hg3 hb3; rw [hq8]))
      all_goals
        have HW3 : Hid (Rw w3 g 5 (bs (sealK kind ns (k + 1)))) := hide (by
          have h := hg3.out
          rw [splice_bs, HS.out] at h
          exact h)
        have HX3 := hide hb3
        have hwa : IntKind.i64.wrap ((a : Int) + 8) = ((5 + 8 * (k + 1) : Nat) : Int) := by rw [IntKind.wrap_i64]; have := HA.out; omega
        clear hg3 hb3
        go_wp2
        refine ⟨⟨k + 1, by omega, by first | rfl | rw [hwa], by go_num, HW3, HX3⟩, by simp [intOf]; omega⟩
    · obtain rfl : k = n := by omega
      have hki : ¬ (k : Int) < (k : Int) := by omega
      have HKL : Hid ((sealK kind ns k).length = 512) := hide (sealK_len kind ns k (by rw [HN.out]; exact h6))
      have HBL : Hid ((bodyB kind ns tail).length = 512) := hide (bodyB_length (by rw [HN.out]; exact h6) (by rw [HNT.out]; exact htl))
      have HBE : Hid (splice (sealK kind ns k) 32 tail = bodyB kind ns tail) := hide (by rw [← sealK_all, HN.out])
      obtain ⟨bd, HBD⟩ : ∃ bd, Hid (bodyB kind ns tail = bd) := ⟨_, hide rfl⟩
      have HSE : Hid (sealB kind ns tail = splice bd 0 (be4 (crc (bd.drop 4)))) := hide (by rw [← HBD.out]; rfl)
      rw [HSE.out]
      rw [HBD.out] at HBL HBE
      obtain ⟨s4, HS4⟩ : ∃ s4, Hid (be4 (crc (bd.drop 4)) = s4) := ⟨_, hide rfl⟩
      have HS4L : Hid (s4.length = 4) := hide (by rw [← HS4.out]; rfl)
      have KS := hide (fun (W : World) (hr : Rd W (some ⟨g, 0, none⟩) bd) (ht : Tab W) => sumOf_any (some ⟨g, 0, none⟩) 512 bd W hr HBL.out (Nat.le_refl _) ht)
      rw [HS4.out] at KS ⊢
      obtain ⟨sl, HSL⟩ : ∃ sl, Hid (sealK kind ns k = sl) := ⟨_, hide rfl⟩
      rw [HSL.out] at HW HBE HKL
      go_wp2_with (first
        | ((with_reducible show wpList _ _ _ (⟨some 35, _, _, _, _, _⟩ :: _) _ _); refine wpList_copy_splice rfl (.tmp 33) (.tmp 34) 32 32 rfl 5 Tryz.underlying32 (by kernel_rfl) (some ⟨g, 32, none⟩) T 480 480 nt ct (by rfl) (by rfl) g 32 (bs sl) 5 HW.out (bs tail) (by rw [bs_length, HNT.out]; exact (Nat.min_eq_left htl).symm) (fun hpos => ⟨rfl, copy_src (HT.out.ext HX.out) (fun e => by rw [e] at hpos; exact absurd hpos (by decide))⟩) (by rw [bs_length sl, HKL.out, bs_length, HNT.out]; omega) (bs_one tail) w.heap.size w HX.out (by rw [HG.out]; exact Nat.le_refl _) ?_; intro w3 hg3 hb3;
           have HW3 : Hid (Rw w3 g 5 (bs bd)) := hide (by have h := hg3.out; rw [splice_bs, HBE.out] at h; exact h);
           have HX3 : Hid (Ext w w3) := hide hb3; have ET3 : Hid (Tab w3) := hide (HTab.out.ext HX3.out); have ER3 : Hid (Rd w3 (some ⟨g, 0, none⟩) bd) := hide (Rd.of_rw HW3.out); clear hg3 hb3)
        | (go_at_call 93; (with_reducible refine (KS.out w3 ER3.out ET3.out).mono ?_); rintro e w4 ⟨v, rfl, hx4, A4, c4, rfl, hc4, hr4⟩; rw [HS4L.out] at hc4 ⊢; have HX4 : Hid (Ext w w4) := hide (HX3.out.trans hx4); have HR4 := hide hr4; have HW4 := hide (HW3.out.ext hx4); clear hx4 hr4)
        | ((with_reducible show wpList _ _ _ (⟨some 39, _, _, _, _, _⟩ :: _) _ _); refine wpList_copy_splice rfl (.tmp 36) (.tmp 38) 32 32 rfl 5 Tryz.underlying32 (by kernel_rfl) (some ⟨g, 0, none⟩) A4 512 512 4 c4 (by rfl) (by rfl) g 0 (bs bd) 5 HW4.out (bs s4) (by rw [bs_length, HS4L.out]; rfl) (fun _ => ⟨rfl, copy_src HR4.out (fun e => by have := HS4L.out; rw [e] at this; cases this)⟩) (by rw [bs_length bd, HBL.out, bs_length, HS4L.out]; omega) (bs_one s4) w.heap.size w HX4.out (by rw [HG.out]; exact Nat.le_refl _) ?_; intro w5 hg5 hb5;
           have HW5 : Hid (Rw w5 g 5 (bs (splice bd 0 s4))) := hide (by have h := hg5.out; rw [splice_bs] at h; exact h);
           have HX5 : Hid (Ext w w5) := hide hb5; clear hg5 hb5))
      go_ret
      refine ⟨g, rfl, ?_, by rw [HG.out]; exact Nat.le_refl _, HX5.out⟩
      first | exact HW5.out | (rw [HSE.out, HS4.out]; exact HW5.out)
end Go.Proofs.YtnkcneccolbbdaaGreatDoor
namespace Go.Proofs.YtnkcneccolbbdaaGreatDoor
open Go.RowKit

/-- What the first sector tells. -/
structure Hd where
  ep : Nat
  old : Nat
  st : Nat
  fi : Nat
  ck : Nat
  cn : Nat
def Hd.ns (h : Hd) : List Int := [(h.ep : Int), (h.old : Int), (h.st : Int), (h.fi : Int), (h.ck : Int), (h.cn : Int)]
structure Hd.Ok (h : Hd) : Prop where
  ep : h.ep < 18446744073709551616
  old : h.old < 18446744073709551616
  st : h.st < 18446744073709551616
  fi : h.fi < 18446744073709551616
  ck : h.ck < 18446744073709551616
  cn : h.cn < 18446744073709551616
def Hd.cs (h : Hd) : List Value := [.int .u64 (h.ep : Int), .int .u64 (h.old : Int), .int .u64 (h.st : Int), .int .u64 (h.fi : Int), .int .u64 (h.ck : Int), .int .u64 (h.cn : Int)]
theorem Hd.range {h : Hd} (ok : h.Ok) : ∀ (j : Nat) (x : Int), h.ns[j]? = some x → h.cs[j]? = some (Value.int .u64 x) ∧ 0 ≤ x ∧ x < 18446744073709551616 := by
  intro j x hj
  obtain ⟨h1, h2, h3, h4, h5, h6⟩ := ok
  rcases j with _ | _ | _ | _ | _ | _ | j
  all_goals first
    | (simp only [Hd.ns, List.getElem?_cons_succ, List.getElem?_cons_zero, Option.some.injEq] at hj; subst hj; exact ⟨rfl, by omega, by omega⟩)
    | (simp [Hd.ns] at hj)
section
variable {B g gd gn c : Nat} {w w1 : World} {A : Option Addr} {D D' : Dk} {r : Value} {e : Ending} {w' : World}
theorem DPost.pre (hx : Ext w w1) (h : DPost B g gd gn w1 A r D' e w') : DPost B g gd gn w A r D' e w' := by
  obtain ⟨A', c', he, hd, hf, hn⟩ := h
  exact ⟨A', c', he, hd, (Dfr.ext hx).trans hf (Newer.refl _ _), (Newer.refl w A).trans hn hx.size⟩
theorem DPost.same (h : DiskAt B w g gd gn A c D) (hx : Ext w w') (he : e = .returned r) : DPost B g gd gn w A r D e w' :=
  ⟨A, c, he, h.ext hx, Dfr.ext hx, Newer.refl _ _⟩
set_option maxHeartbeats 800000 in
theorem writeHead_any (h : DiskAt B w g gd gn A c D) (b : Bd D) (hB : B ≤ w.heap.size) (i : Int) (H : Hd) (ok : H.Ok) (hT : Tab w) :
    Calls Tryz.prog 47 #[.pointer (some ⟨g, 0, none⟩), .int .i64 i, .agg H.cs.toArray] w (DPost B g gd gn w A (.int .i64 (wE D i (sealB 1 H.ns []))) (wD D i (sealB 1 H.ns []))) := by
  have HD := hide h
  have HBD := hide b
  have HT := hide hT
  have HB := hide hB
  obtain ⟨q, HQ⟩ : ∃ q, Hid (sealB 1 H.ns [] = q) := ⟨_, hide rfl⟩
  have HQL : Hid (q.length = 512) := hide (by rw [← HQ.out]; exact sealB_length (by simp [Hd.ns]) (by simp))
  rw [HQ.out]
  obtain ⟨wa, HWA⟩ : ∃ wa, Hid (w.alloc (.cells H.cs.toArray 92) = wa) := ⟨_, hide rfl⟩
  have HXA : Hid (Ext w wa) := hide (by rw [← HWA.out]; exact Ext.alloc _ _)
  have HRA : Hid (Rw wa w.heap.size 92 H.cs) := hide (by rw [← HWA.out]; exact Rw.new _ _ _)
  have KN := hide (numbersH_any w.heap.size wa)
  have KS : Hid (∀ (W : World) (v : Value), Ext wa W → PtrS w.heap.size 6 W v → Calls Tryz.prog 72 #[.int .u8 1, v, .slice none 0 0] W (FPost W q)) := hide (fun (W : World) (v : Value) (hW : Ext wa W) (hv : PtrS w.heap.size 6 W v) => by
    have h := sealed_any 1 w.heap.size 6 H.ns v none 0 [] W rfl (Nat.le_refl _) hv (fun j x hj => by
      obtain ⟨h1, h2, h3⟩ := Hd.range ok j x hj
      exact ⟨(HRA.out.ext hW).cell h1, h2, h3⟩) (Rd.nil _ _) 0 rfl (by decide) (HT.out.ext (HXA.out.trans hW))
    rw [HQ.out] at h
    exact h)
  clear h b hT hB
  go_enter Tryz.func47, Tryz.ntmps47
  go_wp2_with (first
    | ((with_reducible show wpList _ _ _ (⟨some 5, .box _ _, _, _, _, _⟩ :: _) _ _); refine wpList_gives (gives_box rfl H.cs.toArray rfl ⟨rfl, rfl⟩) rfl ?_; rw [HWA.out])
    | (go_at_call 73; (with_reducible refine KN.out.mono ?_); rintro e w2 ⟨v, rfl, hx2, hp2⟩; have HX2 := hide hx2; have HP2 := hide hp2; clear hx2 hp2)
    | (go_at_call 72; (with_reducible refine (KS.out w2 v HX2.out HP2.out).mono ?_); rintro e w3 ⟨h3, rfl, hr3, -, hx3⟩; have HX3 : Hid (Ext w w3) := hide ((HXA.out.trans HX2.out).trans hx3); have HR3 := hide (Rd.of_rw hr3); clear hx3 hr3)
    | (go_at_call 59; (with_reducible refine (write_uni (HD.out.ext HX3.out) HBD.out (Nat.le_trans HB.out HX3.out.size) i q 512 HQL.out (by decide) HR3.out).mono ?_); rintro e w4 hp4; obtain ⟨A4, c4, rfl, hd4, hf4, hn4⟩ := DPost.pre HX3.out hp4; have HD4 := hide hd4; have HF4 := hide hf4; have HN4 := hide hn4; clear hp4 hd4 hf4 hn4))
  go_ret
  exact ⟨A4, c4, rfl, HD4.out, HF4.out, HN4.out⟩
/-- The numbers of a part. -/
def ptNs (num ep sz : Nat) : List Int := [(num : Int), (ep : Int), (sz : Int)]
set_option maxHeartbeats 1600000 in
theorem writePart_any (h : DiskAt B w g gd gn A c D) (b : Bd D) (hB : B ≤ w.heap.size) (i : Int) (num ep nt : Nat) (sz : Int) (h1 : num < 18446744073709551616) (h2 : ep < 18446744073709551616) (T : Option Addr) (ct : Nat) (tail : List UInt8) (hr : Rd w T tail) (hn : tail.length = nt) (hl : nt ≤ 480) (hT : Tab w) :
    Calls Tryz.prog 78 #[.pointer (some ⟨g, 0, none⟩), .int .i64 i, .agg #[.int .u64 (num : Int), .int .u64 (ep : Int), .int .u64 sz, .slice T nt ct]] w (DPost B g gd gn w A (.int .i64 (wE D i (sealB 2 (ptNs num ep nt) tail))) (wD D i (sealB 2 (ptNs num ep nt) tail))) := by
  have HD := hide h
  have HBD := hide b
  have HT := hide hT
  have HB := hide hB
  have HR := hide hr
  have HN := hide hn
  obtain ⟨q, HQ⟩ : ∃ q, Hid (sealB 2 (ptNs num ep nt) tail = q) := ⟨_, hide rfl⟩
  have HQL : Hid (q.length = 512) := hide (by rw [← HQ.out]; exact sealB_length (by simp [ptNs]) (by omega))
  rw [HQ.out]
  obtain ⟨wa, HWA⟩ : ∃ wa, Hid (w.alloc (.cells [Value.int .u64 (num : Int), .int .u64 (ep : Int), .int .u64 sz, .slice T nt ct].toArray 121) = wa) := ⟨_, hide rfl⟩
  obtain ⟨p, hp⟩ : ∃ p, w.heap.size = p := ⟨_, rfl⟩
  have HXA : Hid (Ext w wa) := hide (by rw [← HWA.out]; exact Ext.alloc _ _)
  have HRA : Hid (Rw wa p 121 [.int .u64 (num : Int), .int .u64 (ep : Int), .int .u64 sz, .slice T nt ct]) := hide (by rw [← HWA.out, ← hp]; exact Rw.new _ _ _)
  have a3 := HRA.out.cell (i := 3) rfl
  have a2 := HRA.out.cell (i := 2) rfl
  have f2 := HRA.out.frozen 2
  obtain ⟨wb, HWB⟩ : ∃ wb, Hid (wa.setCell ⟨p, 2, none⟩ (.int .u64 (nt : Int)) = wb) := ⟨_, hide rfl⟩
  have HRB : Hid (Rw wb p 121 [.int .u64 (num : Int), .int .u64 (ep : Int), .int .u64 (nt : Int), .slice T nt ct]) := hide (by rw [← HWB.out]; exact HRA.out.set 2 _)
  have HXB : Hid (Ext w wb) := hide (by rw [← HWB.out]; exact Below.setCell (p := ⟨p, 2, none⟩) HXA.out (by rw [hp]; exact Nat.le_refl _) _)
  have KN := hide (fun W => numbersP_any p W)
  have KS : Hid (∀ (W : World) (v : Value), Ext wb W → PtrS p 3 W v → Calls Tryz.prog 72 #[.int .u8 2, v, .slice T nt ct] W (FPost W q)) := hide (fun (W : World) (v : Value) (hW : Ext wb W) (hv : PtrS p 3 W v) => by
    have h := sealed_any 2 p 3 (ptNs num ep nt) v T ct tail W rfl (by decide) hv (fun j x hj => by
      have hh : ∃ u : Value, [Value.int .u64 (num : Int), .int .u64 (ep : Int), .int .u64 (nt : Int), .slice T nt ct][j]? = some u ∧ u = Value.int .u64 x ∧ 0 ≤ x ∧ x < 18446744073709551616 := by
        rcases j with _ | _ | _ | j
        all_goals first
          | (simp only [ptNs, List.getElem?_cons_succ, List.getElem?_cons_zero, Option.some.injEq] at hj; subst hj; exact ⟨_, rfl, rfl, by omega, by omega⟩)
          | (simp [ptNs] at hj)
      obtain ⟨u, h1, rfl, h2, h3⟩ := hh
      exact ⟨(HRB.out.ext hW).cell h1, h2, h3⟩) (HR.out.ext (HXB.out.trans hW)) nt HN.out hl (HT.out.ext (HXB.out.trans hW))
    rw [HQ.out] at h
    exact h)
  have hnt : (nt : Int) ≤ 480 := by omega
  have hnw : IntKind.u64.wrap (nt : Int) = (nt : Int) := by rw [IntKind.wrap_u64]; omega
  clear h b hT hB hr hn hl
  go_enter Tryz.func78, Tryz.ntmps78
  go_upto_region 2 with (first
    | ((with_reducible show wpList _ _ _ (⟨some 5, .box _ _, _, _, _, _⟩ :: _) _ _); refine wpList_gives (gives_box rfl #[.int .u64 (num : Int), .int .u64 (ep : Int), .int .u64 sz, .slice T nt ct] rfl ⟨rfl, rfl⟩) rfl ?_; rw [HWA.out, hp]))
  rw [HWB.out]
  have HPW : Hid (w.heap.size = p) := hide hp
  clear a2 a3 f2 hnw hp
  have b3 := HRB.out.cell (i := 3) rfl
  go_region_law (first
    | (go_simp; go_at_call 92; (with_reducible refine (KN.out _).mono ?_); rintro e w2 ⟨v, rfl, hx2, hp2⟩; have HX2 : Hid (Ext wb w2) := hide ((Ext.drew _).trans hx2); have HP2 := hide hp2; have c3 := (HRB.out.ext HX2.out).cell (i := 3) rfl; clear hx2 hp2)
    | (go_simp; go_at_call 72; (with_reducible refine (KS.out w2 v HX2.out HP2.out).mono ?_); rintro e w3 ⟨h3, rfl, hr3, -, hx3⟩; have HX3 : Hid (Ext w w3) := hide ((HXB.out.trans HX2.out).trans hx3); have HR3 := hide (Rd.of_rw hr3); clear hx3 hr3)
    | (go_simp; go_at_call 59; (with_reducible refine (write_uni (HD.out.ext HX3.out) HBD.out (Nat.le_trans HB.out HX3.out.size) i q 512 HQL.out (by decide) HR3.out).mono ?_); rintro e w4 hp4; obtain ⟨A4, c4, rfl, hd4, hf4, hn4⟩ := DPost.pre HX3.out hp4; have HD4 := hide hd4; have HF4 := hide hf4; have HN4 := hide hn4; clear hp4 hd4 hf4 hn4))
  all_goals
    go_wp2
    go_ret
    exact ⟨A4, c4, rfl, HD4.out, HF4.out, HN4.out⟩
end
end Go.Proofs.YtnkcneccolbbdaaGreatDoor
namespace Go.Proofs.YtnkcneccolbbdaaGreatDoor
open Go.RowKit

/-- Below B nothing has turned; from there on each block but one is as it was. -/
def Alt (B hb : Nat) (w w' : World) : Prop := Below B w w' ∧ w.heap.size ≤ w'.heap.size ∧ ∀ j, j ≠ hb → j < w.heap.size → w'.heap[j]? = w.heap[j]?
theorem Alt.refl (B hb : Nat) (w : World) : Alt B hb w w := ⟨Below.refl _ _, Nat.le_refl _, fun _ _ _ => rfl⟩
theorem Alt.trans {B hb : Nat} {a b c : World} (h : Alt B hb a b) (k : Alt B hb b c) : Alt B hb a c := ⟨h.1.trans k.1, Nat.le_trans h.2.1 k.2.1, fun j hj hl => by rw [k.2.2 j hj (Nat.lt_of_lt_of_le hl h.2.1), h.2.2 j hj hl]⟩
theorem Alt.of_ext {B hb : Nat} {w w' : World} (h : Ext w w') (hB : B ≤ w.heap.size) : Alt B hb w w' := ⟨Below.mono h hB, h.size, fun j _ hl => Below.block h j hl⟩
theorem Alt.drewn (B hb : Nat) (w : World) (n : Nat) : Alt B hb w { w with drawn := n } := ⟨⟨rfl, rfl, rfl, Nat.le_refl _, fun _ _ => rfl⟩, Nat.le_refl _, fun _ _ _ => rfl⟩
theorem Alt.cell {B hb : Nat} {w w' : World} (h : Alt B hb w w') {p : Addr} {v : Value} (hp : p.block ≠ hb) (hc : w.cell? p = some v) : w'.cell? p = some v := by
  have hlt : p.block < w.heap.size := by
    rcases Nat.lt_or_ge p.block w.heap.size with h1 | h1
    · exact h1
    · unfold World.cell? at hc; rw [Array.getElem?_eq_none h1] at hc; cases hc
  unfold World.cell? at hc ⊢
  rw [h.2.2 p.block hp hlt]
  exact hc

section
variable {P : Program} {ops : Array Oper} {Q : Exit → Act → World → Prop} {S : Nat → World → Value → Prop} {a0 : Act} {w0 : World} {B hb k : Nat} {F : World → Prop}
structure RInvS (B hb k : Nat) (F : World → Prop) (ops : Array Oper) (S : Nat → World → Value → Prop) (a0 : Act) (w0 : World) (listed : Array Bool) (a : Act) (w : World) : Prop where
  size : listed.size = ops.size
  ext : Alt B hb w0 w
  before : listed[k]? = some false → Ext w0 w
  behind : listed[k]? = some true → F w
  defers : a.defers = a0.defers
  tmps : a.tmps.size = a0.tmps.size
  closed : ∀ (i : Nat) (o : Oper), ops[i]? = some o → listed[i]? = some true → ∀ e ∈ o.after, Region.binds .any e = true → listed[e.on]? = some true
  vals : ∀ (i : Nat) (o : Oper) (d : Nat), ops[i]? = some o → listed[i]? = some true → o.dst = some d → ∃ v, a.tmps[d]? = some v ∧ S i w v
  same : ∀ t, (∀ (i : Nat) (o : Oper), ops[i]? = some o → o.dst = some t → listed[i]? = some false) → a.tmps[t]? = a0.tmps[t]?
/-- What one operation owes. -/
def StepOkS (B hb k : Nat) (F : World → Prop) (P : Program) (ops : Array Oper) (S : Nat → World → Value → Prop) (a0 : Act) (w0 : World) (i : Nat) (o : Oper) : Prop :=
  ∀ (a : Act) (w : World), Alt B hb w0 w → (i = k → Ext w0 w) → a.defers = a0.defers → (∀ t, keepsB ops i t = true → a.tmps[t]? = a0.tmps[t]?) →
    (∀ e ∈ o.after, Region.binds .any e = true → ∀ (o' : Oper), ops[e.on]? = some o' → ∀ (d : Nat), o'.dst = some d → ∃ v, a.tmps[d]? = some v ∧ S e.on w v) →
    (Region.wanted o (yielded ops a.tmps) = true ∧ gives P o a w fun v w' => (i ≠ k → Ext w w' ∧ S i w' v) ∧ (i = k → Alt B hb w w' ∧ F w')) ∨ (i ≠ k ∧ Region.wanted o (yielded ops a.tmps) = false ∧ S i w undef)
theorem wpAny_growS (hB : B ≤ w0.heap.size) (hkd : ∀ o, ops[k]? = some o → o.dst = none) (hF : ∀ w w', F w → Ext w w' → F w') (hok : regOk ops a0.tmps.size = true) (hup : ∀ i w w' v, S i w v → Alt B hb w w' → S i w' v)
    (hstep : ∀ (i : Nat) (o : Oper), ops[i]? = some o → StepOkS B hb k F P ops S a0 w0 i o)
    (hkl : k < ops.size) (hend : ∀ (a : Act) (w : World), Alt B hb w0 w → F w → a.defers = a0.defers → a.tmps.size = a0.tmps.size → (∀ (i : Nat) (o : Oper) (d : Nat), ops[i]? = some o → o.dst = some d → ∃ v, a.tmps[d]? = some v ∧ S i w v) →
      (∀ t, (∀ (i : Nat) (o : Oper), ops[i]? = some o → o.dst ≠ some t) → a.tmps[t]? = a0.tmps[t]?) → Q .normal a w) :
    ∀ (fuel : Nat) (listed : Array Bool) (a : Act) (w : World), RInvS B hb k F ops S a0 w0 listed a w → listed.toList.count true + fuel = ops.size → wpAny P .any ops Q fuel listed a w := by
  have getb : ∀ (l : Array Bool) (i : Nat) (b : Bool), l.getD i b = (l[i]?).getD b := fun l i b => by simp
  have allTrue : ∀ (l : Array Bool), l.toList.count true = l.size → ∀ i, i < l.size → l[i]? = some true := fun l h i hi => by
    have : ∀ x ∈ l.toList, true = x := by
      rw [← List.count_eq_length]; simpa using h
    rw [Array.getElem?_eq_getElem hi]
    congr 1
    exact (this _ (by simp)).symm
  have fin : ∀ (listed : Array Bool) (a : Act) (w : World), RInvS B hb k F ops S a0 w0 listed a w → (∀ i, i < ops.size → listed[i]? = some true) → Q .normal a w := by
    intro listed a w I h
    have hlt : ∀ {i : Nat} {o : Oper}, ops[i]? = some o → i < ops.size := fun {i o} ho => by
      rcases Nat.lt_or_ge i ops.size with hlt | hge
      · exact hlt
      · rw [Array.getElem?_eq_none hge] at ho; cases ho
    exact hend a w I.ext (I.behind (h k hkl)) I.defers I.tmps (fun i o d ho hd => I.vals i o d ho (h i (hlt ho)) hd) (fun t ht => I.same t fun i o ho hd => absurd hd (ht i o ho))
  have step : ∀ (listed : Array Bool) (a : Act) (w : World) (i : Nat) (K : Act → World → Prop), RInvS B hb k F ops S a0 w0 listed a w → i ∈ Region.ready .any ops listed →
      (∀ a' w', RInvS B hb k F ops S a0 w0 (listed.setIfInBounds i true) a' w' → K a' w') → wpOp P ops Q i K a w := by
    intro listed a w i K I hr hK
    obtain ⟨hun, o, ho, hall⟩ := mem_ready.1 hr
    have hi : i < listed.size := by
      rw [I.size]
      rcases Nat.lt_or_ge i ops.size with hlt | hge
      · exact hlt
      · rw [Array.getElem?_eq_none hge] at ho; cases ho
    have hfalse : listed[i]? = some false := by
      rw [getb, Array.getElem?_eq_getElem hi] at hun
      rw [Array.getElem?_eq_getElem hi]; simpa using hun
    have hpre : ∀ e ∈ o.after, Region.binds .any e = true → listed[e.on]? = some true := fun e he hb => by
      have h1 := hall e he hb
      rw [getb] at h1
      cases h2 : listed[e.on]? with
      | none => rw [h2] at h1; simp at h1
      | some b => rw [h2] at h1; simp at h1; rw [h1]
    have hset : ∀ (k : Nat), (listed.setIfInBounds i true)[k]? = if i = k then some true else listed[k]? := fun k => by
      rw [Array.getElem?_setIfInBounds]
      by_cases h : i = k
      · subst h; simp [hi]
      · simp [h]
    have next : ∀ v w', (i ≠ k → Ext w w') → (i = k → F w') → Alt B hb w w' → (i ≠ k → S i w' v) → RInvS B hb k F ops S a0 w0 (listed.setIfInBounds i true) (a.put o.dst v) w' := by
      intro v w' hx1 hx2 hx hS
      refine ⟨by simpa using I.size, I.ext.trans hx, ?_, ?_, ?_, ?_, ?_, ?_, ?_⟩
      · intro hl
        rw [hset] at hl
        split at hl
        · cases hl
        · rename_i hik
          exact (I.before hl).trans (hx1 hik)
      · intro hl
        rw [hset] at hl
        split at hl
        · rename_i hik
          exact hx2 hik
        · rename_i hik
          exact hF _ _ (I.behind hl) (hx1 hik)
      · cases hd : o.dst <;> simpa [Act.put] using I.defers
      · cases hd : o.dst <;> simpa [Act.put] using I.tmps
      · intro k' ok hk hl e he hb'
        rw [hset] at hl ⊢
        by_cases hki : i = k'
        · subst hki
          rw [ho] at hk; cases hk
          split
          · rfl
          · exact hpre e he hb'
        · rw [if_neg hki] at hl
          split
          · rfl
          · exact I.closed k' ok hk hl e he hb'
      · intro k' ok d hk hl hd
        rw [hset] at hl
        by_cases hki : i = k'
        · subst hki
          rw [ho] at hk; cases hk
          refine ⟨v, ?_, hS (fun e => by subst e; rw [hkd o ho] at hd; cases hd)⟩
          rw [hd]
          have := regOk_lt hok ho hd
          simp only [Act.put, Array.getElem?_setIfInBounds]
          simp [I.tmps, this]
        · rw [if_neg hki] at hl
          obtain ⟨u, hu, hSu⟩ := I.vals k' ok d hk hl hd
          refine ⟨u, ?_, hup _ _ _ _ hSu hx⟩
          cases hod : o.dst with
          | none => simpa [Act.put] using hu
          | some d' =>
            have hne : d' ≠ d := fun e => hki (regOk_one hok ho hk (by rw [hod, e]) hd)
            simp only [Act.put, Array.getElem?_setIfInBounds_ne hne]
            exact hu
      · intro t ht
        have hit : o.dst ≠ some t := fun hd => by
          have := ht i o ho hd
          rw [hset, if_pos rfl] at this; cases this
        have := I.same t fun k ok hk hd => by
          have h2 := ht k ok hk hd
          rw [hset] at h2
          split at h2
          · cases h2
          · exact h2
        rw [← this]
        cases hod : o.dst with
        | none => rfl
        | some d' =>
          have hne : d' ≠ t := fun e => hit (by rw [hod, e])
          simp only [Act.put, Array.getElem?_setIfInBounds_ne hne]
    have hs := hstep i o ho a w I.ext (fun e => by subst e; exact I.before hfalse) I.defers ?_ ?_
    · unfold wpOp
      simp only [ho]
      rcases hs with ⟨hw, hg⟩ | ⟨hik, hw, hS⟩
      · rw [if_pos hw]
        exact .inl (wp_of_gives hg fun v w' h => hK _ _ (next v w' (fun e => (h.1 e).1) (fun e => (h.2 e).2) (by
          by_cases e : i = k
          · exact (h.2 e).1
          · exact Alt.of_ext (h.1 e).1 (Nat.le_trans hB I.ext.2.1)) (fun e => (h.1 e).2)))
      · rw [if_neg (by rw [hw]; exact Bool.false_ne_true)]
        exact hK _ _ (next _ _ (fun _ => Ext.refl _) (fun e => absurd e hik) (Alt.refl _ _ _) (fun _ => hS))
    · intro t ht
      refine I.same t fun k ok hk hd => ?_
      simp only [keepsB, List.all_eq_true] at ht
      have hm : ok ∈ ops.toList := by simpa using Array.mem_of_getElem? hk
      have := ht ok hm
      simp only [hd, bne_self_eq_false, Bool.false_or, List.any_eq_true, Array.mem_toList_iff] at this
      obtain ⟨e, he, hb⟩ := this
      simp only [Bool.and_eq_true, beq_iff_eq] at hb
      have hkl : k < listed.size := by
        rw [I.size]
        rcases Nat.lt_or_ge k ops.size with hlt | hge
        · exact hlt
        · rw [Array.getElem?_eq_none hge] at hk; cases hk
      cases hv : listed[k]? with
      | none => rw [Array.getElem?_eq_getElem hkl] at hv; cases hv
      | some b =>
        cases b with
        | false => rfl
        | true =>
          have := I.closed k ok hk hv e he hb.2
          rw [hb.1, hfalse] at this; cases this
    · intro e he hb o' ho' d hd
      exact I.vals e.on o' d ho' (hpre e he hb) hd
  have full : ∀ (listed : Array Bool) (a : Act) (w : World), RInvS B hb k F ops S a0 w0 listed a w → Region.ready .any ops listed = [] → ∀ i, i < ops.size → listed[i]? = some true := by
    intro listed a w I hr i
    induction i using Nat.strongRecOn with
    | ind i ih =>
      intro hi
      cases hv : listed[i]? with
      | none => rw [Array.getElem?_eq_none_iff, I.size] at hv; omega
      | some b =>
        cases b with
        | true => rfl
        | false =>
          exfalso
          have hmem : i ∈ Region.ready .any ops listed := by
            refine mem_ready.2 ⟨by rw [getb, hv]; rfl, ops[i], Array.getElem?_eq_getElem hi, fun e he hb => ?_⟩
            have hlt := regOk_back hok (Array.getElem?_eq_getElem hi) he hb
            rw [getb, ih e.on hlt (by omega)]; rfl
          rw [hr] at hmem; cases hmem
  intro fuel
  induction fuel with
  | zero =>
    intro listed a w I hc
    have hall := allTrue listed (by rw [I.size]; omega)
    rw [I.size] at hall
    refine ⟨?_, fin listed a w I hall⟩
    cases hr : Region.ready .any ops listed with
    | nil => rfl
    | cons i rest =>
      exfalso
      have hm : i ∈ Region.ready .any ops listed := by rw [hr]; simp
      obtain ⟨hun, o, ho, _⟩ := mem_ready.1 hm
      have hlt : i < ops.size := by
        rcases Nat.lt_or_ge i ops.size with hlt | hge
        · exact hlt
        · rw [Array.getElem?_eq_none hge] at ho; cases ho
      rw [getb, hall i hlt] at hun; cases hun
  | succ fuel ih =>
    intro listed a w I hc
    refine ⟨fun hr => fin listed a w I (full listed a w I hr), fun i hi => step listed a w i _ I hi fun a' w' I' => ih _ a' w' I' ?_⟩
    obtain ⟨hun, o, ho, _⟩ := mem_ready.1 hi
    have hlt : i < listed.size := by
      rw [I.size]
      rcases Nat.lt_or_ge i ops.size with hlt | hge
      · exact hlt
      · rw [Array.getElem?_eq_none hge] at ho; cases ho
    rw [count_set (by rw [getb, Array.getElem?_eq_getElem hlt] at hun; rw [Array.getElem?_eq_getElem hlt]; simpa using hun)]
    omega

end

/-- A fact of a world and a value that lasts while no block but hb is written. -/
structure SpS (B hb : Nat) where
  p : World → Value → Prop
  up : ∀ w w' v, p w v → Alt B hb w w' → p w' v
def SpS.any {B hb : Nat} : SpS B hb := ⟨fun _ _ => True, fun _ _ _ _ _ => trivial⟩
def SpS.is {B hb : Nat} (x : Value) : SpS B hb := ⟨fun _ v => v = x, fun _ _ _ h _ => h⟩
/-- What one operation owes, in the form in which it is paid. -/
def PaysS (B hb : Nat) (P : Program) (ops : Array Oper) (L : List (SpS B hb)) (a0 : Act) (w0 : World) (i : Nat) (o : Oper) : Prop :=
  ∀ (a : Act) (w : World), Alt B hb w0 w → (∀ t, keepsB ops i t = true → a.tmps[t]? = a0.tmps[t]?) →
    (∀ j, (o.after.toList.any fun e => e.on == j && Region.binds .any e) = true → ∀ (o' : Oper), ops[j]? = some o' → ∀ (d : Nat), o'.dst = some d → ∃ v, a.tmps[d]? = some v ∧ (L.getD j SpS.any).p w v) →
    (Region.wanted o (yielded ops a.tmps) = true ∧ gives P o a w fun v w' => Ext w w' ∧ (L.getD i SpS.any).p w' v) ∨ (Region.wanted o (yielded ops a.tmps) = false ∧ (L.getD i SpS.any).p w undef)
/-- THE REGION; the operation at place k writes. -/
theorem wp_region_spS {B : Nat} {P : Program} {ops : List Oper} {Q : Exit → Act → World → Prop} {a0 : Act} {w0 : World} {id : Nat} (hb k : Nat) (F : World → Prop) (L : List (SpS B hb)) (ok : Oper) (hko : ops.toArray[k]? = some ok) (hkd : ok.dst = none) (hB : B ≤ w0.heap.size) (hF : ∀ w w', F w → Ext w w' → F w') (hm : P.follows .mixedOrders = true) (hok : regOk ops.toArray a0.tmps.size = true)
    (hstep : PaysFrom (fun i o => i = k ∨ PaysS B hb P ops.toArray L a0 w0 i o) 0 ops)
    (hlast : ∀ (a : Act) (w : World), Ext w0 w → (∀ t, keepsB ops.toArray k t = true → a.tmps[t]? = a0.tmps[t]?) →
      (∀ j, (ok.after.toList.any fun e => e.on == j && Region.binds .any e) = true → ∀ (o' : Oper), ops.toArray[j]? = some o' → ∀ (d : Nat), o'.dst = some d → ∃ v, a.tmps[d]? = some v ∧ (L.getD j SpS.any).p w v) →
      Region.wanted ok (yielded ops.toArray a.tmps) = true ∧ gives P ok a w fun _ w' => Alt B hb w w' ∧ F w')
    (hend : ∀ (a : Act) (w : World), Alt B hb w0 w → F w → a.defers = a0.defers → a.tmps.size = a0.tmps.size → (∀ (i : Nat) (o : Oper) (d : Nat), ops.toArray[i]? = some o → o.dst = some d → ∃ v, a.tmps[d]? = some v ∧ (L.getD i SpS.any).p w v) →
      (∀ t, (∀ (i : Nat) (o : Oper), ops.toArray[i]? = some o → o.dst ≠ some t) → a.tmps[t]? = a0.tmps[t]?) → Q .normal a w) :
    (Code.region id ops.toArray true).wp P Q a0 w0 := by
  have conv : ∀ {o : Oper} {a : Act} {w : World}, (∀ e ∈ o.after, Region.binds .any e = true → ∀ (o' : Oper), ops.toArray[e.on]? = some o' → ∀ (d : Nat), o'.dst = some d → ∃ v, a.tmps[d]? = some v ∧ (L.getD e.on SpS.any).p w v) →
      (∀ j, (o.after.toList.any fun e => e.on == j && Region.binds .any e) = true → ∀ (o' : Oper), ops.toArray[j]? = some o' → ∀ (d : Nat), o'.dst = some d → ∃ v, a.tmps[d]? = some v ∧ (L.getD j SpS.any).p w v) := fun {o a w} H j hj o' ho' d hd' => by
    simp only [List.any_eq_true, Array.mem_toList_iff] at hj
    obtain ⟨e, he, hb⟩ := hj
    simp only [Bool.and_eq_true, beq_iff_eq] at hb
    obtain ⟨rfl, hb⟩ := hb
    exact H e he hb o' ho' d hd'
  have hkl : k < ops.toArray.size := by
    rcases Nat.lt_or_ge k ops.toArray.size with h1 | h1
    · exact h1
    · rw [Array.getElem?_eq_none h1] at hko; cases hko
  refine wp_region_any hm (wpAny_growS (S := fun i => (L.getD i SpS.any).p) (k := k) (hb := hb) (B := B) (F := F) hB (fun o ho => by rw [hko] at ho; cases ho; exact hkd) hF hok (fun i w w' v h hx => (L.getD i SpS.any).up w w' v h hx) ?_ hkl hend ops.toArray.size _ a0 _ ?_ ?_)
  · intro i o ho a w hx hx2 hd hkp H
    by_cases e : i = k
    · subst e
      rw [hko] at ho
      cases ho
      obtain ⟨h1, h2⟩ := hlast a w (hx2 rfl) hkp (conv H)
      exact .inl ⟨h1, gives_mono h2 fun v w' h => ⟨fun n => absurd rfl n, fun _ => h⟩⟩
    · have h := paysFrom_all ops 0 hstep i o (by simpa using ho)
      rw [Nat.zero_add] at h
      rcases h with h | h
      · exact absurd h e
      · rcases h a w hx hkp (conv H) with ⟨h1, h2⟩ | ⟨h1, h2⟩
        · exact .inl ⟨h1, gives_mono h2 fun v w' h => ⟨fun _ => h, fun n => absurd n e⟩⟩
        · exact .inr ⟨e, h1, h2⟩
  · refine ⟨by simp, Alt.drewn _ _ _ _, fun _ => Ext.drewn _ _, ?_, rfl, rfl, ?_, ?_, fun _ _ => rfl⟩
    · intro hl
      rw [Array.getElem?_replicate] at hl
      split at hl <;> simp at hl
    · intro i o ho hl
      rw [Array.getElem?_replicate] at hl
      split at hl <;> simp at hl
    · intro i o d ho hl
      rw [Array.getElem?_replicate] at hl
      split at hl <;> simp at hl
  · have : (Array.replicate ops.toArray.size false).toList.count true = 0 := by simp [List.count_replicate]
    omega
end Go.Proofs.YtnkcneccolbbdaaGreatDoor
namespace Go.Proofs.YtnkcneccolbbdaaGreatDoor
open Go.RowKit

theorem str_any {w : World} {A : Option Addr} {l : List UInt8} (h : Rd w A l) (n c : Nat) (hn : l.length = n) : (convert 32 9 (.slice A n c)).run Tryz.prog w = .ok (.string ⟨l.toArray⟩) w := by
  subst hn
  exact h.str (P := Tryz.prog) 32 9 5 c Tryz.underlying32 Tryz.underlying5 Tryz.underlying9
theorem equal_any (A B : Option Addr) (l m : List UInt8) (n p c d : Nat) (w : World) (hA : Rd w A l) (hB : Rd w B m) (hn : l.length = n) (hp : m.length = p) :
    Calls Tryz.prog 94 #[.slice A n c, .slice B p d] w (fun e w' => e = .returned (.bool (l == m)) ∧ w' = w) := by
  have cv1 := str_any hA n c hn
  have cv2 := str_any hB p d hp
  cases hb : (l == m) with
  | true =>
    go_enter Tryz.func94, Tryz.ntmps94
    go_wp2
    go_ret
    exact ⟨rfl, rfl⟩
  | false =>
    go_enter Tryz.func94, Tryz.ntmps94
    go_wp2
    go_ret
    exact ⟨rfl, rfl⟩
/-- The first n numbers of a sector, as cells. -/
def numsV (b : List UInt8) (n : Nat) : List Value := (List.range n).map fun k => .int .u64 (numAt b k)
theorem numsV_length (b : List UInt8) (n : Nat) : (numsV b n).length = n := by simp [numsV]
def rowK (b : List UInt8) (vs : List Value) (k : Nat) : List Value := numsV b k ++ vs.drop k
theorem rowK_zero (b : List UInt8) (vs : List Value) : rowK b vs 0 = vs := by simp [rowK, numsV]
theorem rowK_get (b : List UInt8) (vs : List Value) (k : Nat) : (rowK b vs k)[k]? = vs[k]? := by
  unfold rowK
  rw [List.getElem?_append_right (by rw [numsV_length]; omega), numsV_length, Nat.sub_self, List.getElem?_drop]
  rfl
theorem rowK_succ (b : List UInt8) (vs : List Value) (k : Nat) (hk : k < vs.length) : (rowK b vs k).set k (.int .u64 (numAt b k)) = rowK b vs (k + 1) := by
  unfold rowK
  rw [List.set_append_right _ _ (by rw [numsV_length]; omega), numsV_length, Nat.sub_self, List.drop_eq_getElem_cons hk, List.set_cons_zero]
  unfold numsV
  rw [List.range_succ, List.map_append, List.append_assoc]
  rfl
theorem rdNum_at (b : List UInt8) (k : Nat) (hb : b.length = 512) (hk : k < 6) : rdNum b ((5 + 8 * k : Nat) : Int) = (numAt b k, ((5 + 8 * (k + 1) : Nat) : Int), 0) := by
  unfold rdNum numAt
  rw [if_neg (by omega), if_neg (by omega), Int.toNat_natCast]
  congr 2
def UPostL (gh : Nat) (t : TypeId) (vs : List Value) (n kind : Nat) (b : List UInt8) (w : World) (e : Ending) (w' : World) : Prop :=
  e = .returned (.int .i64 (unsE kind b)) ∧ Rw w' gh t (if unsE kind b = 0 then rowK b vs n else vs) ∧ Alt gh gh w w'
theorem Alt.of_ext0 {gh : Nat} {w w' : World} {t : TypeId} {vs : List Value} (hr : Rw w gh t vs) (h : Ext w w') : Alt gh gh w w' := Alt.of_ext h (Nat.le_of_lt hr.lt)
theorem Alt.set {gh i : Nat} {w : World} {v : Value} : Alt gh gh w (w.setCell ⟨gh, i, none⟩ v) :=
  ⟨Below.setCell (p := ⟨gh, i, none⟩) (Below.refl _ _) (Nat.le_refl _) _, by simp, fun j hj _ => Below.heap_setCell w ⟨gh, i, none⟩ v j hj⟩
set_option maxHeartbeats 1600000 in
theorem unseal_any (Ab : Option Addr) (c : Nat) (b : List UInt8) (hb : b.length = 512) (hc : 512 ≤ c) (kind gh n : Nat) (hkd : kind < 256) (t : TypeId) (vs : List Value) (vN : Value) (w : World) (hr : Rd w Ab b) (hg : Rw w gh t vs) (hv : PtrS gh n w vN) (hn : n ≤ 6) (hvs : ∀ k, k < n → ∃ z, vs[k]? = some (.int .u64 z))
    (hne : ∀ a, Ab = some a → a.block ≠ gh) (hne2 : ∀ a l c, vN = .slice (some a) l c → a.block ≠ gh) (hT : Tab w) :
    Calls Tryz.prog 74 #[.slice Ab 512 c, .int .u8 (kind : Int), vN] w (UPostL gh t vs n kind b w) := by
  obtain ⟨h, rfl, hp⟩ := hv
  obtain ⟨bb, off, x4, rfl, hx4, hc4⟩ := hr.at (k := 4) (by omega)
  have hhg : h ≠ gh := hne2 _ _ _ rfl
  have hbg : bb ≠ gh := hne _ rfl
  have HP := hide hp
  have HR := hide hr
  have HG := hide hg
  have HV := hide hvs
  have HBL := hide hb
  have HTK : Hid (Rd w (some ⟨bb, off, none⟩) (b.take 4)) := hide (hr.take 4)
  have HTL : Hid ((b.take 4).length = 4) := hide (by rw [List.length_take]; omega)
  obtain ⟨s4, HS4⟩ : ∃ s4, Hid (be4 (crc (b.drop 4)) = s4) := ⟨_, hide rfl⟩
  have HS4L : Hid (s4.length = 4) := hide (by rw [← HS4.out]; rfl)
  have KS := hide (fun (W : World) (hW : Ext w W) => sumOf_any (some ⟨bb, off, none⟩) c b W (hr.ext hW) hb hc (hT.ext hW))
  rw [HS4.out] at KS
  obtain ⟨y4, HY4⟩ : ∃ y4, Hid (b.take 4 = y4) := ⟨_, hide rfl⟩
  rw [HY4.out] at HTK HTL
  obtain ⟨q, HQ⟩ : ∃ q, Hid ((y4 == s4) = q) := ⟨_, hide rfl⟩
  have HE : Hid (unsE kind b = if q = true then (if (x4.toNat = kind) then 0 else 3) else 15) := hide (by
    unfold unsE
    rw [HS4.out, HY4.out, ← HQ.out]
    by_cases hq : y4 = s4
    · have e : (y4 == s4) = true := by rw [hq]; exact beq_self_eq_true _
      have e2 : b.getD 4 0 = x4 := by rw [List.getD_eq_getElem?_getD, hx4]; rfl
      rw [if_pos hq, e, if_pos rfl, e2]
    · have e : (y4 == s4) = false := beq_eq_false_iff_ne.2 hq
      rw [if_neg hq, e]
      rfl)
  have hcc : ¬ c = 4 := by omega
  have hc4' : 4 ≤ c := by omega
  have hci : (4 : Int) ≤ (c : Int) := by omega
  have HC4 := hide hc4
  have HX4 := hide hx4
  clear hp hr hg hvs hb hT hne hne2 hc4 hx4
  go_enter Tryz.func74, Tryz.ntmps74
  go_upto_region 1 with fail
  go_region_law (first
    | (go_simp; go_at_call 93; (with_reducible refine (KS.out _ (Ext.drew _)).mono ?_); rintro e w2 ⟨v, rfl, hx2, A2, c2, rfl, hc2, hr2⟩; rw [HS4L.out] at hc2 ⊢; have HX2 : Hid (Ext w w2) := hide ((Ext.drew _).trans hx2); have KE := equal_any (some ⟨bb, off, none⟩) A2 y4 s4 4 4 c c2 w2 (HTK.out.ext HX2.out) hr2 HTL.out HS4L.out; rw [HQ.out] at KE; have HKE := hide KE; clear hx2 hr2 KE)
    | (go_simp; go_at_call 94; (with_reducible refine HKE.out.mono ?_); rintro e w3 ⟨rfl, rfl⟩))
  all_goals
    have HG2 := hide (HG.out.ext HX2.out)
    have HA2 : Hid (Alt gh gh w w3) := hide (Alt.of_ext0 HG.out HX2.out)
    have hc4 := HA2.out.cell (p := ⟨bb, off + 4, none⟩) hbg HC4.out
    cases q with
    | false =>
      have HE0 : Hid (unsE kind b = 15) := hide HE.out
      go_wp2
      go_ret
      refine ⟨by rw [HE0.out]; rfl, ?_, HA2.out⟩
      rw [HE0.out, if_neg (by decide)]
      exact HG2.out
    | true =>
      by_cases hk : x4.toNat = kind
      · have HE0 : Hid (unsE kind b = 0) := hide (by rw [HE.out, if_pos rfl, if_pos hk])
        have hkk : ((x4.toNat : Int) != (kind : Int)) = false := by rw [hk]; simp
        have HR3 : Hid (Rd w3 (some ⟨bb, off, none⟩) b) := hide (HR.out.ext HX2.out)
        have HG0 : Hid (Rw w3 gh t (rowK b vs 0)) := hide (by rw [rowK_zero]; exact HG2.out)
        clear hk HKE
        go_upto_region 7 with fail
        clear hc4 hkk
        go_loopw [7, 25] (fun a i wr => ∃ k : Nat, k ≤ n ∧ a = .int .i64 ((5 + 8 * k : Nat) : Int) ∧ i = .int .i64 (k : Int) ∧ Hid (Rw wr gh t (rowK b vs k)) ∧ Hid (Alt gh gh w wr)) (fun _ i _ => n - (intOf i).toNat)
        case atStart => exact ⟨0, Nat.zero_le _, rfl, rfl, HG0, HA2⟩
        case round =>
          obtain ⟨k, hk, rfl, rfl, HW, HA⟩ := hrel
          by_cases hlt : k < n
          · obtain ⟨z, hz⟩ := HV.out k hlt
            have hkv := (List.getElem?_eq_some_iff.1 hz).1
            have cp := HA.out.cell (p := ⟨h, k, none⟩) hhg (HP.out k hlt)
            unfold ptr at cp
            have cz := HW.out.cell (by rw [rowK_get]; exact hz)
            have fz := HW.out.frozen k
            have hrd : Rd wr (some ⟨bb, off, none⟩) b := by
              intro hn0
              obtain ⟨b1, o1, he, hcell⟩ := HR.out hn0
              injection he with he
              injection he with he1 he2
              refine ⟨b1, o1, by rw [← he1, ← he2], fun j u hu => ?_⟩
              exact HA.out.cell (p := ⟨b1, o1 + j, none⟩) (by show b1 ≠ gh; rw [← he1]; exact hbg) (hcell j u hu)
            have KR := readUint_any (some ⟨bb, off, none⟩) c b ((5 + 8 * k : Nat) : Int) wr hrd (by rw [HBL.out]; decide) (by omega)
            rw [rdNum_at b k HBL.out (by omega), HBL.out] at KR
            have HKR := hide KR
            obtain ⟨x, HX⟩ : ∃ x, Hid (numAt b k = x) := ⟨_, hide rfl⟩
            have HS : Hid ((rowK b vs k).set k (.int .u64 x) = rowK b vs (k + 1)) := hide (by rw [← HX.out]; exact rowK_succ b vs k hkv)
            rw [HX.out] at HKR
            obtain ⟨a, HAA⟩ : ∃ a, Hid (5 + 8 * k = a) := ⟨_, hide rfl⟩
            rw [HAA.out] at HKR ⊢
            have hki : (k : Int) < (n : Int) := by omega
            clear KR hrd hz
            go_wp2_with (go_at_call 95; (with_reducible refine HKR.out.mono ?_); rintro e w5 ⟨rfl, rfl⟩)
            refine ⟨⟨k + 1, by omega, rfl, by go_num, hide ?_, hide ?_⟩, by simp [intOf]; omega⟩
            · rw [← HS.out]; exact HW.out.set k _
            · exact HA.out.trans Alt.set
          · obtain rfl : k = n := by omega
            have hki : ¬ (k : Int) < (k : Int) := by omega
            go_wp2
            go_ret
            refine ⟨by rw [HE0.out]; rfl, ?_, HA.out⟩
            rw [HE0.out, if_pos rfl]
            exact HW.out
      · have HE0 : Hid (unsE kind b = 3) := hide (by rw [HE.out, if_pos rfl, if_neg hk])
        have hkk : ((x4.toNat : Int) != (kind : Int)) = true := by simp; omega
        clear hk
        go_wp2
        go_ret
        refine ⟨by rw [HE0.out]; rfl, ?_, HA2.out⟩
        rw [HE0.out, if_neg (by decide)]
        exact HG2.out
end Go.Proofs.YtnkcneccolbbdaaGreatDoor
namespace Go.Proofs.YtnkcneccolbbdaaGreatDoor
open Go.RowKit

/-- What reading the first sector answers. -/
def rhE (D : Dk) (i : Int) : Int := if gE D i ≠ 0 then gE D i else unsE 1 (gB D i)
def hdOf (b : List UInt8) : Hd := ⟨(numAt b 0).toNat, (numAt b 1).toNat, (numAt b 2).toNat, (numAt b 3).toNat, (numAt b 4).toNat, (numAt b 5).toNat⟩
def hd0 : Hd := ⟨0, 0, 0, 0, 0, 0⟩
def rhH (D : Dk) (i : Int) : Hd := if rhE D i = 0 then hdOf (gB D i) else hd0
theorem hdOf_ok (b : List UInt8) : (hdOf b).Ok := by
  have h : ∀ k, (numAt b k).toNat < 18446744073709551616 := fun k => by have := numAt_range b k; omega
  exact ⟨h 0, h 1, h 2, h 3, h 4, h 5⟩
theorem hdOf_cs (b : List UInt8) : (hdOf b).cs = rowK b hd0.cs 6 := by
  have h : ∀ k, ((numAt b k).toNat : Int) = numAt b k := fun k => by have := numAt_range b k; omega
  unfold Hd.cs hdOf
  rw [h, h, h, h, h, h]
  rfl
theorem gB_len {D : Dk} (b : Bd D) (i : Int) (h : gE D i = 0) : (gB D i).length = 512 := by
  unfold gE at h
  unfold gB
  split at h
  · cases h
  · split at h
    · cases h
    · rename_i h1 h2
      rw [if_neg h1, if_neg h2]
      exact at_len b _ (by omega)
theorem zeroHd : (Tryz.prog.info? 92).map (fun i => (i.zero, i.size)) = some (some (.agg hd0.cs.toArray), 6) := by kernel_rfl
theorem ptrs_ne {gh n : Nat} {w : World} {v : Value} {t : TypeId} {vs : List Value} (hv : PtrS gh n w v) (hn : 0 < n) (hr : Rw w gh t vs) (h0 : ∃ k z, vs[0]? = some (.int k z)) : ∀ a l c, v = .slice (some a) l c → a.block ≠ gh := by
  obtain ⟨h, rfl, hp⟩ := hv
  obtain ⟨k, z, h0⟩ := h0
  intro a l c he hb
  injection he with he
  injection he with he
  subst he
  simp only at hb
  subst hb
  have h1 := hp 0 hn
  rw [hr.cell h0] at h1
  cases h1
theorem Rw.alt {gh B g : Nat} {w w' : World} {t : TypeId} {vs : List Value} (hr : Rw w g t vs) (h : Alt B gh w w') (hg : g ≠ gh) : Rw w' g t vs := (h.2.2 g hg hr.lt).trans hr
theorem Ext.alt {gh : Nat} {w0 w w' : World} (hx : Ext w0 w) (h : Alt gh gh w w') (hg : w0.heap.size ≤ gh) : Ext w0 w' := Below.trans hx (Below.mono h.1 hg)
theorem rd_lt {w : World} {A : Option Addr} {l : List UInt8} (h : Rd w A l) (hl : 0 < l.length) : ∀ a, A = some a → a.block < w.heap.size := by
  obtain ⟨b, off, u, rfl, -, hc⟩ := h.at (k := 0) hl
  intro a ha
  injection ha with ha
  subst ha
  exact World.block_lt_of_cell? w _ hc
theorem sizeHd : (Tryz.prog.info? 92).map (·.size) = some 6 := by kernel_rfl
section
variable {B g gd gn c : Nat} {w w1 : World} {A : Option Addr} {D D' : Dk} {r : Value} {e : Ending} {w' : World}
set_option maxHeartbeats 1600000 in
theorem readHead_any (h : DiskAt B w g gd gn A c D) (b : Bd D) (i : Int) (hT : Tab w) :
    Calls Tryz.prog 48 #[.pointer (some ⟨g, 0, none⟩), .int .i64 i] w (fun e w' => e = .returned (.tuple #[.agg (rhH D i).cs.toArray, .int .i64 (rhE D i)]) ∧ Ext w w') := by
  have HD := hide h
  have HB := hide b
  have HT := hide hT
  have KR := hide (fun (W : World) (hW : Ext w W) => read_uni (HD.out.ext hW) HB.out i)
  clear h b hT
  obtain ⟨r0, hr0⟩ : ∃ r0, w.heap.size = r0 := ⟨_, rfl⟩
  obtain ⟨wa, HWA⟩ : ∃ wa, Hid (w.alloc (.cells #[.int .u64 0, .int .u64 0, .int .u64 0, .int .u64 0, .int .u64 0, .int .u64 0] 92) = wa) := ⟨_, hide rfl⟩
  have HXA : Hid (Ext w wa) := hide (by rw [← HWA.out]; exact Ext.alloc _ _)
  have HRA : Hid (Rw wa r0 92 [.int .u64 0, .int .u64 0, .int .u64 0, .int .u64 0, .int .u64 0, .int .u64 0]) := hide (by rw [← HWA.out, ← hr0]; exact Rw.new w 92 [.int .u64 0, .int .u64 0, .int .u64 0, .int .u64 0, .int .u64 0, .int .u64 0])
  go_enter Tryz.func48, Tryz.ntmps48
  go_upto_region 2 with (first
    | (go_at_call 27; rw [HWA.out]; (with_reducible refine (KR.out wa HXA.out).mono ?_); rintro e w2 ⟨v, rfl, hv2, hx2⟩; have HX2 : Hid (Ext wa w2) := hide hx2; have HV2 := hide hv2; clear hx2 hv2))
  have HR2 : Hid (Rw w2 r0 92 [.int .u64 0, .int .u64 0, .int .u64 0, .int .u64 0, .int .u64 0, .int .u64 0]) := hide (HRA.out.ext HX2.out)
  have HR0 : Hid (w.heap.size ≤ r0) := hide (Nat.le_of_eq hr0)
  clear hr0
  obtain ⟨e0, HE0⟩ : ∃ e0, Hid (gE D i = e0) := ⟨_, hide rfl⟩
  rw [HE0.out]
  by_cases he : e0 = 0
  · subst he
    have HBL : Hid ((gB D i).length = 512) := hide (gB_len HB.out i HE0.out)
    have HRE : Hid (rhE D i = unsE 1 (gB D i)) := hide (by unfold rhE; rw [HE0.out, if_neg (by decide)])
    obtain ⟨b, HBB⟩ : ∃ b, Hid (gB D i = b) := ⟨_, hide rfl⟩
    obtain ⟨Ab, cb, rfl, hcb, hrb⟩ := HV2.out
    rw [HBB.out] at HBL HRE hrb hcb
    have HCB : Hid (512 ≤ cb) := hide (by rw [← HBL.out]; exact hcb)
    have HRB := hide hrb
    have HNB : Hid (∀ a, Ab = some a → a.block < w2.heap.size) := hide (rd_lt hrb (by rw [HBL.out]; decide))
    rw [HBB.out, HBL.out]
    clear hcb hrb HV2
    obtain ⟨gh, hgh⟩ : ∃ gh, w2.heap.size = gh := ⟨_, rfl⟩
    obtain ⟨wb, HWB⟩ : ∃ wb, Hid (w2.alloc (.cells #[.int .u64 0, .int .u64 0, .int .u64 0, .int .u64 0, .int .u64 0, .int .u64 0] 92) = wb) := ⟨_, hide rfl⟩
    have HXB : Hid (Ext w2 wb) := hide (by rw [← HWB.out]; exact Ext.alloc _ _)
    have HGB : Hid (Rw wb gh 92 [.int .u64 0, .int .u64 0, .int .u64 0, .int .u64 0, .int .u64 0, .int .u64 0]) := hide (by rw [← HWB.out, ← hgh]; exact Rw.new w2 92 [.int .u64 0, .int .u64 0, .int .u64 0, .int .u64 0, .int .u64 0, .int .u64 0])
    have HGN : Hid (∀ a, Ab = some a → a.block ≠ gh) := hide (fun a ha => by have := HNB.out a ha; omega)
    have HRG : Hid (r0 ≠ gh) := hide (by have := HR2.out.lt; omega)
    have HWG : Hid (w.heap.size ≤ gh) := hide (by have := (HXA.out.trans HX2.out).size; omega)
    have KN := hide (numbersH_any gh wb)
    have KS : Hid (∀ (W : World) (v : Value), Ext wb W → PtrS gh 6 W v → Calls Tryz.prog 74 #[.slice Ab 512 cb, .int .u8 1, v] W (UPostL gh 92 [.int .u64 0, .int .u64 0, .int .u64 0, .int .u64 0, .int .u64 0, .int .u64 0] 6 1 b W)) := hide (fun W v hW hv =>
      unseal_any Ab cb b HBL.out HCB.out 1 gh 6 (by decide) 92 [.int .u64 0, .int .u64 0, .int .u64 0, .int .u64 0, .int .u64 0, .int .u64 0] v W (HRB.out.ext (HXB.out.trans hW)) (HGB.out.ext hW) hv (by decide) (fun k hk => by rcases k with _ | _ | _ | _ | _ | _ | k; all_goals first | exact ⟨0, rfl⟩ | omega) HGN.out (ptrs_ne hv (by decide) (HGB.out.ext hW) ⟨_, _, rfl⟩) (HT.out.ext (((HXA.out.trans HX2.out).trans HXB.out).trans hW)))
    go_upto_region 6 with (first
      | (go_at_call 73; rw [HWB.out]; (with_reducible refine KN.out.mono ?_); rintro e w4 ⟨vn, rfl, hx4, hp4⟩; have HX4 := hide hx4; have HP4 := hide hp4; clear hx4 hp4)
      | (go_at_call 74; (with_reducible refine (KS.out w4 vn HX4.out HP4.out).mono ?_); rintro e w5 ⟨rfl, hr5, ha5⟩; have HR5 := hide hr5; have HA5 := hide ha5; clear hr5 ha5))
    obtain ⟨H, HH⟩ : ∃ H, Hid (rhH D i = H) := ⟨_, hide rfl⟩
    have HHC : Hid (H.cs = if unsE 1 b = 0 then rowK b [.int .u64 0, .int .u64 0, .int .u64 0, .int .u64 0, .int .u64 0, .int .u64 0] 6 else [.int .u64 0, .int .u64 0, .int .u64 0, .int .u64 0, .int .u64 0, .int .u64 0]) := hide (by
      rw [← HH.out]
      unfold rhH
      rw [HRE.out, HBB.out]
      split
      · exact hdOf_cs b
      · rfl)
    have HR6 : Hid (Rw w5 gh 92 [.int .u64 (H.ep : Int), .int .u64 (H.old : Int), .int .u64 (H.st : Int), .int .u64 (H.fi : Int), .int .u64 (H.ck : Int), .int .u64 (H.cn : Int)]) := hide (by rw [← HHC.out] at HR5; exact HR5.out)
    have HR7 : Hid (Rw w5 r0 92 [.int .u64 0, .int .u64 0, .int .u64 0, .int .u64 0, .int .u64 0, .int .u64 0]) := hide (((HR2.out.ext HXB.out).ext HX4.out).alt HA5.out HRG.out)
    have HX5 : Hid (Ext w w5) := hide ((((HXA.out.trans HX2.out).trans HXB.out).trans HX4.out).alt HA5.out HWG.out)
    clear hgh
    have k0 := HR6.out.cell (i := 0) rfl
    have k1 := HR6.out.cell (i := 1) rfl
    have k2 := HR6.out.cell (i := 2) rfl
    have k3 := HR6.out.cell (i := 3) rfl
    have k4 := HR6.out.cell (i := 4) rfl
    have k5 := HR6.out.cell (i := 5) rfl
    go_wp2_with (first
      | ((with_reducible show wpList _ _ _ (⟨none, .store _ (.tmp 4) (.tmp 22), _, _, _, _⟩ :: _) _ _); refine wpList_store_rw rfl 92 (.tmp 4) (.tmp 22) rfl r0 rfl [.int .u64 (H.ep : Int), .int .u64 (H.old : Int), .int .u64 (H.st : Int), .int .u64 (H.fi : Int), .int .u64 (H.ck : Int), .int .u64 (H.cn : Int)] rfl 92 [.int .u64 0, .int .u64 0, .int .u64 0, .int .u64 0, .int .u64 0, .int .u64 0] HR7.out 6 sizeHd rfl rfl rfl ?_; intro w6 hr6 hl6; have HR8 := hide hr6; have HX6 : Hid (Ext w w6) := hide (HX5.out.laid hl6 HR0.out); clear hr6 hl6))
    have d0 := HR8.out.cell (i := 0) rfl
    have d1 := HR8.out.cell (i := 1) rfl
    have d2 := HR8.out.cell (i := 2) rfl
    have d3 := HR8.out.cell (i := 3) rfl
    have d4 := HR8.out.cell (i := 4) rfl
    have d5 := HR8.out.cell (i := 5) rfl
    refine bodyPost_ret (by simp [results, Tryz.results48, go_sem, d0, d1, d2, d3, d4, d5]; try rfl) rfl ?_
    refine ⟨?_, HX6.out⟩
    rw [HH.out, HRE.out]
    rfl
  · have HRE : Hid (rhE D i = e0) := hide (by unfold rhE; rw [HE0.out, if_pos he])
    have HRH : Hid (rhH D i = hd0) := hide (by unfold rhH; rw [HRE.out, if_neg he])
    have hee : (e0 != 0) = true := by simpa using he
    go_wp2_with (first
      | ((with_reducible show wpList _ _ _ (⟨none, .store _ (.tmp 4) (.tmp 17), _, _, _, _⟩ :: _) _ _); refine wpList_store_rw rfl 92 (.tmp 4) (.tmp 17) rfl r0 rfl [.int .u64 0, .int .u64 0, .int .u64 0, .int .u64 0, .int .u64 0, .int .u64 0] rfl 92 [.int .u64 0, .int .u64 0, .int .u64 0, .int .u64 0, .int .u64 0, .int .u64 0] HR2.out 6 sizeHd rfl rfl rfl ?_; intro w3 hr3 hl3; have HR3 := hide hr3; have HX3 : Hid (Ext w w3) := hide ((HXA.out.trans HX2.out).laid hl3 HR0.out); clear hr3 hl3))
    have d0 := HR3.out.cell (i := 0) rfl
    have d1 := HR3.out.cell (i := 1) rfl
    have d2 := HR3.out.cell (i := 2) rfl
    have d3 := HR3.out.cell (i := 3) rfl
    have d4 := HR3.out.cell (i := 4) rfl
    have d5 := HR3.out.cell (i := 5) rfl
    refine bodyPost_ret (by simp [results, Tryz.results48, go_sem, d0, d1, d2, d3, d4, d5]; try rfl) rfl ?_
    refine ⟨?_, HX3.out⟩
    rw [HRH.out, HRE.out]
    rfl
end
end Go.Proofs.YtnkcneccolbbdaaGreatDoor
namespace Go.Proofs.YtnkcneccolbbdaaGreatDoor
open Go.RowKit

/-- A part: its numbers, its bytes. -/
structure Pt where
  num : Int
  ep : Int
  sz : Int
  by_ : List UInt8
def pt0 : Pt := ⟨0, 0, 0, []⟩
def ptLen (b : List UInt8) : Nat := min (numAt b 2).toNat 480
def ptOf (b : List UInt8) : Pt := ⟨numAt b 0, numAt b 1, numAt b 2, (b.drop 32).take (ptLen b)⟩
/-- Is there a part on that sector? -/
def ptIs (D : Dk) (i : Int) : Bool := decide (gE D i = 0 ∧ unsE 2 (gB D i) = 0)
def ptAt (D : Dk) (i : Int) : Pt := if ptIs D i = true then ptOf (gB D i) else pt0
def PtPost (D : Dk) (i : Int) (w : World) (e : Ending) (w' : World) : Prop :=
  ∃ P c, e = .returned (.tuple #[.agg #[.int .u64 (ptAt D i).num, .int .u64 (ptAt D i).ep, .int .u64 (ptAt D i).sz, .slice P (ptAt D i).by_.length c], .bool (ptIs D i), .int .i64 (gE D i)]) ∧ (ptAt D i).by_.length ≤ c ∧ Rd w' P (ptAt D i).by_ ∧ Ext w w'
theorem sizePt : (Tryz.prog.info? 121).map (·.size) = some 4 := by kernel_rfl
theorem Rw.has {g i : Nat} {w : World} {t : TypeId} {vs : List Value} {v : Value} (h : Rw w g t vs) (hc : w.cell? ⟨g, i, none⟩ = some v) : vs[i]? = some v := by
  rw [cell_of_row w g i _ _ (0, 0) h, List.getElem?_toArray] at hc
  exact hc
theorem rd_laid {r : Nat} {w w' : World} {A : Option Addr} {l : List UInt8} (h : Rd w A l) (hl : Laid1 r w w') (hn : ∀ a, A = some a → a.block ≠ r) : Rd w' A l := fun hn0 => by
  obtain ⟨b, off, rfl, hc⟩ := h hn0
  refine ⟨b, off, rfl, fun j u hu => ?_⟩
  have h1 := hc j u hu
  have h2 := hl.other b (hn _ rfl)
  rw [← h1]
  exact World.cell?_of_block (a := ⟨b, off + j, none⟩) h2
section
variable {B g gd gn c : Nat} {w w1 : World} {A : Option Addr} {D D' : Dk} {r : Value} {e : Ending} {w' : World}
set_option maxHeartbeats 1600000 in
theorem readPart_any (h : DiskAt B w g gd gn A c D) (b : Bd D) (i : Int) (hT : Tab w) :
    Calls Tryz.prog 71 #[.pointer (some ⟨g, 0, none⟩), .int .i64 i] w (PtPost D i w) := by
  have HD := hide h
  have HB := hide b
  have HT := hide hT
  have KR := hide (fun (W : World) (hW : Ext w W) => read_uni (HD.out.ext hW) HB.out i)
  clear h b hT
  obtain ⟨r0, hr0⟩ : ∃ r0, w.heap.size = r0 := ⟨_, rfl⟩
  obtain ⟨wa, HWA⟩ : ∃ wa, Hid (w.alloc (.cells #[.int .u64 0, .int .u64 0, .int .u64 0, .slice none 0 0] 121) = wa) := ⟨_, hide rfl⟩
  have HXA : Hid (Ext w wa) := hide (by rw [← HWA.out]; exact Ext.alloc _ _)
  have HRA : Hid (Rw wa r0 121 [.int .u64 0, .int .u64 0, .int .u64 0, .slice none 0 0]) := hide (by rw [← HWA.out, ← hr0]; exact Rw.new w 121 [.int .u64 0, .int .u64 0, .int .u64 0, .slice none 0 0])
  go_enter Tryz.func71, Tryz.ntmps71
  go_upto_region 2 with (first
    | (go_at_call 27; rw [HWA.out]; (with_reducible refine (KR.out wa HXA.out).mono ?_); rintro e w2 ⟨v, rfl, hv2, hx2⟩; have HX2 : Hid (Ext wa w2) := hide hx2; have HV2 := hide hv2; clear hx2 hv2))
  have HR2 : Hid (Rw w2 r0 121 [.int .u64 0, .int .u64 0, .int .u64 0, .slice none 0 0]) := hide (HRA.out.ext HX2.out)
  have HR0 : Hid (w.heap.size ≤ r0) := hide (Nat.le_of_eq hr0)
  clear hr0
  obtain ⟨e0, HE0⟩ : ∃ e0, Hid (gE D i = e0) := ⟨_, hide rfl⟩
  rw [HE0.out]
  by_cases he : e0 = 0
  · subst he
    have HBL : Hid ((gB D i).length = 512) := hide (gB_len HB.out i HE0.out)
    have HRE : Hid (ptIs D i = decide (unsE 2 (gB D i) = 0)) := hide (by unfold ptIs; rw [HE0.out]; simp)
    obtain ⟨b, HBB⟩ : ∃ b, Hid (gB D i = b) := ⟨_, hide rfl⟩
    obtain ⟨Ab, cb, rfl, hcb, hrb⟩ := HV2.out
    rw [HBB.out] at HBL HRE hrb hcb
    have HCB : Hid (512 ≤ cb) := hide (by rw [← HBL.out]; exact hcb)
    have HRB := hide hrb
    have HNB : Hid (∀ a, Ab = some a → a.block < w2.heap.size) := hide (rd_lt hrb (by rw [HBL.out]; decide))
    obtain ⟨bb, off, u0, rfl, -, hbc⟩ := hrb.at (k := 0) (by rw [HBL.out]; decide)
    have HBN : Hid (bb ≠ r0) := hide (fun e => by
      rw [e] at hbc
      have h := List.mem_of_getElem? (HR2.out.has hbc)
      simp at h)
    clear hbc
    rw [HBB.out, HBL.out]
    clear hcb hrb HV2
    obtain ⟨gh, hgh⟩ : ∃ gh, w2.heap.size = gh := ⟨_, rfl⟩
    obtain ⟨wb, HWB⟩ : ∃ wb, Hid (w2.alloc (.cells #[.int .u64 0, .int .u64 0, .int .u64 0, .slice none 0 0] 121) = wb) := ⟨_, hide rfl⟩
    have HXB : Hid (Ext w2 wb) := hide (by rw [← HWB.out]; exact Ext.alloc _ _)
    have HGB : Hid (Rw wb gh 121 [.int .u64 0, .int .u64 0, .int .u64 0, .slice none 0 0]) := hide (by rw [← HWB.out, ← hgh]; exact Rw.new w2 121 [.int .u64 0, .int .u64 0, .int .u64 0, .slice none 0 0])
    have HBG : Hid (bb ≠ gh) := hide (by have := HNB.out _ rfl; simp only at this; omega)
    have HBR : Hid (∀ a, some (⟨bb, off, none⟩ : Addr) = some a → a.block ≠ r0) := hide (fun a ha => by
      have h5 : bb ≠ r0 := HBN.out
      injection ha with ha
      subst ha
      exact h5)
    have HGN : Hid (∀ a, some (⟨bb, off, none⟩ : Addr) = some a → a.block ≠ gh) := hide (fun a ha => by have := HNB.out a ha; omega)
    have HRG : Hid (r0 ≠ gh) := hide (by have := HR2.out.lt; omega)
    have HWG : Hid (w.heap.size ≤ gh) := hide (by have := (HXA.out.trans HX2.out).size; omega)
    have KN := hide (numbersP_any gh wb)
    have KS : Hid (∀ (W : World) (v : Value), Ext wb W → PtrS gh 3 W v → Calls Tryz.prog 74 #[.slice (some ⟨bb, off, none⟩) 512 cb, .int .u8 2, v] W (UPostL gh 121 [.int .u64 0, .int .u64 0, .int .u64 0, .slice none 0 0] 3 2 b W)) := hide (fun W v hW hv =>
      unseal_any _ cb b HBL.out HCB.out 2 gh 3 (by decide) 121 [.int .u64 0, .int .u64 0, .int .u64 0, .slice none 0 0] v W (HRB.out.ext (HXB.out.trans hW)) (HGB.out.ext hW) hv (by decide) (fun k hk => by rcases k with _ | _ | _ | k; all_goals first | exact ⟨0, rfl⟩ | omega) HGN.out (ptrs_ne hv (by decide) (HGB.out.ext hW) ⟨_, _, rfl⟩) (HT.out.ext (((HXA.out.trans HX2.out).trans HXB.out).trans hW)))
    obtain ⟨e1, HE1⟩ : ∃ e1, Hid (unsE 2 b = e1) := ⟨_, hide rfl⟩
    by_cases he1 : e1 = 0
    · subst he1
      have HIS : Hid (ptIs D i = true) := hide (by rw [HRE.out, HE1.out]; rfl)
      have HPT : Hid (ptAt D i = ptOf b) := hide (by unfold ptAt; rw [HIS.out, if_pos rfl, HBB.out])
      go_upto_region 7 with (first
        | (go_at_call 92; rw [HWB.out]; (with_reducible refine KN.out.mono ?_); rintro e w4 ⟨vn, rfl, hx4, hp4⟩; have HX4 := hide hx4; have HP4 := hide hp4; clear hx4 hp4)
        | (go_at_call 74; (with_reducible refine (KS.out w4 vn HX4.out HP4.out).mono ?_); rintro e w5 ⟨rfl, hr5, ha5⟩; rw [HE1.out]; have HR5 := hide hr5; have HA5 := hide ha5; clear hr5 ha5))
      clear hgh
      have HR5b : Hid (Rw w5 gh 121 [.int .u64 (numAt b 0), .int .u64 (numAt b 1), .int .u64 (numAt b 2), .slice none 0 0]) := hide (by
        have h := HR5.out
        rw [HE1.out, if_pos rfl] at h
        exact h)
      have HR7 : Hid (Rw w5 r0 121 [.int .u64 0, .int .u64 0, .int .u64 0, .slice none 0 0]) := hide (((HR2.out.ext HXB.out).ext HX4.out).alt HA5.out HRG.out)
      have HX5 : Hid (Ext w w5) := hide ((((HXA.out.trans HX2.out).trans HXB.out).trans HX4.out).alt HA5.out HWG.out)
      have HRB5 : Hid (Rd w5 (some ⟨bb, off, none⟩) b) := hide (fun hn0 => by
        obtain ⟨b1, o1, he, hcell⟩ := ((HRB.out.ext HXB.out).ext HX4.out) hn0
        injection he with he
        injection he with he1 he2
        refine ⟨b1, o1, by rw [← he1, ← he2], fun j u hu => ?_⟩
        exact HA5.out.cell (p := ⟨b1, o1 + j, none⟩) (by show b1 ≠ gh; rw [← he1]; exact HBG.out) (hcell j u hu))
      obtain ⟨n0, HN0⟩ : ∃ n, Hid (numAt b 0 = n) := ⟨_, hide rfl⟩
      obtain ⟨n1, HN1⟩ : ∃ n, Hid (numAt b 1 = n) := ⟨_, hide rfl⟩
      obtain ⟨x, HX⟩ : ∃ n, Hid (numAt b 2 = n) := ⟨_, hide rfl⟩
      rw [HN0.out, HN1.out, HX.out] at HR5b
      obtain ⟨m, HM⟩ : ∃ m, Hid (ptLen b = m) := ⟨_, hide rfl⟩
      have HMX : Hid (min x 480 = (m : Int)) := hide (by have := numAt_range b 2; rw [← HM.out, ← HX.out]; unfold ptLen; omega)
      have hm := HMX.out
      have hm480 : (m : Int) ≤ 480 := by omega
      have hmc : m ≤ cb - 32 := by have := HCB.out; omega
      have hcb : ¬ cb = 32 := by have := HCB.out; omega
      have hcb2 : 32 ≤ cb := by have := HCB.out; omega
      have k2 := HR5b.out.cell (i := 2) rfl
      have k3 := HR5b.out.cell (i := 3) rfl
      have f3 := HR5b.out.frozen 3
      clear HR5
      have hmin : (if 480 < x then 480 else x) = (m : Int) := by rw [← hm]; split <;> omega
      have HMIN := hide hmin
      clear hmin
      go_region
      rw [HMIN.out, Int.toNat_natCast]
      have HP6 : Hid (Rw (w5.setCell ⟨gh, 3, none⟩ (.slice (some ⟨bb, off + 32, none⟩) m (cb - 32))).drew gh 121 [.int .u64 n0, .int .u64 n1, .int .u64 x, .slice (some ⟨bb, off + 32, none⟩) m (cb - 32)]) := hide ((HR5b.out.set 3 _).ext (Ext.drew _))
      have HA6 : Hid (Alt gh gh w5 (w5.setCell ⟨gh, 3, none⟩ (.slice (some ⟨bb, off + 32, none⟩) m (cb - 32))).drew) := hide (Alt.set.trans (Alt.of_ext (Ext.drew _) (by have := HR5b.out.lt; simp; omega)))
      generalize (w5.setCell ⟨gh, 3, none⟩ (.slice (some ⟨bb, off + 32, none⟩) m (cb - 32))).drew = w6 at *
      have HR8 : Hid (Rw w6 r0 121 [.int .u64 0, .int .u64 0, .int .u64 0, .slice none 0 0]) := hide (HR7.out.alt HA6.out HRG.out)
      have HX6 : Hid (Ext w w6) := hide (HX5.out.alt HA6.out HWG.out)
      have HRB6 : Hid (Rd w6 (some ⟨bb, off, none⟩) b) := hide (fun hn0 => by
        obtain ⟨b1, o1, he, hcell⟩ := HRB5.out hn0
        injection he with he
        injection he with he1 he2
        refine ⟨b1, o1, by rw [← he1, ← he2], fun j u hu => ?_⟩
        exact HA6.out.cell (p := ⟨b1, o1 + j, none⟩) (by show b1 ≠ gh; rw [← he1]; exact HBG.out) (hcell j u hu))
      clear k2 k3 f3 HR7 HX5
      have p0 := HP6.out.cell (i := 0) rfl
      have p1 := HP6.out.cell (i := 1) rfl
      have p2 := HP6.out.cell (i := 2) rfl
      have p3 := HP6.out.cell (i := 3) rfl
      go_wp2_with (first
        | ((with_reducible show wpList _ _ _ (⟨none, .store _ (.tmp 4) (.tmp 32), _, _, _, _⟩ :: _) _ _); refine wpList_store_rw rfl 121 (.tmp 4) (.tmp 32) rfl r0 rfl [.int .u64 n0, .int .u64 n1, .int .u64 x, .slice (some ⟨bb, off + 32, none⟩) m (cb - 32)] rfl 121 [.int .u64 0, .int .u64 0, .int .u64 0, .slice none 0 0] HR8.out 4 sizePt rfl rfl rfl ?_; intro w7 hr7 hl7; have HR9 := hide hr7; have HX7 : Hid (Ext w w7) := hide (HX6.out.laid hl7 HR0.out); have HB7 : Hid (Rd w7 (some ⟨bb, off, none⟩) b) := hide (rd_laid HRB6.out hl7 HBR.out); clear hr7 hl7))
      have d0 := HR9.out.cell (i := 0) rfl
      have d1 := HR9.out.cell (i := 1) rfl
      have d2 := HR9.out.cell (i := 2) rfl
      have d3 := HR9.out.cell (i := 3) rfl
      refine bodyPost_ret (by simp [results, Tryz.results71, go_sem, d0, d1, d2, d3]; try rfl) rfl ?_
      unfold PtPost
      rw [HPT.out, HIS.out, HE0.out]
      have hby : (ptOf b).by_ = (b.drop 32).take m := by unfold ptOf; rw [HM.out]
      have hlen : (ptOf b).by_.length = m := by rw [hby, List.length_take, List.length_drop, HBL.out]; omega
      rw [hlen, hby, show (ptOf b).num = n0 from HN0.out, show (ptOf b).ep = n1 from HN1.out, show (ptOf b).sz = x from HX.out]
      have hrd := HB7.out.drop 32
      rw [add_flat] at hrd
      exact ⟨_, _, rfl, hmc, hrd.take m, HX7.out⟩
    · have HIS : Hid (ptIs D i = false) := hide (by rw [HRE.out, HE1.out]; simp [he1])
      have HPT : Hid (ptAt D i = pt0) := hide (by unfold ptAt; rw [HIS.out]; rfl)
      have hee : (e1 != 0) = true := by simpa using he1
      go_upto_region 6 with (first
        | (go_at_call 92; rw [HWB.out]; (with_reducible refine KN.out.mono ?_); rintro e w4 ⟨vn, rfl, hx4, hp4⟩; have HX4 := hide hx4; have HP4 := hide hp4; clear hx4 hp4)
        | (go_at_call 74; (with_reducible refine (KS.out w4 vn HX4.out HP4.out).mono ?_); rintro e w5 ⟨rfl, hr5, ha5⟩; rw [HE1.out]; have HR5 := hide hr5; have HA5 := hide ha5; clear hr5 ha5))
      clear hgh
      have HR7 : Hid (Rw w5 r0 121 [.int .u64 0, .int .u64 0, .int .u64 0, .slice none 0 0]) := hide (((HR2.out.ext HXB.out).ext HX4.out).alt HA5.out HRG.out)
      have HX5 : Hid (Ext w w5) := hide ((((HXA.out.trans HX2.out).trans HXB.out).trans HX4.out).alt HA5.out HWG.out)
      go_wp2_with (first
        | ((with_reducible show wpList _ _ _ (⟨none, .store _ (.tmp 4) (.tmp 24), _, _, _, _⟩ :: _) _ _); refine wpList_store_rw rfl 121 (.tmp 4) (.tmp 24) rfl r0 rfl [.int .u64 0, .int .u64 0, .int .u64 0, .slice none 0 0] rfl 121 [.int .u64 0, .int .u64 0, .int .u64 0, .slice none 0 0] HR7.out 4 sizePt rfl rfl rfl ?_; intro w3 hr3 hl3; have HR3 := hide hr3; have HX3 : Hid (Ext w w3) := hide (HX5.out.laid hl3 HR0.out); clear hr3 hl3))
      have d0 := HR3.out.cell (i := 0) rfl
      have d1 := HR3.out.cell (i := 1) rfl
      have d2 := HR3.out.cell (i := 2) rfl
      have d3 := HR3.out.cell (i := 3) rfl
      refine bodyPost_ret (by simp [results, Tryz.results71, go_sem, d0, d1, d2, d3]; try rfl) rfl ?_
      unfold PtPost
      rw [HPT.out, HIS.out, HE0.out]
      exact ⟨none, 0, rfl, Nat.le_refl _, Rd.nil _ _, HX3.out⟩
  · have HRE : Hid (ptIs D i = false) := hide (by unfold ptIs; rw [HE0.out]; simp [he])
    have HRH : Hid (ptAt D i = pt0) := hide (by unfold ptAt; rw [HRE.out]; rfl)
    have hee : (e0 != 0) = true := by simpa using he
    go_wp2_with (first
      | ((with_reducible show wpList _ _ _ (⟨none, .store _ (.tmp 4) (.tmp 18), _, _, _, _⟩ :: _) _ _); refine wpList_store_rw rfl 121 (.tmp 4) (.tmp 18) rfl r0 rfl [.int .u64 0, .int .u64 0, .int .u64 0, .slice none 0 0] rfl 121 [.int .u64 0, .int .u64 0, .int .u64 0, .slice none 0 0] HR2.out 4 sizePt rfl rfl rfl ?_; intro w3 hr3 hl3; have HR3 := hide hr3; have HX3 : Hid (Ext w w3) := hide ((HXA.out.trans HX2.out).laid hl3 HR0.out); clear hr3 hl3))
    have d0 := HR3.out.cell (i := 0) rfl
    have d1 := HR3.out.cell (i := 1) rfl
    have d2 := HR3.out.cell (i := 2) rfl
    have d3 := HR3.out.cell (i := 3) rfl
    refine bodyPost_ret (by simp [results, Tryz.results71, go_sem, d0, d1, d2, d3]; try rfl) rfl ?_
    unfold PtPost
    rw [HRH.out, HRE.out, HE0.out]
    exact ⟨none, 0, rfl, Nat.le_refl _, Rd.nil _ _, HX3.out⟩
end
end Go.Proofs.YtnkcneccolbbdaaGreatDoor
namespace Go.Proofs.YtnkcneccolbbdaaGreatDoor
open Go.RowKit

/-- Can there be a log of that size? -/
def fitsE (n : Nat) (at_ count : Int) : Int := if at_ < 0 ∨ count < 4 ∨ at_ > (n : Int) - 1 - count then 1 else 0
/-- The epoch that is later than those of the first so many parts. -/
def nxE (D : Dk) (at_ : Int) : Nat → Int
  | 0 => 0
  | k + 1 => if ptIs D (at_ + 1 + k) = true then max (nxE D at_ k) (IntKind.u64.wrap ((ptAt D (at_ + 1 + k)).ep + 1)) else nxE D at_ k
theorem ptAt_ep (D : Dk) (i : Int) : 0 ≤ (ptAt D i).ep ∧ (ptAt D i).ep < 18446744073709551616 := by
  unfold ptAt
  split
  · exact numAt_range _ 1
  · exact ⟨by decide, by decide⟩
theorem nxE_range (D : Dk) (at_ : Int) : ∀ k, 0 ≤ nxE D at_ k ∧ nxE D at_ k < 18446744073709551616
  | 0 => by unfold nxE; omega
  | k + 1 => by
    have h := nxE_range D at_ k
    have h2 : 0 ≤ IntKind.u64.wrap ((ptAt D (at_ + 1 + k)).ep + 1) ∧ IntKind.u64.wrap ((ptAt D (at_ + 1 + k)).ep + 1) < 18446744073709551616 := by rw [IntKind.wrap_u64]; omega
    unfold nxE
    split <;> omega
section
variable {B g gd gn c : Nat} {w w1 : World} {A : Option Addr} {D D' : Dk} {r : Value} {e : Ending} {w' : World}
theorem fits_nil (at_ count : Int) : Calls Tryz.prog 45 #[.pointer none, .int .i64 at_, .int .i64 count] w (Same w (.int .i64 6)) := by
  go_enter Tryz.func45, Tryz.ntmps45
  go_wp2
  go_ret
  exact ⟨rfl, rfl⟩
set_option maxHeartbeats 800000 in
theorem fits_any (h : DiskAt B w g gd gn A c D) (b : Bd D) (at_ count : Int) (h1 : -9223372036854775808 ≤ at_ ∧ at_ < 9223372036854775808) (h2 : -9223372036854775808 ≤ count ∧ count < 9223372036854775808) : Calls Tryz.prog 45 #[.pointer (some ⟨g, 0, none⟩), .int .i64 at_, .int .i64 count] w (Same w (.int .i64 (fitsE D.dur.length at_ count))) := by
  have KL := hide (len_any h)
  have hm := b.ok.max
  obtain ⟨n, HN⟩ : ∃ n, Hid (D.dur.length = n) := ⟨_, hide rfl⟩
  rw [HN.out] at KL hm ⊢
  clear h b
  by_cases ha : at_ < 0
  · have HE : Hid (fitsE n at_ count = 1) := hide (by unfold fitsE; rw [if_pos (.inl ha)])
    rw [HE.out]
    go_enter Tryz.func45, Tryz.ntmps45
    go_wp2_with (go_at_call 38; (with_reducible refine KL.out.mono ?_); rintro e w2 ⟨rfl, rfl⟩)
    go_ret
    exact ⟨rfl, rfl⟩
  · by_cases hc : count < 4
    · have HE : Hid (fitsE n at_ count = 1) := hide (by unfold fitsE; rw [if_pos (.inr (.inl hc))])
      rw [HE.out]
      go_enter Tryz.func45, Tryz.ntmps45
      go_wp2_with (go_at_call 38; (with_reducible refine KL.out.mono ?_); rintro e w2 ⟨rfl, rfl⟩)
      go_ret
      exact ⟨rfl, rfl⟩
    · have hw1 : IntKind.i64.wrap ((n : Int) - 1) = (n : Int) - 1 := by rw [IntKind.wrap_i64]; omega
      have hw2 : IntKind.i64.wrap ((n : Int) - 1 - count) = (n : Int) - 1 - count := by rw [IntKind.wrap_i64]; omega
      by_cases hg : at_ > (n : Int) - 1 - count
      · have HE : Hid (fitsE n at_ count = 1) := hide (by unfold fitsE; rw [if_pos (.inr (.inr hg))])
        rw [HE.out]
        go_enter Tryz.func45, Tryz.ntmps45
        go_wp2_with (go_at_call 38; (with_reducible refine KL.out.mono ?_); rintro e w2 ⟨rfl, rfl⟩)
        go_ret
        exact ⟨rfl, rfl⟩
      · have HE : Hid (fitsE n at_ count = 0) := hide (by unfold fitsE; rw [if_neg (by omega)])
        rw [HE.out]
        go_enter Tryz.func45, Tryz.ntmps45
        go_wp2_with (go_at_call 38; (with_reducible refine KL.out.mono ?_); rintro e w2 ⟨rfl, rfl⟩)
        go_ret
        exact ⟨rfl, rfl⟩
theorem gE_in (at_ : Int) (k : Nat) (h0 : 0 ≤ at_) (hk : at_ + 1 + k < (D.dur.length : Int)) : gE D (at_ + 1 + k) = if D.off = true then 8 else 0 := by
  unfold gE
  rw [if_neg (by omega)]
/-- What nextEpoch answers. -/
def nxA (D : Dk) (at_ : Int) (count : Nat) : Int × Int := if D.off = true then (0, 8) else (nxE D at_ count, 0)
set_option maxHeartbeats 1600000 in
theorem nextEpoch_any (h : DiskAt B w g gd gn A c D) (b : Bd D) (at_ : Int) (count : Nat) (h0 : 0 ≤ at_) (h4 : 4 ≤ count) (hf : at_ + 1 + count ≤ (D.dur.length : Int)) (hT : Tab w) :
    Calls Tryz.prog 46 #[.pointer (some ⟨g, 0, none⟩), .int .i64 at_, .int .i64 (count : Int)] w (fun e w' => e = .returned (.tuple #[.int .u64 (nxA D at_ count).1, .int .i64 (nxA D at_ count).2]) ∧ Ext w w') := by
  have HD := hide h
  have HT := hide hT
  have HB := hide b
  have hmx := b.ok.max
  have KR := hide (fun (W : World) (hW : Ext w W) (i : Int) => readPart_any (HD.out.ext hW) HB.out i (HT.out.ext hW))
  have HX0 : Hid (Ext w w) := hide (Ext.refl w)
  have hat : at_ < 5000 := by omega
  have hct : count < 5000 := by omega
  have HF := hide hf
  clear h b hT hf hmx
  go_enter Tryz.func46, Tryz.ntmps46
  go_wp2
  go_loopw [8, 14] (fun u i wr => ∃ k : Nat, k ≤ count ∧ Hid (D.off = true → k = 0) ∧ u = .int .u64 (nxE D at_ k) ∧ i = .int .i64 (k : Int) ∧ Hid (Ext w wr)) (fun _ i _ => count - (intOf i).toNat)
  case atStart => exact ⟨0, Nat.zero_le _, hide fun _ => rfl, rfl, rfl, HX0⟩
  case round =>
    obtain ⟨k, hk, hoff, rfl, rfl, HX⟩ := hrel
    by_cases hlt : k < count
    · have hki : (k : Int) < (count : Int) := by omega
      have hw1 : IntKind.i64.wrap (at_ + 1) = at_ + 1 := by rw [IntKind.wrap_i64]; omega
      have hw2 : IntKind.i64.wrap (at_ + 1 + (k : Int)) = at_ + 1 + (k : Int) := by rw [IntKind.wrap_i64]; omega
      obtain ⟨x, HXX⟩ : ∃ x, Hid (nxE D at_ k = x) := ⟨_, hide rfl⟩
      have HXR : Hid (0 ≤ x ∧ x < 18446744073709551616) := hide (by rw [← HXX.out]; exact nxE_range D at_ k)
      rw [HXX.out]
      have HGE : Hid (gE D (at_ + 1 + k) = if D.off = true then 8 else 0) := hide (gE_in at_ k h0 (by have := HF.out; omega))
      have HNX : Hid (nxE D at_ (k + 1) = if ptIs D (at_ + 1 + k) = true then max x (IntKind.u64.wrap ((ptAt D (at_ + 1 + k)).ep + 1)) else x) := hide (by rw [← HXX.out]; rfl)
      have HEP : Hid (0 ≤ (ptAt D (at_ + 1 + k)).ep ∧ (ptAt D (at_ + 1 + k)).ep < 18446744073709551616) := hide (ptAt_ep _ _)
      obtain ⟨P0, HP0⟩ : ∃ P0, Hid (ptAt D (at_ + 1 + k) = P0) := ⟨_, hide rfl⟩
      obtain ⟨q, HQ⟩ : ∃ q, Hid (ptIs D (at_ + 1 + k) = q) := ⟨_, hide rfl⟩
      obtain ⟨ge, HG⟩ : ∃ ge, Hid (gE D (at_ + 1 + k) = ge) := ⟨_, hide rfl⟩
      rw [HP0.out] at HEP
      rw [HP0.out, HQ.out] at HNX
      rw [HG.out] at HGE
      go_upto_region 6 with (first
        | (go_at_call 71; (with_reducible refine (KR.out wr HX.out _).mono ?_); rintro e w2 ⟨P, pc, rfl, hpc, hrp, hx2⟩; rw [HP0.out, HQ.out, HG.out]; have HX2 : Hid (Ext w w2) := hide (HX.out.trans hx2); clear hrp hx2 hpc))
      have HX3 := hide (HX2.out.trans (Ext.alloc w2 (.cells #[.int .u64 P0.num, .int .u64 P0.ep, .int .u64 P0.sz, .slice P P0.by_.length pc] 121)))
      have hc1 := (Rw.new w2 121 [.int .u64 P0.num, .int .u64 P0.ep, .int .u64 P0.sz, .slice P P0.by_.length pc]).cell (i := 1) rfl
      obtain ⟨y, HY⟩ : ∃ y, Hid (P0.ep = y) := ⟨_, hide rfl⟩
      rw [HY.out] at hc1 HEP HNX HX3 ⊢
      have HOF : Hid (D.off = false → (D.off = true → k + 1 = 0)) := hide (fun h h2 => by rw [h] at h2; cases h2)
      cases hd : D.off with
      | true =>
        have HNA : Hid (nxA D at_ count = (0, 8)) := hide (by unfold nxA; rw [hd]; rfl)
        rw [hd, if_pos rfl] at HGE
        have hge : ge = 8 := HGE.out
        subst hge
        go_wp2
        go_ret2
        exact ⟨by rw [HNA.out]; rfl, HX3.out⟩
      | false =>
        have HOD := hide (HOF.out hd)
        rw [hd, if_neg (by decide)] at HGE
        clear hd
        have hge : ge = 0 := HGE.out
        subst hge
        cases q with
        | false =>
          have HN2 : Hid (nxE D at_ (k + 1) = x) := hide (by rw [HNX.out, if_neg (by decide)])
          go_wp2
          refine ⟨⟨k + 1, by omega, HOD, by rw [HN2.out], by go_num, HX3⟩, by simp [intOf]; omega⟩
        | true =>
          have HN2 : Hid (nxE D at_ (k + 1) = max x (IntKind.u64.wrap (y + 1))) := hide (by rw [HNX.out, if_pos rfl])
          have HMX : Hid ((if x < IntKind.u64.wrap (y + 1) then IntKind.u64.wrap (y + 1) else x) = nxE D at_ (k + 1)) := hide (by rw [HN2.out]; split <;> omega)
          go_wp2
          rw [HMX.out]
          refine ⟨⟨k + 1, by omega, HOD, rfl, by go_num, HX3⟩, by simp [intOf]; omega⟩
    · obtain rfl : k = count := by omega
      have hki : ¬ (k : Int) < (k : Int) := by omega
      cases hd : D.off with
      | true => have := hoff.out hd; omega
      | false =>
        have HNA : Hid (nxA D at_ k = (nxE D at_ k, 0)) := hide (by unfold nxA; rw [hd]; rfl)
        go_wp2
        go_ret2
        exact ⟨by rw [HNA.out]; rfl, HX.out⟩
end
end Go.Proofs.YtnkcneccolbbdaaGreatDoor
