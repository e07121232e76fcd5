/-
  The disk's awake: contract.
-/
import Derived.Test.YtmabminjmcjafaaDskE
import Derived.Test.YtmabminjmcjafaaDskF
import Derived.Lib.SlBytesConst
namespace Go.Proofs.Ytmabminjmcjafaa
open Go.RowKit

theorem own_base {B t size n c : Nat} {w : World} {A : Option Addr} {xs : List Value} (h : w.ownsRow B t size (.slice A n c) n xs) : ∀ a, A = some a → B ≤ a.block ∧ a.block < w.heap.size := fun a ha => by
  rcases h.2 with ⟨hv, _⟩ | ⟨g', _, _, hv, hb, hg', _⟩
  · injection hv with hv; rw [ha] at hv; cases hv
  · injection hv with hv; rw [ha] at hv; injection hv with hv; subst hv; exact ⟨hb, (Array.getElem?_eq_some_iff.1 hg').1⟩
/-- A disk that the call itself made: what turns is its own. -/
theorem Dfr.grown {g gd gn c : Nat} {w0 w w' : World} {A : Option Addr} {D : Dk} (h : Ext w0 w) (hd : DiskAt w0.heap.size w g gd gn A c D) (k : Dfr g gd gn A w w') : Ext w0 w' :=
  ⟨k.os.trans h.os, k.tape.trans h.tape, k.output.trans h.output, Nat.le_trans h.size k.size, fun b hb => (k.other b (Nat.lt_of_lt_of_le hb h.size) (by have := hd.base; omega) (by have := hd.base; omega) (by have := hd.base; omega) (fun a ha e => by have := (own_base hd.pen a ha).1; omega)).trans (Below.block h b hb)⟩
theorem Dk.fallen_dur (D : Dk) (keep : List Bool) : (D.fallen keep).dur = durK (fun k => keep.getD k false) D.dur D.pen D.pen.length := rfl
theorem Dk.fallen_ok {D : Dk} (ok : D.Ok) (keep : List Bool) : (D.fallen keep).Ok :=
  ⟨by rw [Dk.fallen_dur, durK_len]; exact ok.pos, by rw [Dk.fallen_dur, durK_len]; exact ok.max, by rw [Dk.fallen_dur]; exact durK_lens ok.dur ok.pens _, fun x hx => by cases hx⟩
def Dk.more (D : Dk) (k : Nat) (p : List UInt8) : Dk := { D with pen := D.pen ++ [(k, p)], ops := D.ops + 1 }
theorem Dk.more_ok {D : Dk} (ok : D.Ok) {k : Nat} (hk : k < D.dur.length) {p : List UInt8} (hp : p.length = 512) : (D.more k p).Ok :=
  ⟨ok.pos, ok.max, ok.dur, fun x hx => by
    rcases List.mem_append.1 hx with h | h
    · exact ok.pen x h
    · rw [List.mem_singleton.1 h]; exact ⟨hk, hp⟩⟩
theorem Rd.of_rw {w : World} {g : Nat} {t : TypeId} {l : List UInt8} (h : Rw w g t (bs l)) : Rd w (some ⟨g, 0, none⟩) l := fun _ => ⟨g, 0, rfl, fun j u hu => by rw [Nat.zero_add]; exact h.cell (by rw [bs_get, hu]; rfl)⟩
theorem write_quiet {B g gd gn c q : Nat} {w : World} {A : Option Addr} {D : Dk} (h : DiskAt B w g gd gn A c D) (ok : D.Ok) (hoff : D.off = false) (harm : D.arm = 0) (hf : D.pen.length < 1000000) (ho : D.ops < 1000000) (k : Nat) (hk : k < D.dur.length)
    (p : List UInt8) (hp : p.length = 512) (hq : Rw w q 5 (bs p)) (hB : B ≤ w.heap.size) :
    Calls Try.prog 21 #[.pointer (some ⟨g, 0, none⟩), .int .i64 (k : Int), .slice (some ⟨q, 0, none⟩) 512 512] w (DPost B g gd gn w A (.int .i64 0) (D.more k p)) := by
  have h1 := write_any (d := 512) h ok hoff hf ho (by omega) k hk p hp (Rd.of_rw hq) hB
  have e1 : (D.put k p).opE = 0 := by unfold Dk.opE Dk.put; rw [if_neg (by show ¬ D.arm = 1; omega)]
  have e2 : (D.put k p).op = D.more k p := by
    obtain ⟨a, b, c, d, e⟩ := D
    simp only at hoff harm
    subst hoff harm
    rfl
  rw [e1, e2] at h1
  exact h1
theorem write_zero {B g gd gn c q : Nat} {w : World} {A : Option Addr} {D : Dk} (h : DiskAt B w g gd gn A c D) (ok : D.Ok) (hoff : D.off = false) (harm : D.arm = 0) (hf : D.pen.length < 1000000) (ho : D.ops < 1000000) (hk : 0 < D.dur.length)
    (p : List UInt8) (hp : p.length = 512) (hq : Rw w q 5 (bs p)) (hB : B ≤ w.heap.size) :
    Calls Try.prog 21 #[.pointer (some ⟨g, 0, none⟩), .int .i64 0, .slice (some ⟨q, 0, none⟩) 512 512] w (DPost B g gd gn w A (.int .i64 0) (D.more 0 p)) := write_quiet h ok hoff harm hf ho 0 hk p hp hq hB
theorem build_byte (b : Int) (W : World) : (Instr.buildSlice 32 1 #[(0, .int .u8 b)]).run Try.prog W = .ok (.slice (some ⟨W.heap.size, 0, none⟩) 1 1) (W.alloc (.cells #[.int .u8 b] 5)) := by
  obtain ⟨i0, hi, hz0, hz1, hz2⟩ := info_parts info_u8
  refine run_buildSlice W 32 5 1 #[(0, .int .u8 b)] #[.int .u8 b] i0 _ Try.underlying32 hi hz0 (by rw [hz1]; decide) (by rw [hz1]; decide) ?_
  rw [hz1]
  have h := Great.fill_whole (s := 1) (by decide) [.int .u8 b] ((Array.range (1 * 1)).map ((Value.int .u8 0).cells[· % (Value.int .u8 0).cells.size]!)) (by intro v hv; rw [List.mem_singleton.1 hv]; rfl) (by rw [Array.size_map, Array.size_range]; rfl)
  exact h
theorem build_bools (W : World) : (Instr.buildSlice 33 2 #[(0, .bool true), (1, .bool false)]).run Try.prog W = .ok (.slice (some ⟨W.heap.size, 0, none⟩) 2 2) (W.alloc (.cells #[.bool true, .bool false] 4)) := by
  have hz : (Try.prog.info? 4).map (fun i => (i.zero, i.size)) = some (some (.bool false), 1) := by kernel_rfl
  cases hq : Try.prog.info? 4 with
  | none => rw [hq] at hz; cases hz
  | some i =>
    rw [hq] at hz
    simp only [Option.map_some, Option.some.injEq, Prod.mk.injEq] at hz
    refine run_buildSlice W 33 4 2 #[(0, .bool true), (1, .bool false)] #[.bool true, .bool false] i _ Try.underlying33 hq hz.1 (by rw [hz.2]; decide) (by rw [hz.2]; decide) ?_
    rw [hz.2]
    have h := Great.fill_whole (s := 1) (by decide) [.bool true, .bool false] ((Array.range (2 * 1)).map ((Value.bool false).cells[· % (Value.bool false).cells.size]!)) (fun v hv => (List.mem_cons.1 hv).elim (fun e => by rw [e]; rfl) (fun hv => by rw [List.mem_singleton.1 hv]; rfl)) (by rw [Array.size_map, Array.size_range]; rfl)
    exact h
theorem full_one (b : UInt8) (W : World) : Calls Try.prog 20 #[.slice (some ⟨W.heap.size, 0, none⟩) 1 1] (W.alloc (.cells #[.int .u8 (b.toNat : Int)] 5 (1, 2))) (FPost (W.alloc (.cells #[.int .u8 (b.toNat : Int)] 5 (1, 2))) (fullS [b])) :=
  full_any (some ⟨W.heap.size, 0, none⟩) 1 [b] _ (fun _ => ⟨W.heap.size, 0, rfl, fun j u hu => by
    show (W.alloc (.cells (bs [b]).toArray 5 (1, 2))).cell? _ = _
    rw [cell_of_row _ W.heap.size (0 + j) (bs [b]).toArray 5 (1, 2) (heap_alloc_new W _), Nat.zero_add, List.getElem?_toArray, bs_get, hu]
    rfl⟩) (by show 1 < _; decide)
theorem at_awake (p q : List UInt8) : (((((D0 2).more 0 p).more 0 q).fallen [true, false]).at 0) = p := rfl
theorem keep_new {B g gd gn c : Nat} {w : World} {A : Option Addr} {D : Dk} (h : DiskAt B w g gd gn A c D) : ∀ W, Dfr g gd gn A (w.alloc (.cells #[.bool true, .bool false] 4)) W → RdB W (some ⟨w.heap.size, 0, none⟩) [true, false] := fun W hW _ => by
  have h1 : Rw (w.alloc (.cells #[.bool true, .bool false] 4)) w.heap.size 4 [.bool true, .bool false] := Rw.new _ _ _
  have lg := h.blk.lt
  have ld := h.dur.lt
  have ln := h.new.lt
  have h2 : Rw W w.heap.size 4 [.bool true, .bool false] := (hW.other _ h1.lt (by omega) (by omega) (by omega) (fun a ha e => by have := (own_base h.pen a ha).2; omega)).trans h1
  refine ⟨w.heap.size, 0, rfl, fun j v hv => ?_⟩
  rw [Nat.zero_add]
  refine h2.cell ?_
  have : ([true, false].map Value.bool)[j]? = some (.bool v) := by rw [List.getElem?_map, hv]; rfl
  exact this
theorem restart_two {B g gd gn c : Nat} {w : World} {A : Option Addr} {D : Dk} (h : DiskAt B w g gd gn A c D) (ok : D.Ok) (hf : D.pen.length < 1000000) (hB : B ≤ w.heap.size) :
    Calls Try.prog 16 #[.pointer (some ⟨g, 0, none⟩), .slice (some ⟨w.heap.size, 0, none⟩) 2 2] (w.alloc (.cells #[.bool true, .bool false] 4)) (DPost B g gd gn (w.alloc (.cells #[.bool true, .bool false] 4)) A (.int .i64 0) (D.fallen [true, false])) :=
  restart_any (ck := 2) (h.ext (Ext.alloc _ _)) ok hf (Nat.le_trans hB (Ext.alloc _ _).size) [true, false] (P := some ⟨w.heap.size, 0, none⟩) (keep_new h)
theorem read_awake {B g gd gn c : Nat} {w : World} {A : Option Addr} {p q : List UInt8} (h : DiskAt B w g gd gn A c ((((D0 2).more 0 p).more 0 q).fallen [true, false])) (ok : ((((D0 2).more 0 p).more 0 q).fallen [true, false]).Ok) :
    Calls Try.prog 18 #[.pointer (some ⟨g, 0, none⟩), .int .i64 0] w (RPost w p) := read_any h ok rfl (by show 0 < 1000000000; decide) 0 (Nat.lt_of_lt_of_le Nat.zero_lt_one ok.pos)
def Awake (w : World) (e : Ending) (w' : World) : Prop := e = .returned (.bool true) ∧ Ext w w'
set_option maxRecDepth 20000 in
set_option maxHeartbeats 3200000 in
theorem awake_any (w : World) : Calls Try.prog 8 #[] w (Awake w) := by
  have KN := hide (new_any 2 (by decide) (by decide) w)
  obtain ⟨p, HP⟩ : ∃ p, Hid (fullS [97] = p) := ⟨_, hide rfl⟩
  obtain ⟨q, HQ⟩ : ∃ q, Hid (fullS [98] = q) := ⟨_, hide rfl⟩
  have LP : Hid (p.length = 512) := hide (by rw [← HP.out]; exact fullS_length _)
  have LQ : Hid (q.length = 512) := hide (by rw [← HQ.out]; exact fullS_length _)
  have L0 : Hid ((D0 2).dur.length = 2) := hide (D0_len 2)
  have OK0 := hide (D0_ok 2 (by decide) (by decide))
  have KF : Hid (∀ W : World, Calls Try.prog 20 #[.slice (some ⟨W.heap.size, 0, none⟩) 1 1] (W.alloc (.cells #[.int .u8 97] 5 (1, 2))) (FPost (W.alloc (.cells #[.int .u8 97] 5 (1, 2))) p)) := hide fun (W : World) => by
    have h := full_one 97 W
    rw [HP.out] at h
    exact h
  have KG : Hid (∀ W : World, Calls Try.prog 20 #[.slice (some ⟨W.heap.size, 0, none⟩) 1 1] (W.alloc (.cells #[.int .u8 98] 5 (1, 2))) (FPost (W.alloc (.cells #[.int .u8 98] 5 (1, 2))) q)) := hide fun (W : World) => by
    have h := full_one 98 W
    rw [HQ.out] at h
    exact h
  have HBB := hide build_bools
  have HBY := hide build_byte
  have hcv := fun (w : World) (C : Array Value) (n c : Nat) => Lib.run_convert_bytes_const (P := Try.prog) w 32 5 C n c Try.underlying32 Try.underlying5
  go_enter Try.func8, Try.ntmps8
  go_upto_region 6 with (first
    | (go_at_call 9; refine KN.out.mono ?_; rintro e w1 ⟨g, gd, gn, rfl, hd1, hx1⟩; have H1 := hide hd1; have X1 := hide hx1; clear hd1 hx1)
    | ((with_reducible show wpList _ _ _ (⟨some 16, _, _, _, _, _⟩ :: _) _ _); refine wpList_gives (gives_buildSlice rfl [(0, .int .u8 97)] rfl (HBY.out 97 w1) ⟨rfl, rfl⟩) rfl ?_)
    | ((with_reducible show wpList _ _ _ (⟨some 23, _, _, _, _, _⟩ :: _) _ _); refine wpList_gives (gives_buildSlice rfl [(0, .int .u8 98)] rfl (HBY.out 98 w4) ⟨rfl, rfl⟩) rfl ?_)
    | ((with_reducible show wpList _ _ _ (⟨some 31, _, _, _, _, _⟩ :: _) _ _); refine wpList_gives (gives_buildSlice rfl [(0, .bool true), (1, .bool false)] rfl (HBB.out w7) ⟨rfl, rfl⟩) rfl ?_)
    | (go_at_call 20; refine (KG.out w4).mono ?_; rintro e w6 ⟨h6, rfl, hr6, hg6, hx6⟩;
       have R6 := hide hr6; have X6 := hide ((Ext.alloc _ _).trans hx6); clear hr6 hg6 hx6)
    | (go_at_call 20; refine (KF.out w1).mono ?_; rintro e w3 ⟨h3, rfl, hr3, hg3, hx3⟩;
       have R3 := hide hr3; have X3 := hide ((Ext.alloc _ _).trans hx3); clear hr3 hg3 hx3)
    | (go_at_call 21;
       have KW := write_zero (q := h6) (H4.out.ext X6.out) (Dk.more_ok OK0.out (k := 0) (by rw [L0.out]; decide) LP.out) rfl rfl (by show 1 < 1000000; decide) (by show 1 < 1000000; decide) (by show 0 < (D0 2).dur.length; rw [L0.out]; decide) q LQ.out R6.out (X4.out.trans X6.out).size;
       (with_reducible refine KW.mono ?_); clear KW;
       rintro e w7 ⟨A7, c7, rfl, hd7, hf7, hn7⟩;
       have H7 := hide hd7; have X7 := hide (Dfr.grown (X4.out.trans X6.out) (H4.out.ext X6.out) hf7); clear hd7 hf7 hn7)
    | (go_at_call 21;
       have KW := write_zero (q := h3) (H1.out.ext X3.out) OK0.out rfl rfl (by show 0 < 1000000; decide) (by show 0 < 1000000; decide) (by rw [L0.out]; decide) p LP.out R3.out (X1.out.trans X3.out).size;
       (with_reducible refine KW.mono ?_); clear KW;
       rintro e w4 ⟨A4, c4, rfl, hd4, hf4, hn4⟩;
       have H4 := hide hd4; have X4 := hide (Dfr.grown (X1.out.trans X3.out) (H1.out.ext X3.out) hf4); clear hd4 hf4 hn4)
    | (go_at_call 16;
       have KR := restart_two H7.out (Dk.more_ok (Dk.more_ok OK0.out (k := 0) (by rw [L0.out]; decide) LP.out) (k := 0) (by show 0 < (D0 2).dur.length; rw [L0.out]; decide) LQ.out) (by show 2 < 1000000; decide) X7.out.size;
       (with_reducible refine KR.mono ?_); clear KR;
       rintro e w9 ⟨A9, c9, rfl, hd9, hf9, hn9⟩;
       have H9 := hide hd9; have X9 := hide (Dfr.grown (X7.out.trans (Ext.alloc _ _)) (H7.out.ext (Ext.alloc _ _)) hf9); clear hd9 hf9 hn9))
  have KRD := hide (read_awake H9.out (Dk.fallen_ok (Dk.more_ok (Dk.more_ok OK0.out (k := 0) (by rw [L0.out]; decide) LP.out) (k := 0) (by show 0 < (D0 2).dur.length; rw [L0.out]; decide) LQ.out) _))
  have P0 : Hid ((bs p)[0]? = some (.int .u8 97)) := hide (by rw [← HP.out]; rfl)
  clear H1 X1 R3 X3 H4 X4 R6 X6 H7 X7 H9 KN KF KG HBB HBY hcv
  go_upto_region 7 with (go_at_call 18; (with_reducible refine KRD.out.mono ?_); rintro e w10 ⟨h10, rfl, hr10, -, hx10⟩)
  have ca := hr10.cell P0.out
  have X10 := hide (X9.out.trans hx10)
  clear hr10 hx10
  go_wp2
  go_ret
  exact ⟨rfl, X10.out⟩
end Go.Proofs.Ytmabminjmcjafaa
