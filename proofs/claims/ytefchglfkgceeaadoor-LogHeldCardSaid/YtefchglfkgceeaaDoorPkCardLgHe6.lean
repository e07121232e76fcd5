/-
  A new log on a new disk: the laws' fresh.
  The document's example: awake.
  A new log that only has got records: what is held and how much room there is.
  The walk of LogHeld, for every input.
-/
import Derived.Lib.SlBytesConst
import Derived.Test.YtefchglfkgceeaaDoorPkCardLgHe5
set_option linter.unusedVariables false
set_option linter.unusedSimpArgs false

namespace Go.Proofs.YtefchglfkgceeaaDoor
open Go.RowKit

section
variable {n a c : Nat} {w0 w : World}
theorem set_lens {L : List (List UInt8)} (h : ∀ s ∈ L, s.length = 512) (i : Nat) (p : List UInt8) (hp : p.length = 512) : ∀ s ∈ L.set i p, s.length = 512 := fun s hs => by
  rcases List.mem_or_eq_of_mem_set hs with h1 | h1
  · exact h s h1
  · rw [h1]; exact hp
theorem zS_lens (n : Nat) : ∀ s ∈ zS n, s.length = 512 := fun s hs => by rw [List.eq_of_mem_replicate hs]; exact List.length_replicate ..
theorem still_bd {dur : List (List UInt8)} {k : Nat} (h1 : 1 ≤ dur.length) (h2 : dur.length ≤ 4096) (h : ∀ s ∈ dur, s.length = 512) (hk : k < 1000000) : Bd ⟨dur, [], k, 0, false⟩ :=
  ⟨⟨h1, h2, h, fun x hx => by cases hx⟩, by show (0 : Nat) < _; decide, hk, by show (0 : Nat) < _; decide⟩
theorem D0_bd (h1 : 1 ≤ n) (h2 : n ≤ 4096) : Bd (D0 n) := still_bd (by show 1 ≤ (zS n).length; rw [zS_len]; exact h1) (by show (zS n).length ≤ _; rw [zS_len]; exact h2) (zS_lens n) (by decide)
theorem dk1_len : (dk1 n a c).dur.length = n := by show ((zS n).set a (b1S c)).length = n; rw [List.length_set, zS_len]
theorem dk2_len : (dk2 n a c).dur.length = n := by show ((((zS n).set a (b1S c)).set a (b2S c)).set (a + 2) bpS).length = n; rw [List.length_set, List.length_set, List.length_set, zS_len]
theorem dk1_bd (h1 : 1 ≤ n) (h2 : n ≤ 4096) : Bd (dk1 n a c) := still_bd (by show 1 ≤ (dk1 n a c).dur.length; rw [dk1_len]; exact h1) (by show (dk1 n a c).dur.length ≤ _; rw [dk1_len]; exact h2) (set_lens (zS_lens n) a _ (b1S_len c)) (by decide)
theorem dk2_bd (h1 : 1 ≤ n) (h2 : n ≤ 4096) : Bd (dk2 n a c) := still_bd (by show 1 ≤ (dk2 n a c).dur.length; rw [dk2_len]; exact h1) (by show (dk2 n a c).dur.length ≤ _; rw [dk2_len]; exact h2) (set_lens (set_lens (set_lens (zS_lens n) a _ (b1S_len c)) a _ (b2S_len c)) (a + 2) _ bpS_len) (by decide)
theorem lgN_ok (h4 : 4 ≤ c) (h5 : c ≤ 4096) (hf : a + 1 + c ≤ n) : (lgN a c).Ok (dk2 n a c) :=
  ⟨⟨by show 1 < _; decide, by show 0 < _; decide, by show 480 < _; decide, by show 480 < _; decide, by show 0 < _; decide, by show c < _; omega⟩, ⟨h4, h5⟩, by rw [dk2_len]; exact hf, by show 480 < _; decide, by show 0 < _; decide, by show 0 < _; decide⟩
/-- What fresh leaves. -/
def FrPost (c : Nat) (w : World) (e : Ending) (w' : World) : Prop := ∃ X', e = .returned (.tuple #[.pointer (some ⟨X'.g, 0, none⟩), .pointer (some ⟨X'.q, 0, none⟩)]) ∧ LgAt w w' X' (dk2 (c + 3) 1 c) (lgN 1 c)
set_option maxHeartbeats 1600000 in
theorem fresh_any (h4 : 4 ≤ c) (h5 : c ≤ 4000) (hT : Tab w) : Calls Tryd.prog 8 #[.int .i64 (c : Int)] w (FrPost c w) := by
  have KN := hide (new_any (c + 3) (by omega) (by omega) w)
  have KF : Hid (∀ w1 g gd gn, Ext w w1 → DiskAt w.heap.size w1 g gd gn none 0 (D0 (c + 3)) → Calls Tryd.prog 20 #[.pointer (some ⟨g, 0, none⟩), .int .i64 1, .int .i64 (c : Int)] w1 (DPost w.heap.size g gd gn w1 none (.int .i64 0) (dk1 (c + 3) 1 c))) := hide (fun w1 g gd gn hx hd => by
    obtain ⟨e1, e2⟩ := format_new (n := c + 3) (a := 1) (c := c) h4 (by omega)
    have k := format_any hx hd (D0_bd (by omega) (by omega)) (by show (0 : Nat) < _; decide) (by show (0 : Nat) < _; decide) hT (1 : Int) (c : Int) (by omega) (by omega)
    rw [show ((1 : Nat) : Int) = 1 from rfl] at e1 e2
    rw [e1, e2] at k
    exact k)
  have KO : Hid (∀ w1 g gd gn A cc, Ext w w1 → DiskAt w.heap.size w1 g gd gn A cc (dk1 (c + 3) 1 c) → Calls Tryd.prog 17 #[.pointer (some ⟨g, 0, none⟩), .int .i64 1, .int .i64 (c : Int)] w1 (OPost w w1 g gd gn A (dk2 (c + 3) 1 c) 0 (lgN 1 c))) := hide (fun w1 g gd gn A cc hx hd => by
    obtain ⟨e1, e2, e3⟩ := open_new (n := c + 3) (a := 1) (c := c) h4 (by omega) (by omega)
    obtain ⟨-, e5⟩ := head_new (n := c + 3) (a := 1) (c := c) (by omega) (by omega)
    rw [show ((1 : Nat) : Int) = 1 from rfl] at e1 e2 e3 e5
    have k := open_any hx hd (dk1_bd (by omega) (by omega)) (by show (0 : Nat) < _; decide) (by show 2 < 800000; decide) hT (1 : Int) (c : Int) (by omega) (by omega) (by rw [e5]; show 480 < 576460752303423488; decide) (by rw [e5]; show 480 < 1152921504606846976; decide)
    rw [e1, e2, e3] at k
    exact k)
  have hcw : IntKind.i64.wrap ((c : Int) + 3) = ((c + 3 : Nat) : Int) := by rw [IntKind.wrap_i64]; omega
  obtain ⟨m, HM⟩ : ∃ m : Int, Hid (((c + 3 : Nat) : Int) = m) := ⟨_, hide rfl⟩
  rw [HM.out] at KN hcw
  clear h4 h5 hT
  go_enter Tryd.func8, Tryd.ntmps8
  go_wp2_with (first
    | (go_at_call 19; (with_reducible refine KN.out.mono ?_); rintro e w1 ⟨g, gd, gn, rfl, hd1, hx1⟩; have HD1 := hide hd1; have HX1 := hide hx1; clear hd1 hx1)
    | (go_at_call 20; (with_reducible refine (KF.out w1 g gd gn HX1.out HD1.out).mono ?_); rintro e w2 ⟨A2, c2, rfl, hd2, hf2, hn2⟩; have HD2 := hide hd2; have HX2 : Hid (Ext w w2) := hide (Dfr.grown HX1.out HD1.out hf2); clear hd2 hf2 hn2)
    | (go_at_call 17; (with_reducible refine (KO.out w2 g gd gn A2 c2 HX2.out HD2.out).mono ?_); rintro e w3 ⟨hp3, -⟩; obtain ⟨X3, rfl, hl3, hg3, -⟩ := hp3 rfl; have HL3 := hide hl3; have HG3 := hide hg3; clear hl3 hg3 hp3))
  go_ret2
  exact ⟨X3, by rw [HG3.out]; rfl, HL3.out⟩
end
end Go.Proofs.YtefchglfkgceeaaDoor
namespace Go.Proofs.YtefchglfkgceeaaDoor
open Go.RowKit

section
variable {w0 w : World} {X : Bk} {D : Dk} {L : Lg}
theorem LgAt.has_lt (h : LgAt w0 w X D L) {k : Nat} (hk : X.has k) : k < w.heap.size := by
  rcases hk with rfl | rfl | rfl | rfl | ⟨a, ha, rfl⟩ | hk
  · exact h.blk.lt
  · exact h.disk.blk.lt
  · exact h.disk.dur.lt
  · exact h.disk.new.lt
  · exact (own_base h.disk.pen a ha).2
  · exact (own_block h.tail k hk).2.1
theorem build_a (W : World) : (Instr.buildSlice 33 1 #[(0, .int .u8 97)]).run Tryd.prog W = .ok (.slice (some ⟨W.heap.size, 0, none⟩) 1 1) (W.alloc (.cells #[.int .u8 97] 5)) := by kernel_rfl
theorem build_bc (W : World) : (Instr.buildSlice 33 2 #[(0, .int .u8 98), (1, .int .u8 99)]).run Tryd.prog W = .ok (.slice (some ⟨W.heap.size, 0, none⟩) 2 2) (W.alloc (.cells #[.int .u8 98, .int .u8 99] 5)) := by kernel_rfl
def aw1 : Lg := addL (heldL (lgN 1 8) 0) [97]
def aw2 : Lg := addL (heldL aw1 0) [98, 99]
theorem aw1_end : endOf (lgN 1 8) = 480 ∧ endOf aw1 = 483 ∧ endOf aw2 = 487 := by decide
theorem aw2_tail : aw2.tail = [0, 1, 97, 0, 2, 98, 99] := by decide
theorem aw_ap1 : apE (lgN 1 8) 1 0 = 0 ∧ apE aw1 2 0 = 0 := by decide
theorem aw_oks {D : Dk} (hl : D.dur.length = 11) : (lgN 1 8).Ok D ∧ aw1.Ok D ∧ aw2.Ok D := by
  refine ⟨⟨⟨by decide, by decide, by decide, by decide, by decide, by decide⟩, by decide, by rw [hl]; decide, by decide, by decide, by decide⟩, ⟨⟨by decide, by decide, by decide, by decide, by decide, by decide⟩, by decide, by rw [hl]; decide, by decide, by decide, by decide⟩, ⟨⟨by decide, by decide, by decide, by decide, by decide, by decide⟩, by decide, by rw [hl]; decide, by decide, by decide, by decide⟩⟩
theorem new_not (h : LgAt w0 w X D L) : ∀ a, some (⟨w.heap.size, 0, none⟩ : Addr) = some a → ¬ X.has a.block ∧ a.block < (w.heap.size + 1) := fun a ha => by
  injection ha with ha
  subst ha
  exact ⟨fun hh => by have := h.has_lt hh; simp only at this; omega, by simp⟩
theorem app_a (h : LgAt w0 w X (dk2 11 1 8) (lgN 1 8)) (fr : Nat × Nat) : Calls Tryd.prog 23 #[.pointer (some ⟨X.q, 0, none⟩), .slice (some ⟨w.heap.size, 0, none⟩) 1 1, .int .i64 0] (w.alloc (.cells #[.int .u8 97] 5 fr)) (LPost w0 (w.alloc (.cells #[.int .u8 97] 5 fr)) X (.tuple #[.int .u64 480, .int .i64 0]) (dk2 11 1 8) aw1) := by
  have k := append_any (h.ext_ (Ext.alloc w (.cells #[.int .u8 97] 5 fr))) (aw_oks dk2_len).1 (by decide) (some ⟨w.heap.size, 0, none⟩) 1 1 [97] 0 (Rd.newf w 5 [97] [] fr) rfl (by decide) (by have := new_not h; simpa using this) (by decide) (by decide)
  have e1 : apR (lgN 1 8) [97] 0 = .tuple #[.int .u64 480, .int .i64 0] := by
    unfold apR
    rw [show apE (lgN 1 8) ([97] : List UInt8).length 0 = 0 from aw_ap1.1, if_pos rfl, aw1_end.1]
    rfl
  have e2 : apL (lgN 1 8) [97] 0 = aw1 := by
    unfold apL
    rw [show apE (lgN 1 8) ([97] : List UInt8).length 0 = 0 from aw_ap1.1, if_pos rfl]
    rfl
  rw [e1, e2] at k
  exact k
theorem app_bc (h : LgAt w0 w X (dk2 11 1 8) aw1) (fr : Nat × Nat) : Calls Tryd.prog 23 #[.pointer (some ⟨X.q, 0, none⟩), .slice (some ⟨w.heap.size, 0, none⟩) 2 2, .int .i64 0] (w.alloc (.cells #[.int .u8 98, .int .u8 99] 5 fr)) (LPost w0 (w.alloc (.cells #[.int .u8 98, .int .u8 99] 5 fr)) X (.tuple #[.int .u64 483, .int .i64 0]) (dk2 11 1 8) aw2) := by
  have k := append_any (h.ext_ (Ext.alloc w (.cells #[.int .u8 98, .int .u8 99] 5 fr))) (aw_oks dk2_len).2.1 (by decide) (some ⟨w.heap.size, 0, none⟩) 2 2 [98, 99] 0 (Rd.newf w 5 [98, 99] [] fr) rfl (by decide) (by have := new_not h; simpa using this) (by decide) (by decide)
  have e1 : apR aw1 [98, 99] 0 = .tuple #[.int .u64 483, .int .i64 0] := by
    unfold apR
    rw [show apE aw1 ([98, 99] : List UInt8).length 0 = 0 from aw_ap1.2, if_pos rfl, aw1_end.2.1]
    rfl
  have e2 : apL aw1 [98, 99] 0 = aw2 := by
    unfold apL
    rw [show apE aw1 ([98, 99] : List UInt8).length 0 = 0 from aw_ap1.2, if_pos rfl]
    rfl
  rw [e1, e2] at k
  exact k
theorem read_a (h : LgAt w0 w X (dk2 11 1 8) aw2) : Calls Tryd.prog 25 #[.pointer (some ⟨X.q, 0, none⟩), .int .u64 480] w (fun e w' => ∃ A c, e = .returned (.tuple #[.slice A 1 c, .int .u64 483, .int .i64 0]) ∧ Rd w' A [97] ∧ Ext w w') := by
  have k := read_tail h (aw_oks dk2_len).2.2 rfl 0 1 7 (by decide) (by decide) (by decide) (by decide) (by decide)
  refine k.mono fun e w' ⟨v, he, ho, hx⟩ => ?_
  have e1 : (aw2.tail.drop (0 + 2)).take 1 = [97] := by decide
  rw [e1] at ho
  obtain ⟨A, c, rfl, -, hr⟩ := ho.bytes
  exact ⟨A, c, he, hr, hx⟩
theorem end_bc (h : LgAt w0 w X (dk2 11 1 8) aw2) : Calls Tryd.prog 15 #[.pointer (some ⟨X.q, 0, none⟩)] w (fun e w' => e = .returned (.int .u64 487) ∧ ∃ m, w' = w.drewN m) := by
  have k := end_any h (aw_oks dk2_len).2.2
  rw [aw1_end.2.2] at k
  exact k
set_option maxRecDepth 20000 in
set_option maxHeartbeats 1600000 in
theorem awake_any (w : World) (hT : Tab w) : Calls Tryd.prog 7 #[] w (Awake w) := by
  have KF : Hid (Calls Tryd.prog 8 #[.int .i64 8] w (FrPost 8 w)) := hide (fresh_any (c := 8) (by decide) (by decide) hT)
  have HBA := hide build_a
  have HBB := hide build_bc
  have hcv := fun (w : World) (C : Array Value) (n c : Nat) => Lib.run_convert_bytes_const (P := Tryd.prog) w 33 5 C n c Tryd.underlying33 Tryd.underlying5
  go_enter Tryd.func7, Tryd.ntmps7
  go_upto_region 7 with (first
    | (go_at_call 8; (with_reducible refine KF.out.mono ?_); rintro e w1 ⟨X1, rfl, hl1⟩; have HL1 := hide hl1; clear hl1)
    | ((with_reducible show wpList _ _ _ (⟨some 22, _, _, _, _, _⟩ :: _) _ _); refine wpList_gives (gives_buildSlice rfl [(0, .int .u8 97)] rfl (HBA.out w1) ⟨rfl, rfl⟩) rfl ?_)
    | (go_at_call 23; (with_reducible refine (app_a HL1.out _).mono ?_); rintro e w2 ⟨X2, rfl, hl2, hf2, hn2⟩; have HL2 := hide hl2; have HQ2 : Hid (X2.q = X1.q) := hide hn2.q; clear hl2 hf2 hn2)
    | ((with_reducible show wpList _ _ _ (⟨some 29, _, _, _, _, _⟩ :: _) _ _); refine wpList_gives (gives_buildSlice rfl [(0, .int .u8 98), (1, .int .u8 99)] rfl (HBB.out w2) ⟨rfl, rfl⟩) rfl ?_)
    | (go_at_call 23; rw [← HQ2.out]; (with_reducible refine (app_bc HL2.out _).mono ?_); rintro e w3 ⟨X3, rfl, hl3, hf3, hn3⟩; have HL3 := hide hl3; have HQ3 : Hid (X3.q = X2.q) := hide hn3.q; clear hl3 hf3 hn3)
    | (go_at_call 25; rw [← HQ3.out]; (with_reducible refine (read_a HL3.out).mono ?_); rintro e w4 ⟨A4, c4, rfl, hr4, hx4⟩; have HR4 := hide hr4; have HL4 := hide (HL3.out.ext_ hx4); clear hr4 hx4))
  clear hcv
  go_wp2_with (go_at_call 15; (with_reducible refine (end_bc HL4.out).mono ?_); rintro e w5 ⟨rfl, m5, rfl⟩; have hs := str_any (HR4.out.ext ((Ext.refl w4).drewN m5)) 1 c4 rfl)
  go_ret
  exact ⟨rfl, HL4.out.ext.trans ((Ext.refl _).drewN _)⟩
end
end Go.Proofs.YtefchglfkgceeaaDoor
namespace Go.Proofs.YtefchglfkgceeaaDoor
open Go.RowKit

def hL (c : Nat) (T : List UInt8) (H : Nat) : Lg := ⟨1, ⟨1, 0, 480, 480, 0, c⟩, 480, T, H⟩
theorem flo480 : flo 480 = 480 := by decide
section
variable {c H n : Nat} {T : List UInt8} {w0 w : World} {X : Bk} {D : Dk} {L : Lg}
theorem hL_new : lgN 1 c = hL c [] 0 := rfl
theorem hL_end : endOf (hL c T H) = 480 + T.length := by show flo 480 + T.length = _; rw [flo480]
theorem hL_room : roomOf (hL c T H) = ((480 * c : Nat) : Int) - (T.length : Int) - (H : Int) := by
  unfold roomOf
  rw [hL_end]
  show (((480 / 480 + c) * 480 : Nat) : Int) - ((480 + T.length : Nat) : Int) - (H : Int) = _
  omega
theorem hL_ok (h4 : 4 ≤ c) (h9 : c ≤ 9) (hs : T.length + H ≤ 480 * c) : (hL c T H).Ok (dk2 (c + 3) 1 c) :=
  ⟨⟨by show 1 < _; decide, by show 0 < _; decide, by show 480 < _; decide, by show 480 < _; decide, by show 0 < _; decide, by show c < _; omega⟩, ⟨h4, by show c ≤ 4096; omega⟩, by rw [dk2_len]; show 1 + 1 + c ≤ c + 3; omega, by show 480 < _; decide, by show T.length < _; omega, by show H < _; omega⟩
/-- The world with n noughts more. -/
def mkW (n : Nat) (W : World) : World := W.alloc (.cells (madeCells #[.int .u8 0] n) 5)
theorem mkW_ext (n : Nat) (W : World) : Ext W (mkW n W) := Ext.alloc W _
theorem mkW_rd (n : Nat) (W : World) : Rd (mkW n W) (some ⟨W.heap.size, 0, none⟩) (List.replicate n 0) := (Blk.made W n).rd
theorem mkW_not (h : LgAt w0 w X D L) (n : Nat) : ∀ a, some (⟨w.heap.size, 0, none⟩ : Addr) = some a → ¬ X.has a.block ∧ a.block < (mkW n w).heap.size := fun a ha => by
  have := new_not h a ha
  exact ⟨this.1, by unfold mkW; simpa using this.2⟩
theorem mkW_run (n : Nat) (hn : n ≤ 1200) (W : World) : (Instr.makeSlice 33 (.int .i64 (n : Int)) (.int .i64 (n : Int))).run Tryd.prog W = .ok (.slice (some ⟨W.heap.size, 0, none⟩) n n) (mkW n W) := run_make_bytes n (by omega) W
/-- So many bytes more, so many more held. -/
def mT (T p : List UInt8) : List UInt8 := (T ++ be2 p.length) ++ p
theorem mT_len (T p : List UInt8) : (mT T p).length = T.length + 2 + p.length := by
  unfold mT
  rw [List.length_append, List.length_append]
  show T.length + (be2 p.length).length + _ = _
  rw [show (be2 p.length).length = 2 from rfl]
theorem held_app (h4 : 4 ≤ c) (h9 : c ≤ 9) (h : LgAt w0 w X (dk2 (c + 3) 1 c) (hL c T H)) (P : Option Addr) (cc : Nat) (p : List UInt8) (hn : p.length = n) (k : Nat) (hr : Rd w P p) (hP : ∀ a, P = some a → ¬ X.has a.block ∧ a.block < w.heap.size) (h1 : 0 < n) (h2 : n ≤ 1200) (hs : T.length + H + 2 + n + k ≤ 480 * c) :
    Calls Tryd.prog 23 #[.pointer (some ⟨X.q, 0, none⟩), .slice P n cc, .int .i64 (k : Int)] w (LPost w0 w X (.tuple #[.int .u64 ((480 + T.length : Nat) : Int), .int .i64 0]) (dk2 (c + 3) 1 c) (hL c (mT T p) (H + k))) := by
  have kk := append_any h (hL_ok h4 h9 (by omega)) (by show 480 < _; decide) P cc n p (k : Int) hr hn (by omega) hP (by show T.length < _; omega) (by omega)
  have e0 : apE (hL c T H) n (k : Int) = 0 := by unfold apE; rw [if_neg (by omega), if_neg (by omega), hL_room, if_neg (by omega)]
  have e1 : apR (hL c T H) p (k : Int) = .tuple #[.int .u64 ((480 + T.length : Nat) : Int), .int .i64 0] := by unfold apR; rw [hn, e0, if_pos rfl, hL_end]
  have e2 : apL (hL c T H) p (k : Int) = hL c (mT T p) (H + k) := by unfold apL; rw [hn, e0, if_pos rfl]; rfl
  rw [e1, e2] at kk
  exact kk
theorem held_full (h4 : 4 ≤ c) (h9 : c ≤ 9) (h : LgAt w0 w X (dk2 (c + 3) 1 c) (hL c T H)) (P : Option Addr) (cc : Nat) (p : List UInt8) (hn : p.length = n) (k : Nat) (hr : Rd w P p) (hP : ∀ a, P = some a → ¬ X.has a.block ∧ a.block < w.heap.size) (h1 : 0 < n) (h2 : n ≤ 1200) (hk : k < 100000) (h0 : T.length + H ≤ 480 * c) (hs : ¬ T.length + H + 2 + n + k ≤ 480 * c) :
    Calls Tryd.prog 23 #[.pointer (some ⟨X.q, 0, none⟩), .slice P n cc, .int .i64 (k : Int)] w (LPost w0 w X (.tuple #[.int .u64 0, .int .i64 9]) (dk2 (c + 3) 1 c) (hL c T H)) := by
  have kk := append_any h (hL_ok h4 h9 h0) (by show 480 < _; decide) P cc n p (k : Int) hr hn (by omega) hP (by show T.length < _; omega) (by omega)
  have e0 : apE (hL c T H) n (k : Int) = 9 := by unfold apE; rw [if_neg (by omega), if_neg (by omega), hL_room, if_pos (by omega)]
  have e1 : apR (hL c T H) p (k : Int) = .tuple #[.int .u64 0, .int .i64 9] := by unfold apR; rw [hn, e0, if_neg (by decide)]
  have e2 : apL (hL c T H) p (k : Int) = hL c T H := by unfold apL; rw [hn, e0, if_neg (by decide)]
  rw [e1, e2] at kk
  exact kk
theorem held_spend (h4 : 4 ≤ c) (h9 : c ≤ 9) (h : LgAt w0 w X (dk2 (c + 3) 1 c) (hL c T H)) (P : Option Addr) (cc : Nat) (p : List UInt8) (hn : p.length = n) (hr : Rd w P p) (hP : ∀ a, P = some a → ¬ X.has a.block ∧ a.block < w.heap.size) (h1 : 0 < n) (h2 : n ≤ 1200) (h0 : T.length + H ≤ 480 * c) (hs : 2 + n ≤ H) :
    Calls Tryd.prog 24 #[.pointer (some ⟨X.q, 0, none⟩), .slice P n cc] w (LPost w0 w X (.tuple #[.int .u64 ((480 + T.length : Nat) : Int), .int .i64 0]) (dk2 (c + 3) 1 c) (hL c (mT T p) (H - (2 + n)))) := by
  have kk := spend_any h (hL_ok h4 h9 h0) P cc n p hr hn (by omega) hP (by show T.length < _; omega)
  have e0 : spE (hL c T H) n = 0 := by unfold spE; rw [if_neg (by omega), if_neg (by omega), if_neg (by show ¬ 2 + n > H; omega)]
  have e1 : spR (hL c T H) p = .tuple #[.int .u64 ((480 + T.length : Nat) : Int), .int .i64 0] := by unfold spR; rw [hn, e0, if_pos rfl, hL_end]
  have e2 : spL (hL c T H) p = hL c (mT T p) (H - (2 + n)) := by unfold spL; rw [hn, e0, if_pos rfl, ← hn]; rfl
  rw [e1, e2] at kk
  exact kk
theorem held_spent (h4 : 4 ≤ c) (h9 : c ≤ 9) (h : LgAt w0 w X (dk2 (c + 3) 1 c) (hL c T H)) (P : Option Addr) (cc : Nat) (p : List UInt8) (hn : p.length = n) (hr : Rd w P p) (hP : ∀ a, P = some a → ¬ X.has a.block ∧ a.block < w.heap.size) (h1 : 0 < n) (h2 : n ≤ 1200) (h0 : T.length + H ≤ 480 * c) (hs : ¬ 2 + n ≤ H) :
    Calls Tryd.prog 24 #[.pointer (some ⟨X.q, 0, none⟩), .slice P n cc] w (LPost w0 w X (.tuple #[.int .u64 0, .int .i64 9]) (dk2 (c + 3) 1 c) (hL c T H)) := by
  have kk := spend_any h (hL_ok h4 h9 h0) P cc n p hr hn (by omega) hP (by show T.length < _; omega)
  have e0 : spE (hL c T H) n = 9 := by unfold spE; rw [if_neg (by omega), if_neg (by omega), if_pos (by show 2 + n > H; omega)]
  have e1 : spR (hL c T H) p = .tuple #[.int .u64 0, .int .i64 9] := by unfold spR; rw [hn, e0, if_neg (by decide)]
  have e2 : spL (hL c T H) p = hL c T H := by unfold spL; rw [hn, e0, if_neg (by decide)]
  rw [e1, e2] at kk
  exact kk
/-- A disk whose power is on, and not to go off. -/
def Awk (D : Dk) : Prop := D.off = false ∧ D.arm = 0
theorem awk_write (h : Awk D) (i : Nat) (p : List UInt8) (hi : i < D.dur.length) (hp : p.length = 512) : wE D (i : Int) p = 0 ∧ Awk (wD D (i : Int) p) ∧ (wD D (i : Int) p).dur.length = D.dur.length := by
  obtain ⟨h1, h2⟩ := h
  unfold wE wD
  have ha : ¬ ((i : Int) < 0 ∨ (D.dur.length : Int) ≤ (i : Int)) := by omega
  have hb : ¬ p.length ≠ 512 := by omega
  have hc : ¬ D.off = true := by rw [h1]; decide
  simp only [if_neg ha, if_neg hb, if_neg hc]
  refine ⟨?_, ⟨?_, ?_⟩, rfl⟩
  · show (if D.arm = 1 then (8 : Int) else 0) = 0
    rw [h2]
    rfl
  · show (D.off || decide (D.arm = 1)) = false
    rw [h1, h2]
    rfl
  · show D.arm - 1 = 0
    rw [h2]
theorem awk_sync (h : Awk D) : sE D = 0 := by
  obtain ⟨h1, h2⟩ := h
  unfold sE
  rw [if_neg (by rw [h1]; decide), if_neg (by omega)]
theorem awk_flW (L : Lg) (hc : L.at_ + 1 + L.hd.cn ≤ n) (h0 : 0 < L.hd.cn) : ∀ (f k : Nat) (D : Dk), Awk D → D.dur.length = n → (flW L f k D).1 = 0 ∧ Awk (flW L f k D).2 ∧ (flW L f k D).2.dur.length = n
  | 0, _, D, h, hd => ⟨rfl, h, hd⟩
  | f + 1, k, D, h, hd => by
    unfold flW
    split
    · exact ⟨rfl, h, hd⟩
    · have hlt : secOf L (flA L k) < D.dur.length := by
        have := Nat.mod_lt (flA L k / 480) h0
        unfold secOf
        omega
      have hw := awk_write h (secOf L (flA L k)) (flP L k) hlt (by
        unfold flP partB
        exact sealB_length (by simp [ptNs]) (by rw [List.length_take]; omega))
      have e1 : wE D (flS L k) (flP L k) = 0 := hw.1
      rw [e1, if_neg (by decide)]
      exact awk_flW L hc h0 f (k + 1) _ hw.2.1 (by rw [← hd]; exact hw.2.2)
theorem awk_dk2 {a : Nat} : Awk (dk2 n a c) := ⟨rfl, rfl⟩
/-- A Flush of it is well, and leaves as much room and held. -/
theorem held_flE (h4 : 4 ≤ c) : flE (dk2 (c + 3) 1 c) (hL c T H) = 0 := by
  unfold flE
  split
  · rename_i h
    cases h
  · split
    · rfl
    · have h := awk_flW (n := c + 3) (hL c T H) (by show 1 + 1 + c ≤ _; omega) (by show 0 < c; omega) (hL c T H).tail.length 0 (dk2 (c + 3) 1 c) awk_dk2 dk2_len
      have h1 : (flZ (dk2 (c + 3) 1 c) (hL c T H)).1 = 0 := h.1
      rw [h1, if_neg (by decide)]
      exact awk_sync h.2.1
theorem sD_len (D : Dk) : (sD D).dur.length = D.dur.length := by
  unfold sD
  split
  · rfl
  · split
    · rfl
    · exact durK_len (fun _ => true) D.dur D.pen D.pen.length
theorem held_flD (h4 : 4 ≤ c) : (flD (dk2 (c + 3) 1 c) (hL c T H)).dur.length = c + 3 := by
  have h := awk_flW (n := c + 3) (hL c T H) (by show 1 + 1 + c ≤ _; omega) (by show 0 < c; omega) (hL c T H).tail.length 0 (dk2 (c + 3) 1 c) awk_dk2 dk2_len
  unfold flD
  split
  · exact dk2_len
  · split
    · exact dk2_len
    · split
      · exact h.2.2
      · rw [sD_len]
        exact h.2.2
theorem held_flL (h4 : 4 ≤ c) (hs : T.length + H ≤ 480 * c) : roomOf (flL (dk2 (c + 3) 1 c) (hL c T H)) = roomOf (hL c T H) ∧ (flL (dk2 (c + 3) 1 c) (hL c T H)).held = H ∧ (flL (dk2 (c + 3) 1 c) (hL c T H)).hd = (hL c T H).hd ∧ (flL (dk2 (c + 3) 1 c) (hL c T H)).at_ = 1 ∧ (flL (dk2 (c + 3) 1 c) (hL c T H)).sure ≤ 480 + 480 * c ∧ (flL (dk2 (c + 3) 1 c) (hL c T H)).tail.length ≤ 480 * c := by
  unfold flL
  split
  · refine ⟨?_, rfl, rfl, rfl, ?_, ?_⟩
    · have e : endOf (sureL (hL c T H)) = endOf (hL c T H) := by
        unfold endOf sureL
        simp only [List.length_drop]
        show flo (endOf (hL c T H)) + (T.length - flo T.length) = endOf (hL c T H)
        rw [hL_end]
        unfold flo
        omega
      unfold roomOf
      rw [e]
      rfl
    · show endOf (hL c T H) ≤ _
      rw [hL_end]
      omega
    · show (T.drop (flo T.length)).length ≤ _
      rw [List.length_drop]
      omega
  · exact ⟨rfl, rfl, rfl, rfl, by show 480 ≤ _; omega, by show T.length ≤ _; omega⟩
/-- Flush and what comes behind it. -/
theorem held_flush (h4 : 4 ≤ c) (h9 : c ≤ 9) (h : LgAt w0 w X (dk2 (c + 3) 1 c) (hL c T H)) (hs : T.length + H ≤ 480 * c) (hT : Tab w0) :
    Calls Tryd.prog 12 #[.pointer (some ⟨X.q, 0, none⟩)] w (LPost w0 w X (.int .i64 0) (flD (dk2 (c + 3) 1 c) (hL c T H)) (flL (dk2 (c + 3) 1 c) (hL c T H))) := by
  have k := flush_any h (hL_ok h4 h9 hs) (dk2_bd (by omega) (by omega)) (by show 0 < _; decide) (by show 5 < _; decide) (by show T.length < _; omega) hT
  rw [held_flE h4] at k
  exact k
theorem held_flok (h4 : 4 ≤ c) (h9 : c ≤ 9) (hs : T.length + H ≤ 480 * c) : (flL (dk2 (c + 3) 1 c) (hL c T H)).Ok (flD (dk2 (c + 3) 1 c) (hL c T H)) := by
  obtain ⟨e1, e2, e3, e4, e5, e6⟩ := held_flL (c := c) (T := T) (H := H) h4 hs
  have ok := hL_ok h4 h9 hs
  exact ⟨by rw [e3]; exact ok.hd, by rw [e3]; exact ok.cn, by rw [e3, e4, held_flD h4]; show 1 + 1 + c ≤ _; omega, by omega, by omega, by rw [e2]; omega⟩
theorem held_flroom (h4 : 4 ≤ c) (h9 : c ≤ 9) (hs : T.length + H ≤ 480 * c) (h : LgAt w0 w X (flD (dk2 (c + 3) 1 c) (hL c T H)) (flL (dk2 (c + 3) 1 c) (hL c T H))) :
    Calls Tryd.prog 29 #[.pointer (some ⟨X.q, 0, none⟩)] w (fun e w' => e = .returned (.int .i64 ((480 * c - T.length - H : Nat) : Int)) ∧ ∃ m, w' = w.drewN m) := by
  obtain ⟨e1, e2, e3, e4, e5, e6⟩ := held_flL (c := c) (T := T) (H := H) h4 hs
  have k := room_any h (held_flok h4 h9 hs) (by rw [e3]; show 480 < _; decide)
  rw [e1, hL_room, show ((480 * c : Nat) : Int) - (T.length : Int) - (H : Int) = ((480 * c - T.length - H : Nat) : Int) by omega] at k
  exact k
theorem held_room (h4 : 4 ≤ c) (h9 : c ≤ 9) (hs : T.length + H ≤ 480 * c) (h : LgAt w0 w X (dk2 (c + 3) 1 c) (hL c T H)) :
    Calls Tryd.prog 29 #[.pointer (some ⟨X.q, 0, none⟩)] w (fun e w' => e = .returned (.int .i64 ((480 * c - T.length - H : Nat) : Int)) ∧ ∃ m, w' = w.drewN m) := by
  have k := room_any h (hL_ok h4 h9 hs) (by show 480 < _; decide)
  rw [hL_room, show ((480 * c : Nat) : Int) - (T.length : Int) - (H : Int) = ((480 * c - T.length - H : Nat) : Int) by omega] at k
  exact k
/-- One byte. -/
def mk1 (W : World) : World := W.alloc (.cells #[.int .u8 1] 5)
theorem mk1_run (W : World) : (Instr.buildSlice 33 1 #[(0, .int .u8 1)]).run Tryd.prog W = .ok (.slice (some ⟨W.heap.size, 0, none⟩) 1 1) (mk1 W) := by kernel_rfl
theorem mk1_ext (W : World) : Ext W (mk1 W) := Ext.alloc W _
theorem mk1_rd (W : World) : Rd (mk1 W) (some ⟨W.heap.size, 0, none⟩) [1] := Rd.of_rw (Rw.new W 5 (bs [1]))
theorem mk1_not (h : LgAt w0 w X D L) : ∀ a, some (⟨w.heap.size, 0, none⟩ : Addr) = some a → ¬ X.has a.block ∧ a.block < (mk1 w).heap.size := fun a ha => by
  have := new_not h a ha
  exact ⟨this.1, by unfold mk1; simpa using this.2⟩
end
end Go.Proofs.YtefchglfkgceeaaDoor
namespace Go.Proofs.YtefchglfkgceeaaDoor
open Go.RowKit

def lenAt (q : Nat) (w : World) : Nat := match w.cell? ⟨q, 9, none⟩ with
  | some (.slice _ n _) => n
  | _ => 0
section
variable {w0 w : World} {X : Bk} {D : Dk} {L : Lg}
theorem lenAt_is (h : LgAt w0 w X D L) : lenAt X.q w = L.tail.length := by
  obtain ⟨A, c, htv, -, -⟩ := h.tail.bytes
  have c9 := h.blk.cell (i := 9) rfl
  unfold lenAt
  rw [c9, htv]
set_option maxRecDepth 20000 in
set_option maxHeartbeats 3200000 in
theorem logHeld_walk (cn ho nn : Nat) (h1 : cn < 256) (h2 : ho < 65536) (h3 : nn < 256) (hT : Tab w) :
    Calls Tryd.prog 6 #[.int .u8 (cn : Int), .int .u16 (ho : Int), .int .u8 (nn : Int)] w (Ret w (Is (.bool true))) := by
  have KA := hide (fun (W : World) (hW : Ext w W) => awake_any W (hT.ext hW))
  obtain ⟨c, HC⟩ : ∃ c, Hid (4 + cn % 6 = c) := ⟨_, hide rfl⟩
  obtain ⟨hh, HH⟩ : ∃ hh, Hid (3 + ho % 1000 = hh) := ⟨_, hide rfl⟩
  obtain ⟨sz, HS⟩ : ∃ sz, Hid (1 + nn % 200 = sz) := ⟨_, hide rfl⟩
  have HCB : Hid (4 ≤ c ∧ c ≤ 9) := hide (by have := HC.out; omega)
  have HHB : Hid (3 ≤ hh ∧ hh ≤ 1002) := hide (by have := HH.out; omega)
  have HSB : Hid (1 ≤ sz ∧ sz ≤ 200) := hide (by have := HS.out; omega)
  have KF : Hid (∀ W, Ext w W → Calls Tryd.prog 8 #[.int .i64 (c : Int)] W (FrPost c W)) := hide (fun W hW => fresh_any HCB.out.1 (by have := HCB.out.2; omega) (hT.ext hW))
  have hc1 : (4 : Int) + (cn : Int) % 6 = (c : Int) := by have := HC.out; omega
  have hh1 : (3 : Int) + (ho : Int) % 1000 = (hh : Int) := by have := HH.out; omega
  have hs1 : (1 : Int) + (nn : Int) % 200 = (sz : Int) := by have := HS.out; omega
  have hcw : IntKind.i64.wrap (c : Int) = (c : Int) := by rw [IntKind.wrap_i64]; have := HCB.out; omega
  have hhw : IntKind.i64.wrap (hh : Int) = (hh : Int) := by rw [IntKind.wrap_i64]; have := HHB.out; omega
  have hsw : IntKind.i64.wrap (sz : Int) = (sz : Int) := by rw [IntKind.wrap_i64]; have := HSB.out; omega
  have hn1 : IntKind.i64.wrap (cn : Int) = (cn : Int) := by rw [IntKind.wrap_i64]; omega
  have hn2 : IntKind.i64.wrap (ho : Int) = (ho : Int) := by rw [IntKind.wrap_i64]; omega
  have hn3 : IntKind.i64.wrap (nn : Int) = (nn : Int) := by rw [IntKind.wrap_i64]; omega
  have HM50 : Hid (∀ W : World, (Instr.makeSlice 33 (.int .i64 50) (.int .i64 50)).run Tryd.prog W = .ok (.slice (some ⟨W.heap.size, 0, none⟩) 50 50) (mkW 50 W)) := hide (fun W => mkW_run 50 (by decide) W)
  have HT := hide hT
  have HM1 := hide mk1_run
  clear hT h1 h2 h3
  go_enter Tryd.func6, Tryd.ntmps6
  go_upto_region 8 with (first
    | (go_at_call 7; (with_reducible refine (KA.out w (Ext.refl w)).mono ?_); rintro e w1 ⟨rfl, hx1⟩; have HX1 := hide hx1; clear hx1)
    | (go_at_call 8; (with_reducible refine (KF.out w1 HX1.out).mono ?_); rintro e w2 ⟨X1, rfl, hl1⟩; have HL1 := hide hl1; clear hl1))
  obtain ⟨q, HQ⟩ : ∃ q, Hid (X1.q = q) := ⟨_, hide rfl⟩
  rw [HQ.out]
  rw [hL_new] at HL1
  clear hc1 hh1 hcw hhw hn1 hn2
  go_loopw [10] (fun x wr => ∃ (k H : Nat) (T : List UInt8) (X : Bk), x = .int .i64 (k : Int) ∧ Hid (X.q = q) ∧ Hid (LgAt w1 wr X (dk2 (c + 3) 1 c) (hL c T H)) ∧ Hid (T.length + H ≤ 480 * c) ∧ Hid (52 * k ≤ T.length) ∧ Hid (H = 0 ∨ 0 < k)) (fun x _ => 100 - (intOf x).toNat)
  case atStart => exact ⟨0, 0, [], X1, rfl, HQ, HL1, hide (by show 0 + 0 ≤ _; omega), hide (by show 52 * 0 ≤ 0; omega), hide (.inl rfl)⟩
  case round =>
    obtain ⟨k, H, T, X2, rfl, HQ2, HL2, HS2, HK2, HH2⟩ := hrel
    have HKB : Hid (k ≤ 90) := hide (by have h1 := HK2.out; have h2 := HS2.out; have h3 := HCB.out.2; omega)
    have HL2b : Hid (LgAt w1 (mkW 50 wr) X2 (dk2 (c + 3) 1 c) (hL c T H)) := hide (HL2.out.ext_ (mkW_ext 50 wr))
    have hkw : IntKind.i64.wrap ((k : Int) + 1) = ((k + 1 : Nat) : Int) := by rw [IntKind.wrap_i64]; have := HKB.out; omega
    by_cases hfit : T.length + H + 2 + 50 + hh ≤ 480 * c
    · have KAP := hide (held_app HCB.out.1 HCB.out.2 HL2b.out (some ⟨wr.heap.size, 0, none⟩) 50 (List.replicate 50 0) (n := 50) (List.length_replicate ..) hh (mkW_rd 50 wr) (mkW_not HL2.out 50) (by decide) (by decide) hfit)
      rw [HQ2.out] at KAP
      have HFIT := hide hfit
      obtain ⟨v0, HV0⟩ : ∃ v0 : Int, Hid (((480 + T.length : Nat) : Int) = v0) := ⟨_, hide rfl⟩
      rw [HV0.out] at KAP
      have HMS : Hid (100 - (k + 1) < 100 - k) := hide (by have := HKB.out; omega)
      obtain ⟨k1, HK1⟩ : ∃ k1, Hid (k + 1 = k1) := ⟨_, hide rfl⟩
      rw [HK1.out] at hkw
      clear hfit
      go_wp2_with (first
        | ((with_reducible show wpList _ _ _ (⟨some 39, _, _, _, _, _⟩ :: _) _ _); refine wpList_gives (gives_make rfl rfl rfl (HM50.out _) ⟨rfl, rfl⟩) rfl ?_)
        | (go_at_call 23; (with_reducible refine KAP.out.mono ?_); rintro e w3 ⟨X3, rfl, hl3, hf3, hn3⟩; have HL3 := hide hl3; have HQ3 : Hid (X3.q = q) := hide (hn3.q.trans HQ2.out); clear hl3 hf3 hn3))
      refine ⟨⟨k1, H + hh, mT T (List.replicate 50 0), X3, rfl, HQ3, HL3, hide ?_, hide ?_, hide (.inr (by have := HK1.out; omega))⟩, ?_⟩
      · rw [mT_len, List.length_replicate]
        have := HFIT.out
        omega
      · rw [mT_len, List.length_replicate]
        have := HK2.out
        have := HK1.out
        omega
      · show 100 - ((k1 : Int)).toNat < 100 - ((k : Int)).toNat
        have h1 := HMS.out
        rw [HK1.out] at h1
        omega
    · have KAP := hide (held_full HCB.out.1 HCB.out.2 HL2b.out (some ⟨wr.heap.size, 0, none⟩) 50 (List.replicate 50 0) (n := 50) (List.length_replicate ..) hh (mkW_rd 50 wr) (mkW_not HL2.out 50) (by decide) (by decide) (by have := HHB.out; omega) HS2.out hfit)
      rw [HQ2.out] at KAP
      clear hfit hkw
      go_upto_region 13 with (first
        | ((with_reducible show wpList _ _ _ (⟨some 39, _, _, _, _, _⟩ :: _) _ _); refine wpList_gives (gives_make rfl rfl rfl (HM50.out _) ⟨rfl, rfl⟩) rfl ?_)
        | (go_at_call 23; (with_reducible refine KAP.out.mono ?_); rintro e w3 ⟨X3, rfl, hl3, hf3, hn3⟩; have HL3 := hide hl3; have HQ3 : Hid (X3.q = q) := hide (hn3.q.trans HQ2.out); clear hl3 hf3 hn3))
      clear KAP HL2b HL2 HQ2 HK2
      have HW13 : Hid (Ext w3 w3) := hide (Ext.refl _)
      clear HM50 KA KF
      go_loopw [] (fun wr => ∃ (T : List UInt8) (X : Bk), Hid (X.q = q) ∧ Hid (LgAt w1 wr X (dk2 (c + 3) 1 c) (hL c T H)) ∧ Hid (T.length + H ≤ 480 * c)) (fun wr => 5000 - lenAt q wr)
      case atStart => exact ⟨T, X3, HQ3, HL3, HS2⟩
      case round =>
        obtain ⟨T2, X4, HQ4, HL4, HS4⟩ := hrel
        clear HL3 HQ3 HS2 HW13
        have KRM := hide (held_room HCB.out.1 HCB.out.2 HS4.out HL4.out)
        rw [HQ4.out] at KRM
        obtain ⟨rm, HRM⟩ : ∃ rm, Hid (480 * c - T2.length - H = rm) := ⟨_, hide rfl⟩
        rw [HRM.out] at KRM
        by_cases hrm : 3 ≤ rm
        · have hri : (3 : Int) ≤ (rm : Int) := by omega
          have HFIT : Hid (T2.length + H + 2 + 1 + 0 ≤ 480 * c) := hide (by have := HRM.out; have := HS4.out; omega)
          have KAP : Hid (∀ W, LgAt w1 W X4 (dk2 (c + 3) 1 c) (hL c T2 H) → Calls Tryd.prog 23 #[.pointer (some ⟨q, 0, none⟩), .slice (some ⟨W.heap.size, 0, none⟩) 1 1, .int .i64 0] (mk1 W) (LPost w1 (mk1 W) X4 (.tuple #[.int .u64 ((480 + T2.length : Nat) : Int), .int .i64 0]) (dk2 (c + 3) 1 c) (hL c (mT T2 [1]) H))) := hide (fun W hW => by
            have k1 := held_app HCB.out.1 HCB.out.2 (hW.ext_ (mk1_ext _)) (some ⟨W.heap.size, 0, none⟩) 1 [1] (n := 1) rfl 0 (mk1_rd _) (mk1_not hW) (by decide) (by decide) HFIT.out
            rw [HQ4.out] at k1
            exact k1)
          obtain ⟨v0, HV0⟩ : ∃ v0 : Int, Hid (((480 + T2.length : Nat) : Int) = v0) := ⟨_, hide rfl⟩
          rw [HV0.out] at KAP
          clear hrm
          go_wp2_with (first
            | (go_at_call 29; (with_reducible refine KRM.out.mono ?_); rintro e w4 ⟨rfl, m4, hw4⟩; have HLR : Hid (LgAt w1 w4 X4 (dk2 (c + 3) 1 c) (hL c T2 H)) := hide (by rw [hw4]; exact HL4.out.ext_ ((Ext.refl _).drewN m4)); clear hw4)
            | ((with_reducible show wpList _ _ _ (⟨some 55, _, _, _, _, _⟩ :: _) _ _); refine wpList_gives (gives_buildSlice rfl [(0, .int .u8 1)] rfl (HM1.out _) ⟨rfl, rfl⟩) rfl ?_)
            | (go_at_call 23; (with_reducible refine (KAP.out w4 HLR.out).mono ?_); rintro e w5 ⟨X5, rfl, hl5, hf5, hn5⟩; have HL5 := hide hl5; have HQ5 : Hid (X5.q = q) := hide (hn5.q.trans HQ4.out); clear hl5 hf5 hn5))
          refine ⟨⟨mT T2 [1], X5, HQ5, HL5, hide ?_⟩, ?_⟩
          · rw [mT_len]
            have := HFIT.out
            show T2.length + 2 + 1 + H ≤ _
            omega
          · have e1 := lenAt_is HL5.out
            have e2 := lenAt_is HL4.out
            rw [HQ5.out] at e1
            rw [HQ4.out] at e2
            show 5000 - lenAt q w5 < 5000 - lenAt q wr
            rw [e1, e2]
            show 5000 - (mT T2 [1]).length < 5000 - T2.length
            rw [mT_len]
            have h1 := HFIT.out
            have h2 := HCB.out.2
            show 5000 - (T2.length + 2 + 1) < _
            omega
        · have hri : ¬ (3 : Int) ≤ (rm : Int) := by omega
          have HMS : Hid (∀ W : World, (Instr.makeSlice 33 (.int .i64 (sz : Int)) (.int .i64 (sz : Int))).run Tryd.prog W = .ok (.slice (some ⟨W.heap.size, 0, none⟩) sz sz) (mkW sz W)) := hide (fun W => mkW_run sz (by have := HSB.out; omega) W)
          clear hrm HM1
          go_upto_region 18 with (first
            | (go_at_call 29; (with_reducible refine KRM.out.mono ?_); rintro e w4 ⟨rfl, m4, rfl⟩))
          have HL5 : Hid (LgAt w1 (wr.drewN m4) X4 (dk2 (c + 3) 1 c) (hL c T2 H)) := hide (HL4.out.ext_ ((Ext.refl _).drewN m4))
          obtain ⟨w5, hw5⟩ : ∃ w5, wr.drewN m4 = w5 := ⟨_, rfl⟩
          rw [hw5] at HL5 ⊢
          clear hw5 KRM HL4 HRM hri hs1 hsw hn3
          have HH0 : Hid (H = 0 ∨ 0 < k) := HH2
          go_loopw [] (fun wr => ∃ (T : List UInt8) (H : Nat) (X : Bk), Hid (X.q = q) ∧ Hid (LgAt w1 wr X (dk2 (c + 3) 1 c) (hL c T H)) ∧ Hid (T.length + H ≤ 480 * c) ∧ Hid (H = 0 ∨ 0 < k)) (fun wr => 5000 - lenAt q wr)
          case atStart => exact ⟨T2, H, X4, HQ4, HL5, HS4, HH2⟩
          case round =>
            obtain ⟨T5, H5, X5, HQ5, HL6, HS6, HH6⟩ := hrel
            clear HL5 HQ4 HS4 HH0 HH2
            have HHB5 : Hid (H5 ≤ 4320 ∧ T5.length ≤ 4320) := hide (by have h1 := HS6.out; have h2 := HCB.out.2; omega)
            have KHD := hide (held_any HL6.out)
            rw [HQ5.out] at KHD
            have KHD : Hid (Calls Tryd.prog 30 #[.pointer (some ⟨q, 0, none⟩)] wr (Same wr (.int .i64 (H5 : Int)))) := KHD
            have hz2 : IntKind.i64.wrap ((sz : Int) + 2) = (sz : Int) + 2 := by rw [IntKind.wrap_i64]; have := HSB.out; omega
            have HLM : Hid (LgAt w1 (mkW sz wr) X5 (dk2 (c + 3) 1 c) (hL c T5 H5)) := hide (HL6.out.ext_ (mkW_ext sz wr))
            by_cases hge : 2 + sz ≤ H5
            · have hgi : (sz : Int) + 2 ≤ (H5 : Int) := by omega
              have KSP := hide (held_spend HCB.out.1 HCB.out.2 HLM.out (some ⟨wr.heap.size, 0, none⟩) sz (List.replicate sz 0) (n := sz) (List.length_replicate ..) (mkW_rd sz wr) (mkW_not HL6.out sz) (by have := HSB.out; omega) (by have := HSB.out; omega) HS6.out hge)
              rw [HQ5.out] at KSP
              obtain ⟨H7, HH7⟩ : ∃ H7, Hid (H5 - (2 + sz) = H7) := ⟨_, hide rfl⟩
              rw [HH7.out] at KSP
              obtain ⟨v0, HV0⟩ : ∃ v0 : Int, Hid (((480 + T5.length : Nat) : Int) = v0) := ⟨_, hide rfl⟩
              rw [HV0.out] at KSP
              obtain ⟨y0, HY0⟩ : ∃ y0 : Int, Hid ((H5 : Int) - (sz : Int) = y0) := ⟨_, hide rfl⟩
              have hy1 : IntKind.i64.wrap ((H5 : Int) - (sz : Int)) = y0 := by rw [IntKind.wrap_i64]; have := HY0.out; have := HHB5.out; have := HSB.out; omega
              have hy2 : IntKind.i64.wrap (y0 - 2) = (H7 : Int) := by rw [IntKind.wrap_i64]; have := HY0.out; have := HH7.out; have := HHB5.out; have := HSB.out; omega
              have HGE := hide hge
              clear hge
              go_wp2_with (first
                | (go_at_call 30; (with_reducible refine KHD.out.mono ?_); rintro e w6 ⟨rfl, hw6⟩; have hw6 := hw6.symm; subst hw6)
                | ((with_reducible show wpList _ _ _ (⟨some 75, _, _, _, _, _⟩ :: _) _ _); refine wpList_gives (gives_make rfl rfl rfl (HMS.out _) ⟨rfl, rfl⟩) rfl ?_)
                | (go_at_call 24; (with_reducible refine KSP.out.mono ?_); rintro e w7 ⟨X7, rfl, hl7, hf7, hn7⟩; have HL7 := hide hl7; have HQ7 : Hid (X7.q = q) := hide (hn7.q.trans HQ5.out); have KH7 : Hid (Calls Tryd.prog 30 #[.pointer (some ⟨X7.q, 0, none⟩)] w7 (Same w7 (.int .i64 (H7 : Int)))) := hide (held_any hl7); rw [HQ7.out] at KH7; clear hl7 hf7 hn7)
                | (go_at_call 30; (with_reducible refine KH7.out.mono ?_); rintro e w8 ⟨rfl, hw8⟩; have hw8 := hw8.symm; subst hw8))
              refine ⟨⟨mT T5 (List.replicate sz 0), H7, X7, HQ7, HL7, hide ?_, hide ?_⟩, ?_⟩
              · rw [mT_len, List.length_replicate]
                have h1 := HS6.out
                have h2 := HH7.out
                have h3 := HGE.out
                omega
              · rcases HH6.out with h1 | h1
                · have h2 := HH7.out
                  have h3 := HGE.out
                  exact .inl (by omega)
                · exact .inr h1
              · have e1 := lenAt_is HL7.out
                have e2 := lenAt_is HL6.out
                rw [HQ7.out] at e1
                rw [HQ5.out] at e2
                rw [e1, e2]
                show 5000 - (mT T5 (List.replicate sz 0)).length < 5000 - T5.length
                rw [mT_len]
                have h1 := HHB5.out.2
                have h2 := HSB.out
                omega
            · have hgi : ¬ (sz : Int) + 2 ≤ (H5 : Int) := by omega
              have KSP := hide (held_spent HCB.out.1 HCB.out.2 HLM.out (some ⟨wr.heap.size, 0, none⟩) sz (List.replicate sz 0) (n := sz) (List.length_replicate ..) (mkW_rd sz wr) (mkW_not HL6.out sz) (by have := HSB.out; omega) (by have := HSB.out; omega) HS6.out hge)
              rw [HQ5.out] at KSP
              have KFL : Hid (∀ W X, LgAt w1 W X (dk2 (c + 3) 1 c) (hL c T5 H5) → X.q = q → Calls Tryd.prog 12 #[.pointer (some ⟨q, 0, none⟩)] W (LPost w1 W X (.int .i64 0) (flD (dk2 (c + 3) 1 c) (hL c T5 H5)) (flL (dk2 (c + 3) 1 c) (hL c T5 H5)))) := hide (fun W X hW hX => by
                have k1 := held_flush HCB.out.1 HCB.out.2 hW HS6.out (HT.out.ext HX1.out)
                rw [hX] at k1
                exact k1)
              have KRM : Hid (∀ W X, LgAt w1 W X (flD (dk2 (c + 3) 1 c) (hL c T5 H5)) (flL (dk2 (c + 3) 1 c) (hL c T5 H5)) → X.q = q → Calls Tryd.prog 29 #[.pointer (some ⟨q, 0, none⟩)] W (fun e w' => e = .returned (.int .i64 ((480 * c - T5.length - H5 : Nat) : Int)) ∧ ∃ m, w' = W.drewN m)) := hide (fun W X hW hX => by
                have k1 := held_flroom HCB.out.1 HCB.out.2 HS6.out hW
                rw [hX] at k1
                exact k1)
              obtain ⟨rm, HRM⟩ : ∃ rm, Hid (480 * c - T5.length - H5 = rm) := ⟨_, hide rfl⟩
              rw [HRM.out] at KRM
              have KH8 : Hid (∀ W X, LgAt w1 W X (flD (dk2 (c + 3) 1 c) (hL c T5 H5)) (flL (dk2 (c + 3) 1 c) (hL c T5 H5)) → X.q = q → Calls Tryd.prog 30 #[.pointer (some ⟨q, 0, none⟩)] W (Same W (.int .i64 (H5 : Int)))) := hide (fun W X hW hX => by
                have k1 := held_any hW
                rw [hX, (held_flL (c := c) (T := T5) (H := H5) HCB.out.1 HS6.out).2.1] at k1
                exact k1)
              obtain ⟨D9, HD9⟩ : ∃ D9, Hid (flD (dk2 (c + 3) 1 c) (hL c T5 H5) = D9) := ⟨_, hide rfl⟩
              obtain ⟨L9, HL9⟩ : ∃ L9, Hid (flL (dk2 (c + 3) 1 c) (hL c T5 H5) = L9) := ⟨_, hide rfl⟩
              rw [HD9.out, HL9.out] at KFL KRM KH8
              have HHK := HH6
              clear hge
              rcases Nat.eq_zero_or_pos k with hk0 | hk0
              · have hH5 : H5 = 0 := by rcases HHK.out with h1 | h1; exact h1; omega
                subst hH5
                subst hk0
                go_wp2_with (first
                  | (go_at_call 30; (with_reducible refine KHD.out.mono ?_); rintro e w6 ⟨rfl, hw6⟩; have hw6 := hw6.symm; subst hw6)
                  | ((with_reducible show wpList _ _ _ (⟨some 93, _, _, _, _, _⟩ :: _) _ _); refine wpList_gives (gives_make rfl rfl rfl (HMS.out _) ⟨rfl, rfl⟩) rfl ?_)
                  | (go_at_call 24; (with_reducible refine KSP.out.mono ?_); rintro e w7 ⟨X7, rfl, hl7, hf7, hn7⟩; have HL7 := hide hl7; have HQ7 : Hid (X7.q = q) := hide (hn7.q.trans HQ5.out); clear hl7 hf7 hn7)
                  | (go_at_call 12; (with_reducible refine (KFL.out w7 X7 HL7.out HQ7.out).mono ?_); rintro e w8 ⟨X8, rfl, hl8, hf8, hn8⟩; have HL8 := hide hl8; have HQ8 : Hid (X8.q = q) := hide (hn8.q.trans HQ7.out); clear hl8 hf8 hn8)
                  | (go_at_call 29; (with_reducible refine (KRM.out w8 X8 HL8.out HQ8.out).mono ?_); rintro e w9 ⟨rfl, m9, hw9⟩; have HL9 : Hid (LgAt w1 w9 X8 D9 L9) := hide (by rw [hw9]; exact HL8.out.ext_ ((Ext.refl _).drewN m9)); clear hw9)
                  | (go_at_call 30; (with_reducible refine (KH8.out w9 X8 HL9.out HQ8.out).mono ?_); rintro e w10 ⟨rfl, hw10⟩; have hw10 := hw10.symm; subst hw10))
                go_ret
                exact Ret.mk (HX1.out.trans HL9.out.ext) rfl
              · have hki : (0 : Int) < (k : Int) := by omega
                go_wp2_with (first
                  | (go_at_call 30; (with_reducible refine KHD.out.mono ?_); rintro e w6 ⟨rfl, hw6⟩; have hw6 := hw6.symm; subst hw6)
                  | ((with_reducible show wpList _ _ _ (⟨some 93, _, _, _, _, _⟩ :: _) _ _); refine wpList_gives (gives_make rfl rfl rfl (HMS.out _) ⟨rfl, rfl⟩) rfl ?_)
                  | (go_at_call 24; (with_reducible refine KSP.out.mono ?_); rintro e w7 ⟨X7, rfl, hl7, hf7, hn7⟩; have HL7 := hide hl7; have HQ7 : Hid (X7.q = q) := hide (hn7.q.trans HQ5.out); clear hl7 hf7 hn7)
                  | (go_at_call 12; (with_reducible refine (KFL.out w7 X7 HL7.out HQ7.out).mono ?_); rintro e w8 ⟨X8, rfl, hl8, hf8, hn8⟩; have HL8 := hide hl8; have HQ8 : Hid (X8.q = q) := hide (hn8.q.trans HQ7.out); clear hl8 hf8 hn8)
                  | (go_at_call 29; (with_reducible refine (KRM.out w8 X8 HL8.out HQ8.out).mono ?_); rintro e w9 ⟨rfl, m9, hw9⟩; have HL9 : Hid (LgAt w1 w9 X8 D9 L9) := hide (by rw [hw9]; exact HL8.out.ext_ ((Ext.refl _).drewN m9)); clear hw9))
                go_ret
                exact Ret.mk (HX1.out.trans HL9.out.ext) rfl
theorem held_int (a b d : Int) (hT : Tab w) (h1 : 0 ≤ a ∧ a ≤ 255) (h2 : 0 ≤ b ∧ b ≤ 65535) (h3 : 0 ≤ d ∧ d ≤ 255) :
    Calls Tryd.prog 6 #[.int .u8 a, .int .u16 b, .int .u8 d] w (Ret w (Is (.bool true))) := by
  obtain ⟨x, rfl⟩ : ∃ x : Nat, a = (x : Int) := ⟨a.toNat, by omega⟩
  obtain ⟨y, rfl⟩ : ∃ y : Nat, b = (y : Int) := ⟨b.toNat, by omega⟩
  obtain ⟨z, rfl⟩ : ∃ z : Nat, d = (z : Int) := ⟨d.toNat, by omega⟩
  exact logHeld_walk x y z (by omega) (by omega) (by omega) hT
end
end Go.Proofs.YtefchglfkgceeaaDoor
