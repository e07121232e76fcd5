/-
  The walk of LogErrs where there can be a log.
  The walk of LogErrs, for every input.
  LogErrs: for every three numbers and every bytes, of any size that the form reaches, the law answers true and leaves the bytes as they were; octet.halfBytes holds what the program's text lays.
  LogHeld: for every three numbers that the form reaches, the law answers true; octet.halfBytes holds what the program's text lays.
  The walk of LogRings, for every input.
  An argument that is a slice of numbers of two bytes.
  LogRings: for every two numbers and every list of numbers, of any length that the form reaches, the law answers true and leaves the list as it was; octet.halfBytes holds what the program's text lays.
-/
import Derived.Test.YtdifpbicdicggaaDoorPkLgAl0
import Derived.Test.YtdifpbicdicggaaDoorPkLgAl8
import Derived.Test.YtdifpbicdicggaaDoorPkLgAl9
import Derived.Test.YtdifpbicdicggaaDoorPkLgAl10
set_option linter.unusedVariables false
set_option linter.unusedSimpArgs false

namespace Go.Proofs.YtdifpbicdicggaaDoor
open Go.RowKit

/-- The disk with noughts on the way to the log's first sector. -/
def dk3 (n a c : Nat) : Dk := ⟨(((zS n).set a (b1S c)).set a (b2S c)).set (a + 2) bpS, [(a, List.replicate 512 0)], 6, 0, false⟩
section
variable {w0 w : World} {X : Bk} {D : Dk} {L : Lg} {n a c : Nat}
theorem dk3_len : (dk3 n a c).dur.length = n := dk2_len (n := n) (a := a) (c := c)
theorem dk3_bd (h1 : 1 ≤ n) (h2 : n ≤ 4096) (ha : a < n) : Bd (dk3 n a c) := by
  have b := dk2_bd (n := n) (a := a) (c := c) h1 h2
  refine ⟨⟨b.ok.pos, b.ok.max, b.ok.dur, fun x hx => ?_⟩, by show (1 : Nat) < _; decide, by show 6 < 1000000; decide, by show (0 : Nat) < _; decide⟩
  have hx : x ∈ [(a, List.replicate 512 (0 : UInt8))] := hx
  rw [List.mem_singleton.1 hx]
  exact ⟨by rw [dk3_len]; exact ha, List.length_replicate ..⟩
theorem dk3_write (ha : a < n) : wE (dk2 n a c) (a : Int) (List.replicate 512 0) = 0 ∧ wD (dk2 n a c) (a : Int) (List.replicate 512 0) = dk3 n a c :=
  ⟨wE_still (by have := dk2_len (n := n) (a := a) (c := c); unfold dk2 at this; rw [this]; exact ha) (List.length_replicate ..), wD_still (by have := dk2_len (n := n) (a := a) (c := c); unfold dk2 at this; rw [this]; exact ha) (List.length_replicate ..)⟩
theorem dk3_head (ha : a < n) : rhE (dk3 n a c) (a : Int) = unsE 1 (List.replicate 512 0) := by
  have hl := dk3_len (n := n) (a := a) (c := c)
  have hoff : (dk3 n a c).off = false := rfl
  have hg : gE (dk3 n a c) (a : Int) = 0 := by
    unfold gE
    rw [hl, if_neg (by omega), hoff, if_neg (by decide)]
  have hp : lastP (dk3 n a c).pen a = 1 := by
    show lastP ([] ++ [(a, List.replicate 512 (0 : UInt8))]) a = 1
    rw [lastP_snoc, if_pos rfl]
    rfl
  have hat : (dk3 n a c).at a = List.replicate 512 0 := by
    unfold Dk.at
    rw [hp, if_neg (by decide)]
    rfl
  have hb : gB (dk3 n a c) (a : Int) = List.replicate 512 0 := by
    unfold gB
    rw [hl, if_neg (by omega), hoff, if_neg (by decide), Int.toNat_natCast, hat]
  unfold rhE
  rw [hg, hb, if_neg (by decide)]
/-- What the calls leave where there can be a log. -/
theorem yes_log (h1 : 1 ≤ n) (h2 : n ≤ 4000) (h4 : 4 ≤ c) (hf : a + 1 + c ≤ n) (hT : Tab w) :
    Hid (∀ w1 w2 g gd gn, Ext w w1 → Ext w1 w2 → DiskAt w1.heap.size w2 g gd gn none 0 (D0 n) → Calls Tryd.prog 20 #[.pointer (some ⟨g, 0, none⟩), .int .i64 (a : Int), .int .i64 (c : Int)] w2 (DPost w1.heap.size g gd gn w2 none (.int .i64 0) (dk1 n a c))) ∧
    Hid (∀ w1 w2 g gd gn A cc, Ext w w1 → Ext w1 w2 → DiskAt w1.heap.size w2 g gd gn A cc (dk1 n a c) → Calls Tryd.prog 17 #[.pointer (some ⟨g, 0, none⟩), .int .i64 (a : Int), .int .i64 (c : Int)] w2 (fun e w' => ∃ X', e = .returned (.tuple #[.pointer (some ⟨X'.q, 0, none⟩), .int .i64 0]) ∧ LgAt w1 w' X' (dk2 n a c) (lgN a c) ∧ X'.g = g)) ∧
    Hid (∀ w1 w2 X B cc, Ext w w1 → LgAt w1 w2 X (dk2 n a c) (lgN a c) → Rd w2 B (List.replicate 512 0) → Calls Tryd.prog 21 #[.pointer (some ⟨X.g, 0, none⟩), .int .i64 (a : Int), .slice B 512 cc] w2 (LPost w1 w2 X (.int .i64 0) (dk3 n a c) (lgN a c))) ∧
    Hid (∀ w1 w2 X, Ext w w1 → LgAt w1 w2 X (dk3 n a c) (lgN a c) → Calls Tryd.prog 17 #[.pointer (some ⟨X.g, 0, none⟩), .int .i64 (a : Int), .int .i64 (c : Int)] w2 (LPost w1 w2 X (.tuple #[.pointer none, .int .i64 (unsE 1 (List.replicate 512 0))]) (dk3 n a c) (lgN a c))) := by
  refine ⟨hide fun w1 w2 g gd gn hx hx2 hd => ?_, hide fun w1 w2 g gd gn A cc hx hx2 hd => ?_, hide fun w1 w2 X B cc hx hl hr => ?_, hide fun w1 w2 X hx hl => ?_⟩
  · obtain ⟨e1, e2⟩ := format_new (n := n) (a := a) (c := c) h4 hf
    have k := format_any hx2 hd (D0_bd h1 (by omega)) (by show (0 : Nat) < _; decide) (by show (0 : Nat) < _; decide) (hT.ext hx) (a : Int) (c : Int) (by omega) (by omega)
    rw [e1, e2] at k
    exact k
  · obtain ⟨e1, e2, e3⟩ := open_new (n := n) (a := a) (c := c) h4 (by omega) hf
    obtain ⟨-, e5⟩ := head_new (n := n) (a := a) (c := c) (by omega) hf
    have k := open_any hx2 hd (dk1_bd h1 (by omega)) (by show (0 : Nat) < _; decide) (by show 2 < 800000; decide) (hT.ext hx) (a : Int) (c : Int) (by omega) (by omega) (by rw [e5]; show 480 < 576460752303423488; decide) (by rw [e5]; show 480 < 1152921504606846976; decide)
    rw [e1, e2, e3] at k
    exact k.mono fun e w' hp => by
      obtain ⟨X', he, hl, hg, -⟩ := hp.1 rfl
      exact ⟨X', he, hl, hg⟩
  · obtain ⟨e1, e2⟩ := dk3_write (n := n) (a := a) (c := c) (by omega)
    have k := write_uni (d := cc) hl.disk (dk2_bd h1 (by omega)) hl.ext.size (a : Int) (List.replicate 512 0) 512 (List.length_replicate ..) (by decide) hr
    rw [e1, e2] at k
    exact k.mono fun e w' hp => LPost.of_disk hl hp
  · have hh := dk3_head (n := n) (a := a) (c := c) (by omega)
    have hne : rhE (dk3 n a c) (a : Int) ≠ 0 := by rw [hh]; exact unsE_zero 1 (by decide)
    have hH : rhH (dk3 n a c) (a : Int) = hd0 := by unfold rhH; rw [if_neg hne]
    have hfe : fitsE (dk3 n a c).dur.length (a : Int) (c : Int) = 0 := by rw [dk3_len]; exact fits_yes h4 hf
    have k := open_any hl.ext hl.disk (dk3_bd h1 (by omega) (by omega)) (by show (1 : Nat) < 800000; decide) (by show 6 < 800000; decide) (hT.ext hx) (a : Int) (c : Int) (by omega) (by omega) (by rw [hH]; decide) (by rw [hH]; decide)
    rw [show opE (dk3 n a c) (a : Int) (c : Int) = unsE 1 (List.replicate 512 0) by unfold opE; rw [hfe, if_neg (by decide), if_pos hne, hh], show opD (dk3 n a c) (a : Int) (c : Int) = dk3 n a c by unfold opD; rw [hfe, if_neg (by decide), if_pos hne]] at k
    exact k.mono fun e w' hp => LPost.of_disk hl (hp.2 (unsE_zero 1 (by decide)))
set_option maxRecDepth 20000 in
set_option maxHeartbeats 3200000 in
theorem errs_yes (hn1 : 1 ≤ n) (hn2 : n ≤ 100) (h4 : 4 ≤ c) (hf : a + 1 + c ≤ n) (P : Option Addr) (np cp : Nat) (hT : Tab w) :
    Calls Tryd.prog 4 #[.int .i64 (n : Int), .int .i64 (a : Int), .int .i64 (c : Int), .slice P np cp] w (Ret w (Is (.bool true))) := by
  obtain ⟨KF, KO, KW, KO2⟩ := yes_log (w := w) (n := n) (a := a) (c := c) hn1 (by omega) h4 hf hT
  have KA := hide (fun (W : World) (hW : Ext w W) => awake_any W (hT.ext hW))
  have KN := hide (fun (W : World) => new_any n hn1 (by omega) W)
  have KM := hide make_512
  have KRL : Hid (∀ w1 W X, LgAt w1 W X (dk3 n a c) (lgN a c) → Calls Tryd.prog 22 #[.pointer (some ⟨X.q, 0, none⟩), .int .i64 1] W (Same W (.int .i64 1))) := hide (fun w1 W X hl => release_bad hl 1 (by show ((0 : Nat) : Int) < 1; decide))
  have hni1 : ¬ (n : Int) < 1 := by omega
  have hni2 : ¬ (100 : Int) < (n : Int) := by omega
  have ha : ¬ (a : Int) < 0 := by omega
  have hb : ¬ (c : Int) < 4 := by omega
  have hc : ¬ (4096 : Int) < (c : Int) := by omega
  have hw1 : IntKind.i64.wrap ((n : Int) - 1) = (n : Int) - 1 := by rw [IntKind.wrap_i64]; omega
  have hw2 : IntKind.i64.wrap ((n : Int) - 1 - (c : Int)) = (n : Int) - 1 - (c : Int) := by rw [IntKind.wrap_i64]; omega
  have hd : ¬ (n : Int) - 1 - (c : Int) < (a : Int) := by omega
  obtain ⟨z5, HZ5⟩ : ∃ z5, Hid (unsE 1 (List.replicate 512 0) = z5) := ⟨_, hide rfl⟩
  have hz5 : z5 = 3 ∨ z5 = 15 := by rw [← HZ5.out]; exact unsE_zero2
  rw [HZ5.out] at KO2
  obtain ⟨zb, HZB⟩ : ∃ zb, Hid (bs (List.replicate 512 0) = zb) := ⟨_, hide rfl⟩
  have KM2 : Hid (∀ W : World, (Instr.makeSlice 33 (.int .i64 512) (.int .i64 512)).run Tryd.prog W = .ok (.slice (some ⟨W.heap.size, 0, none⟩) 512 512) (W.alloc (.cells zb.toArray 5))) := hide (fun W => by have k := KM.out W; rw [HZB.out] at k; exact k)
  have KRD : Hid (∀ W : World, Rd (W.alloc (.cells zb.toArray 5)) (some ⟨W.heap.size, 0, none⟩) (List.replicate 512 0)) := hide (fun W => by rw [← HZB.out]; exact Rd.of_rw (Rw.new W 5 (bs (List.replicate 512 0))))
  obtain ⟨x, HX⟩ : ∃ x : Int, Hid ((a : Int) = x) := ⟨_, hide rfl⟩
  obtain ⟨y, HY⟩ : ∃ y : Int, Hid ((c : Int) = y) := ⟨_, hide rfl⟩
  rw [HX.out] at KF KO KW KO2 ha hd ⊢
  rw [HY.out] at KF KO KO2 hb hc hw2 hd ⊢
  have hnone : (decide (x < 0) || decide (y < 4) || decide (4096 < y) || decide ((n : Int) - 1 - y < x)) = false := by rw [decide_eq_false ha, decide_eq_false hb, decide_eq_false hc, decide_eq_false hd]; rfl
  clear hn1 hn2 h4 hf hT KM
  rcases hz5 with rfl | rfl
  all_goals
    go_enter Tryd.func4, Tryd.ntmps4
    go_upto_region 10 with (first
      | (go_at_call 7; (with_reducible refine (KA.out w (Ext.refl w)).mono ?_); rintro e w1 ⟨rfl, hx1⟩; have HX1 := hide hx1; clear hx1)
      | (go_at_call 19; (with_reducible refine (KN.out w1).mono ?_); rintro e w2 ⟨g, gd, gn, rfl, hd2, hx2⟩; have HD2 := hide hd2; have HX2 : Hid (Ext w1 w2) := hide hx2; clear hd2 hx2)
      | (go_at_call 20; (with_reducible refine (KF.out w1 w2 g gd gn HX1.out HX2.out HD2.out).mono ?_); rintro e w3 ⟨A3, c3, rfl, hd3, hf3, hn3⟩; have HD3 := hide hd3; have HX3 : Hid (Ext w1 w3) := hide (Dfr.grown HX2.out HD2.out hf3); clear hd3 hf3 hn3)
      | (go_at_call 17; (with_reducible refine (KO.out w1 w3 g gd gn A3 c3 HX1.out HX3.out HD3.out).mono ?_); rintro e w4 ⟨X4, rfl, hl4, hg4⟩; have HL4 := hide hl4; have HG4 := hide hg4; clear hl4 hg4))
    rw [← HG4.out]
    have hmk := KM2.out w4
    obtain ⟨w5, hw5⟩ : ∃ w5, w4.alloc (.cells zb.toArray 5) = w5 := ⟨_, rfl⟩
    have HR5 : Hid (Rd w5 (some ⟨w4.heap.size, 0, none⟩) (List.replicate 512 0)) := hide (by rw [← hw5]; exact KRD.out w4)
    have HL5 : Hid (LgAt w1 w5 X4 (dk2 n a c) (lgN a c)) := hide (by rw [← hw5]; exact HL4.out.ext_ (Ext.alloc _ _))
    rw [hw5] at hmk
    clear hw5
    go_wp2_with (first
      | (go_at_call 21; (with_reducible refine (KW.out w1 w5 X4 _ _ HX1.out HL5.out HR5.out).mono ?_); rintro e w6 ⟨X6, rfl, hl6, hf6, hn6⟩; have HL6 := hide hl6; have HG6 : Hid (X6.g = X4.g) := hide hn6.g; have HQ6 : Hid (X6.q = X4.q) := hide hn6.q; clear hl6 hf6 hn6)
      | (go_at_call 17; rw [← HG6.out]; (with_reducible refine (KO2.out w1 w6 X6 HX1.out HL6.out).mono ?_); rintro e w7 ⟨X7, rfl, hl7, hf7, hn7⟩; have HL7 := hide hl7; have HQ7 : Hid (X7.q = X4.q) := hide (hn7.q.trans HQ6.out); clear hl7 hf7 hn7)
      | (go_at_call 22; rw [← HQ7.out]; (with_reducible refine (KRL.out w1 w7 X7 HL7.out).mono ?_); rintro e wz ⟨rfl, rfl⟩)
      | (go_at_call 23; (with_reducible refine (append_nil _ _ _ _).mono ?_); rintro e wz ⟨rfl, rfl⟩)
      | (go_at_call 24; (with_reducible refine (spend_nil _ _ _).mono ?_); rintro e wz ⟨rfl, rfl⟩)
      | (go_at_call 25; (with_reducible refine (read_nil_log _).mono ?_); rintro e wz ⟨rfl, rfl⟩)
      | (go_at_call 17; (with_reducible refine (open_nil _ _).mono ?_); rintro e wz ⟨rfl, rfl⟩)
      | (go_at_call 20; (with_reducible refine (format_nil _ _).mono ?_); rintro e wz ⟨rfl, rfl⟩)
      | (go_at_call 12; (with_reducible refine flush_nil.mono ?_); rintro e wz ⟨rfl, rfl⟩)
      | (go_at_call 14; (with_reducible refine (mark_nil _ _).mono ?_); rintro e wz ⟨rfl, rfl⟩)
      | (go_at_call 22; (with_reducible refine (release_nil _).mono ?_); rintro e wz ⟨rfl, rfl⟩)
      | (go_at_call 15; (with_reducible refine end_nil.mono ?_); rintro e wz ⟨rfl, rfl⟩)
      | (go_at_call 26; (with_reducible refine sure_nil.mono ?_); rintro e wz ⟨rfl, rfl⟩)
      | (go_at_call 27; (with_reducible refine start_nil.mono ?_); rintro e wz ⟨rfl, rfl⟩)
      | (go_at_call 28; (with_reducible refine check_nil.mono ?_); rintro e wz ⟨rfl, rfl⟩)
      | (go_at_call 29; (with_reducible refine room_nil.mono ?_); rintro e wz ⟨rfl, rfl⟩)
      | (go_at_call 30; (with_reducible refine held_nil.mono ?_); rintro e wz ⟨rfl, rfl⟩))
    go_ret
    exact Ret.mk (HX1.out.trans HL7.out.ext) rfl
end
end Go.Proofs.YtdifpbicdicggaaDoor
namespace Go.Proofs.YtdifpbicdicggaaDoor
open Go.RowKit

section
variable {w : World}
set_option maxRecDepth 20000 in
set_option maxHeartbeats 1600000 in
theorem errs_out (n at_ count : Int) (hn : n < 1 ∨ 100 < n) (P : Option Addr) (np cp : Nat) (hT : Tab w) :
    Calls Tryd.prog 4 #[.int .i64 n, .int .i64 at_, .int .i64 count, .slice P np cp] w (Ret w (Is (.bool true))) := by
  have KA := hide (fun (W : World) (hW : Ext w W) => awake_any W (hT.ext hW))
  clear hT
  by_cases h1 : n < 1
  · clear hn
    go_enter Tryd.func4, Tryd.ntmps4
    go_wp2_with (first
      | (go_at_call 7; (with_reducible refine (KA.out w (Ext.refl w)).mono ?_); rintro e w1 ⟨rfl, hx1⟩; have HX1 := hide hx1; clear hx1)
      | (go_at_call 7; (with_reducible refine (KA.out w1 HX1.out).mono ?_); rintro e w2 ⟨rfl, hx2⟩; have HX2 := hide (HX1.out.trans hx2); clear hx2))
    go_ret
    exact Ret.mk HX2.out rfl
  · have h2 : 100 < n := by omega
    clear hn
    go_enter Tryd.func4, Tryd.ntmps4
    go_wp2_with (first
      | (go_at_call 7; (with_reducible refine (KA.out w (Ext.refl w)).mono ?_); rintro e w1 ⟨rfl, hx1⟩; have HX1 := hide hx1; clear hx1)
      | (go_at_call 7; (with_reducible refine (KA.out w1 HX1.out).mono ?_); rintro e w2 ⟨rfl, hx2⟩; have HX2 := hide (HX1.out.trans hx2); clear hx2))
    go_ret
    exact Ret.mk HX2.out rfl
theorem logErrs_walk (n at_ count : Int) (P : Option Addr) (np cp : Nat) (hT : Tab w) (h1 : -9223372036854775808 ≤ at_ ∧ at_ ≤ 9223372036854775807) (h2 : -9223372036854775808 ≤ count ∧ count ≤ 9223372036854775807) :
    Calls Tryd.prog 4 #[.int .i64 n, .int .i64 at_, .int .i64 count, .slice P np cp] w (Ret w (Is (.bool true))) := by
  by_cases hn : n < 1 ∨ 100 < n
  · exact errs_out n at_ count hn P np cp hT
  · obtain ⟨m, rfl⟩ : ∃ m : Nat, n = (m : Int) := ⟨n.toNat, by omega⟩
    by_cases ha : at_ < 0
    · exact errs_a m (by omega) (by omega) at_ count (by omega) (by omega) ha P np cp hT
    by_cases hb : count < 4
    · exact errs_b m (by omega) (by omega) at_ count (by omega) (by omega) ha hb P np cp hT
    by_cases hc : 4096 < count
    · exact errs_c m (by omega) (by omega) at_ count (by omega) (by omega) ha hb hc P np cp hT
    by_cases hd : (m : Int) - 1 - count < at_
    · exact errs_d m (by omega) (by omega) at_ count (by omega) (by omega) ha hb hc hd P np cp hT
    · obtain ⟨a, rfl⟩ : ∃ a : Nat, at_ = (a : Int) := ⟨at_.toNat, by omega⟩
      obtain ⟨c, rfl⟩ : ∃ c : Nat, count = (c : Int) := ⟨count.toNat, by omega⟩
      exact errs_yes (by omega) (by omega) (by omega) (by omega) P np cp hT
end
end Go.Proofs.YtdifpbicdicggaaDoor
namespace Go.Proofs.YtdifpbicdicggaaDoor.lawLogErrs
open Go.ChangeShapes Go.WideShapes Go.ChangeAt Go.RowKit
open Go.ChangeMaps (open_string)

set_option maxRecDepth 100000 in
theorem contract (H : Type) (enc : TypeId × Value → H) (W : World) (base : Nat) (args : Array Value) (ds gs : List (DataW H)) (before : List MemPlace)
    (hval : ∀ (j : Nat) t v, Tryd.f4.params[j]? = some t → args[j]? = some v → Value.okWide Tryd.prog W .any base t v)
    (hW : DataW.Whole enc Tryd.prog Tryd.f4.params.toList Rows.logErrsSpec.vars false W args.toList ds gs before) (hz : (DataW.weightsEach Tryd.prog (Tryd.f4.params.toList ++ (OpenSpec.ofChange Rows.logErrsSpec).bare.plain.varTypes Tryd.prog) (ds ++ gs)).all (· ≤ reachBytes) = true) (hL : laidMetH Tryd.prog Rows.logErrsRow.laid W) :
    Calls Tryd.prog 4 args W fun e W' => ∃ v, e = .returned v ∧ Rows.logErrsSpec.post enc Tryd.prog Tryd.f4 false true false false W args v W' := by
  have hW' := hW
  obtain ⟨p, q, hA0, hV, hbe, hfz, hnd⟩ := hW
  have hA : DataW.TrodAll enc Tryd.prog W 0 (fun _ => true) true Tryd.f4.params.toList args.toList ds p := hA0
  obtain ⟨rfl, rfl⟩ := trodVars_none hV
  rw [Tryd.params4] at hA hval
  obtain ⟨v0, vs0, d0, ds0, p0, q0, hg0, hd0, hp0, h0, r0⟩ := trodAll_cons hA
  obtain ⟨v1, vs1, d1, ds1, p1, q1, hg1, hd1, hp1, h1, r1⟩ := trodAll_cons r0
  obtain ⟨v2, vs2, d2, ds2, p2, q2, hg2, hd2, hp2, h2, r2⟩ := trodAll_cons r1
  obtain ⟨v3, vs3, d3, ds3, p3, q3, hg3, hd3, hp3, h3, r3⟩ := trodAll_cons r2
  obtain ⟨e1, e2, e3⟩ := trodAll_nil r3
  have hds : ds = [d0, d1, d2, d3] := by simp [hd0, hd1, hd2, hd3, e2]
  obtain rfl : args = #[v0, v1, v2, v3] := by
    have : args.toList = [v0, v1, v2, v3] := by simp [hg0, hg1, hg2, hg3, e1]
    exact Array.toList_inj.1 this
  subst hds
  obtain ⟨n0, rfl, hd0, -, wf0⟩ := open_int Tryd.underlying3 (hval 0 3 v0 rfl rfl) h0
  have hb0 := bounds_i64 wf0
  obtain ⟨n1, rfl, hd1, -, wf1⟩ := open_int Tryd.underlying3 (hval 1 3 v1 rfl rfl) h1
  have hb1 := bounds_i64 wf1
  obtain ⟨n2, rfl, hd2, -, wf2⟩ := open_int Tryd.underlying3 (hval 2 3 v2 rfl rfl) h2
  have hb2 := bounds_i64 wf2
  obtain ⟨A3, c3, l3, rfl, hlc3, hr3, hd3⟩ := open_bytes (hval 3 33 v3 rfl rfl) h3
  have hb3 := reach_bytes hz (j := 3) rfl rfl Tryd.underlying33 (by kernel_rfl) hd3
  have ht := tab_of_laid hL
  refine (logErrs_walk n0 n1 n2 A3 l3.length c3 ht hb1 hb2).mono fun e W' ⟨v, he, hx, hv⟩ => ?_
  subst he
  have hv' : v = .bool true := hv
  subst hv'
  exact ⟨_, rfl, law_post laidOut hW' rfl (by rw [Tryd.params4]; exact readable_all _ (by kernel_rfl)) (by kernel_rfl) Tryd.underlying4 rfl hx⟩

theorem laid_met (os : Os) : laidMet Tryd.prog Rows.logErrsRow.laid ((laidWorld os).forCall (fun _ _ => 0) ⟨#[], #[Value.int .i64 0, Value.int .i64 0, Value.int .i64 0, Value.slice none 0 0], []⟩).memory :=
  laidMet_of_run' 8 (by kernel_rfl) (by kernel_rfl)
theorem reads (os : Os) {H : Type} (enc : TypeId × Value → H) : ∃ places, DataW.whole enc Tryd.prog ((laidWorld os).forCall (fun _ _ => 0) ⟨#[], #[Value.int .i64 0, Value.int .i64 0, Value.int .i64 0, Value.slice none 0 0], []⟩).memory Tryd.f4.params.toList Rows.logErrsSpec.vars false (#[Value.int .i64 0, Value.int .i64 0, Value.int .i64 0, Value.slice none 0 0]).toList 8 = some ([.lit (.int .i64 0), .lit (.int .i64 0), .lit (.int .i64 0), .nil], [], places) :=
  ⟨[], by kernel_rfl⟩

set_option maxRecDepth 100000 in
theorem lifted (os : Os) (started : os.Started) (H : Type) (enc : TypeId × Value → H) (F : Stop.Interp) :
    ReturnsInHanded {} Tryd.checked os 4 .any ((OpenSpec.ofChange Rows.logErrsSpec).preRow enc Tryd.prog Tryd.f4 Rows.logErrsRow.domain false Rows.logErrsRow.laid) (((OpenSpec.ofChange Rows.logErrsSpec).at F).post enc Tryd.prog Tryd.f4 false true false false) := by
  obtain ⟨places, hx⟩ := reads os enc
  refine returnsInHanded_of_row (C := Tryd.checked) (s := (OpenSpec.ofChange Rows.logErrsSpec)) own started (by kernel_rfl) Tryd.func4
    (witness_row_at (enc := enc) (C := Tryd.checked) false (laidWorld os) #[Value.int .i64 0, Value.int .i64 0, Value.int .i64 0, Value.slice none 0 0] rfl (by kernel_rfl) (by kernel_rfl) (by kernel_rfl)
      (OpenSpec.preRow_of_cond 8 hx (by kernel_rfl) (fun k hk => by cases hk) (by kernel_rfl) (laid_met os))) ?_
  intro W base args ds gs before hval hW _ hcond hz hL _ _
  exact contract H enc W base args ds gs before hval hW hz hL

theorem said : Rows.LogErrsSaid :=
  OpenClaim.holds_of_cond 4 Tryd.f4 rfl rfl rfl rfl rfl rfl rfl ⟨rfl, rfl, rfl, rfl, rfl⟩ rfl rfl rfl rfl rfl (by kernel_rfl) Tryd.func4 (by kernel_rfl)
    (of_decide_eq_true (by kernel_rfl)) (by unfold Func.isWrapper; first | (rw [if_pos (by decide +kernel)]; kernel_rfl) | (rw [if_neg (by decide +kernel)]; exact ⟨rfl, rfl⟩))
    (fun os started H enc _ F => by rw [OpenClaim.pre_eq_preRow]; exact lifted os started H enc F)

theorem plain (f : FuncId) (fn : Func) (hf : Tryd.pinned.checked.prog.funcNamed "muniment/munimentlaw09.LogErrs" = some f) (hfn : Tryd.pinned.checked.prog.funcs[f]? = some fn) :
    Rows.logErrsCard.stood.looks = Tryd.pinned.checked.prog.looks [] ∧ ∀ (j : Nat) t, fn.params[j]? = some t → Tryd.pinned.checked.prog.wantsStandIn t = false := by
  obtain rfl : f = 4 := Option.some.inj ((show Tryd.prog.funcNamed "muniment/munimentlaw09.LogErrs" = some 4 by kernel_rfl).symm.trans hf) |>.symm
  obtain rfl : fn = Tryd.f4 := (Option.some.inj (Tryd.func4.symm.trans hfn)).symm
  refine ⟨by kernel_rfl, fun j t ht => ?_⟩
  have h := (show (Tryd.f4.params.toList.all fun t => !Tryd.prog.wantsStandIn t) = true by kernel_rfl)
  have h2 := List.all_eq_true.1 h t (by simpa using Array.mem_of_getElem? ht)
  have h3 : Tryd.prog.wantsStandIn t = false := by simpa using h2
  exact h3

/-- The card. -/
theorem card : Rows.LogErrsCardSaid :=
  Claim7.holds_tied_plain_at .later [] _ _ _ _ said (fun _ h => by cases h) (by kernel_rfl) (fun _ h => by cases h) logErrs_row_tie rfl ⟨rfl, rfl⟩ (by kernel_rfl) rfl plain (by kernel_rfl)
end Go.Proofs.YtdifpbicdicggaaDoor.lawLogErrs
namespace Go.Proofs.YtdifpbicdicggaaDoor.lawLogHeld
open Go.ChangeShapes Go.WideShapes Go.ChangeAt Go.RowKit
open Go.ChangeMaps (open_string)

set_option maxRecDepth 100000 in
theorem contract (H : Type) (enc : TypeId × Value → H) (W : World) (base : Nat) (args : Array Value) (ds gs : List (DataW H)) (before : List MemPlace)
    (hval : ∀ (j : Nat) t v, Tryd.f6.params[j]? = some t → args[j]? = some v → Value.okWide Tryd.prog W .any base t v)
    (hW : DataW.Whole enc Tryd.prog Tryd.f6.params.toList Rows.logHeldSpec.vars false W args.toList ds gs before) (hz : (DataW.weightsEach Tryd.prog (Tryd.f6.params.toList ++ (OpenSpec.ofChange Rows.logHeldSpec).bare.plain.varTypes Tryd.prog) (ds ++ gs)).all (· ≤ reachBytes) = true) (hL : laidMetH Tryd.prog Rows.logHeldRow.laid W) :
    Calls Tryd.prog 6 args W fun e W' => ∃ v, e = .returned v ∧ Rows.logHeldSpec.post enc Tryd.prog Tryd.f6 false true false false W args v W' := by
  have hW' := hW
  obtain ⟨p, q, hA0, hV, hbe, hfz, hnd⟩ := hW
  have hA : DataW.TrodAll enc Tryd.prog W 0 (fun _ => true) true Tryd.f6.params.toList args.toList ds p := hA0
  obtain ⟨rfl, rfl⟩ := trodVars_none hV
  rw [Tryd.params6] at hA hval
  obtain ⟨v0, vs0, d0, ds0, p0, q0, hg0, hd0, hp0, h0, r0⟩ := trodAll_cons hA
  obtain ⟨v1, vs1, d1, ds1, p1, q1, hg1, hd1, hp1, h1, r1⟩ := trodAll_cons r0
  obtain ⟨v2, vs2, d2, ds2, p2, q2, hg2, hd2, hp2, h2, r2⟩ := trodAll_cons r1
  obtain ⟨e1, e2, e3⟩ := trodAll_nil r2
  have hds : ds = [d0, d1, d2] := by simp [hd0, hd1, hd2, e2]
  obtain rfl : args = #[v0, v1, v2] := by
    have : args.toList = [v0, v1, v2] := by simp [hg0, hg1, hg2, e1]
    exact Array.toList_inj.1 this
  subst hds
  obtain ⟨n0, rfl, hd0, -, wf0⟩ := open_int Tryd.underlying5 (hval 0 5 v0 rfl rfl) h0
  have hb0 := bounds_u8 wf0
  obtain ⟨n1, rfl, hd1, -, wf1⟩ := open_int Tryd.underlying60 (hval 1 60 v1 rfl rfl) h1
  have hb1 := bounds_u16 wf1
  obtain ⟨n2, rfl, hd2, -, wf2⟩ := open_int Tryd.underlying5 (hval 2 5 v2 rfl rfl) h2
  have hb2 := bounds_u8 wf2
  have ht := tab_of_laid hL
  refine (held_int n0 n1 n2 ht hb0 hb1 hb2).mono fun e W' ⟨v, he, hx, hv⟩ => ?_
  subst he
  have hv' : v = .bool true := hv
  subst hv'
  exact ⟨_, rfl, law_post laidOut hW' rfl (by rw [Tryd.params6]; exact readable_all _ (by kernel_rfl)) (by kernel_rfl) Tryd.underlying4 rfl hx⟩

theorem laid_met (os : Os) : laidMet Tryd.prog Rows.logHeldRow.laid ((laidWorld os).forCall (fun _ _ => 0) ⟨#[], #[Value.int .u8 0, Value.int .u16 0, Value.int .u8 0], []⟩).memory :=
  laidMet_of_run' 8 (by kernel_rfl) (by kernel_rfl)
theorem reads (os : Os) {H : Type} (enc : TypeId × Value → H) : ∃ places, DataW.whole enc Tryd.prog ((laidWorld os).forCall (fun _ _ => 0) ⟨#[], #[Value.int .u8 0, Value.int .u16 0, Value.int .u8 0], []⟩).memory Tryd.f6.params.toList Rows.logHeldSpec.vars false (#[Value.int .u8 0, Value.int .u16 0, Value.int .u8 0]).toList 8 = some ([.lit (.int .u8 0), .lit (.int .u16 0), .lit (.int .u8 0)], [], places) :=
  ⟨[], by kernel_rfl⟩

set_option maxRecDepth 100000 in
theorem lifted (os : Os) (started : os.Started) (H : Type) (enc : TypeId × Value → H) (F : Stop.Interp) :
    ReturnsInHanded {} Tryd.checked os 6 .any ((OpenSpec.ofChange Rows.logHeldSpec).preRow enc Tryd.prog Tryd.f6 Rows.logHeldRow.domain false Rows.logHeldRow.laid) (((OpenSpec.ofChange Rows.logHeldSpec).at F).post enc Tryd.prog Tryd.f6 false true false false) := by
  obtain ⟨places, hx⟩ := reads os enc
  refine returnsInHanded_of_row (C := Tryd.checked) (s := (OpenSpec.ofChange Rows.logHeldSpec)) own started (by kernel_rfl) Tryd.func6
    (witness_row_at (enc := enc) (C := Tryd.checked) false (laidWorld os) #[Value.int .u8 0, Value.int .u16 0, Value.int .u8 0] rfl (by kernel_rfl) (by kernel_rfl) (by kernel_rfl)
      (OpenSpec.preRow_of_cond 8 hx (by kernel_rfl) (fun k hk => by cases hk) (by kernel_rfl) (laid_met os))) ?_
  intro W base args ds gs before hval hW _ hcond hz hL _ _
  exact contract H enc W base args ds gs before hval hW hz hL

theorem said : Rows.LogHeldSaid :=
  OpenClaim.holds_of_cond 6 Tryd.f6 rfl rfl rfl rfl rfl rfl rfl ⟨rfl, rfl, rfl, rfl, rfl⟩ rfl rfl rfl rfl rfl (by kernel_rfl) Tryd.func6 (by kernel_rfl)
    (of_decide_eq_true (by kernel_rfl)) (by unfold Func.isWrapper; first | (rw [if_pos (by decide +kernel)]; kernel_rfl) | (rw [if_neg (by decide +kernel)]; exact ⟨rfl, rfl⟩))
    (fun os started H enc _ F => by rw [OpenClaim.pre_eq_preRow]; exact lifted os started H enc F)

theorem plain (f : FuncId) (fn : Func) (hf : Tryd.pinned.checked.prog.funcNamed "muniment/munimentlaw09.LogHeld" = some f) (hfn : Tryd.pinned.checked.prog.funcs[f]? = some fn) :
    Rows.logHeldCard.stood.looks = Tryd.pinned.checked.prog.looks [] ∧ ∀ (j : Nat) t, fn.params[j]? = some t → Tryd.pinned.checked.prog.wantsStandIn t = false := by
  obtain rfl : f = 6 := Option.some.inj ((show Tryd.prog.funcNamed "muniment/munimentlaw09.LogHeld" = some 6 by kernel_rfl).symm.trans hf) |>.symm
  obtain rfl : fn = Tryd.f6 := (Option.some.inj (Tryd.func6.symm.trans hfn)).symm
  refine ⟨by kernel_rfl, fun j t ht => ?_⟩
  have h := (show (Tryd.f6.params.toList.all fun t => !Tryd.prog.wantsStandIn t) = true by kernel_rfl)
  have h2 := List.all_eq_true.1 h t (by simpa using Array.mem_of_getElem? ht)
  have h3 : Tryd.prog.wantsStandIn t = false := by simpa using h2
  exact h3

/-- The card. -/
theorem card : Rows.LogHeldCardSaid :=
  Claim7.holds_tied_plain_at .later [] _ _ _ _ said (fun _ h => by cases h) (by kernel_rfl) (fun _ h => by cases h) logHeld_row_tie rfl ⟨rfl, rfl⟩ (by kernel_rfl) rfl plain (by kernel_rfl)
end Go.Proofs.YtdifpbicdicggaaDoor.lawLogHeld
namespace Go.Proofs.YtdifpbicdicggaaDoor
open Go.RowKit

/-- The slice at A reads as these numbers of two bytes. -/
def RdU (w : World) (A : Option Addr) (l : List Nat) : Prop := l ≠ [] → ∃ b off, A = some ⟨b, off, none⟩ ∧ ∀ (j v : Nat), l[j]? = some v → w.cell? ⟨b, off + j, none⟩ = some (.int .u16 (v : Int))
structure Rl (w1 wr : World) (gm dg c : Nat) (X : Bk) (D : Dk) (L : Lg) (H : List UInt8) (M : Md) (vl : Value) (rs : List (List UInt8)) (o e : Nat) : Prop where
  log : LgAt w1 wr X D L
  mod : MdAt wr w1.heap.size gm vl M
  mir : Mir D L H M rs
  small : ∀ p ∈ rs, p.length ≤ 400
  su : L.sure = H.length
  at1 : L.at_ = 1
  cn : L.hd.cn = c
  ck : L.hd.ck = 0
  ops : D.ops ≤ o
  len : H.length ≤ e
  epo : L.hd.ep ≤ e
  dur : D.dur.length = c + 3
  g : X.g = dg
section
variable {w0 w : World} {X : Bk} {D : Dk} {L : Lg}
set_option maxRecDepth 20000 in
set_option maxHeartbeats 6400000 in
theorem logRings_walk (cn ev : Nat) (A : Option Addr) (l : List Nat) (n cc : Nat) (h1 : cn < 256) (h2 : ev < 256) (hr : RdU w A l) (hn : l.length = n) (hl : n ≤ 140737488355328) (hu : ∀ v ∈ l, v < 65536) (hT : Tab w) :
    Calls Tryd.prog 5 #[.int .u8 (cn : Int), .slice A n cc, .int .u8 (ev : Int)] w (Ret w (Is (.bool true))) := by
  have KA := hide (fun (W : World) (hW : Ext w W) => awake_any W (hT.ext hW))
  obtain ⟨c, HC⟩ : ∃ c, Hid (4 + cn % 6 = c) := ⟨_, hide rfl⟩
  have HCB : Hid (4 ≤ c ∧ c ≤ 9) := hide (by have := HC.out; omega)
  have KF : Hid (∀ W, Ext w W → Calls Tryd.prog 8 #[.int .i64 (c : Int)] W (FrPost c W)) := hide (fun W hW => fresh_any HCB.out.1 (by have := HCB.out.2; omega) (hT.ext hW))
  have hc1 : (4 : Int) + (cn : Int) % 6 = (c : Int) := by have := HC.out; omega
  have hcw : IntKind.i64.wrap (c : Int) = (c : Int) := by rw [IntKind.wrap_i64]; have := HCB.out; omega
  have hn1 : IntKind.i64.wrap (cn : Int) = (cn : Int) := by rw [IntKind.wrap_i64]; omega
  have HT := hide hT
  have HR := hide hr
  have HN := hide hn
  have HLB := hide hl
  have HU := hide hu
  have HEV := hide h2
  clear hT h1 h2 hr hn hl hu
  go_enter Tryd.func5, Tryd.ntmps5
  go_upto_region 9 with (first
    | (go_at_call 7; (with_reducible refine (KA.out w (Ext.refl w)).mono ?_); rintro e w1 ⟨rfl, hx1⟩; have HX1 := hide hx1; clear hx1)
    | (go_at_call 8; (with_reducible refine (KF.out w1 HX1.out).mono ?_); rintro e w2 ⟨X1, rfl, hl1⟩; have HL1 := hide hl1; clear hl1))
  clear hc1 hcw hn1 KA KF
  obtain ⟨gm, hgm⟩ : ∃ gm, w2.heap.size = gm := ⟨_, rfl⟩
  have HR0 : Hid (Rl w1 (w2.alloc (.cells #[.slice none 0 0, .int .u64 480, .int .u64 480, .int .u64 480, .int .u64 0, .int .i64 0, .int .i64 (c : Int)] 32)) gm X1.g c X1 (dk2 (c + 3) 1 c) (lgN 1 c) (List.replicate 480 0) ⟨[], 480, 480, 480, 0, 0, c⟩ (.slice none 0 0) [] (10 + 20 * 0) (482 + 403 * 0)) := hide (by
    have hx := Ext.alloc w2 (.cells #[.slice none 0 0, .int .u64 480, .int .u64 480, .int .u64 480, .int .u64 0, .int .i64 0, .int .i64 (c : Int)] 32)
    have hb := Rw.new w2 32 [.slice none 0 0, .int .u64 480, .int .u64 480, .int .u64 480, .int .u64 0, .int .i64 0, .int .i64 (c : Int)]
    rw [hgm] at hb
    have hl : (List.replicate 480 (0 : UInt8)).length = 480 := List.length_replicate ..
    refine ⟨HL1.out.ext_ hx, ⟨hb, .inl ⟨rfl, rfl⟩, by rw [← hgm]; exact HL1.out.ext.size⟩, ⟨rg_new HCB.out.1 (by have := HCB.out.2; omega), hl.symm, rfl, rfl, rfl, rfl, rfl, rfl, rfl, ?_, (fun p hp => by cases hp)⟩, (fun p hp => by cases hp), hl.symm, rfl, rfl, rfl, ?_, ?_, ?_, dk2_len, rfl⟩
    · show (List.replicate 480 (0 : UInt8)).drop 480 = []
      rfl
    · show 5 ≤ _
      omega
    · rw [hl]; omega
    · show 1 ≤ _
      omega)
  obtain ⟨dg, HDG⟩ : ∃ dg, Hid (X1.g = dg) := ⟨_, hide rfl⟩
  rw [HDG.out] at HR0 ⊢
  rw [hgm]
  go_loopw [9, 11] (fun gv iv wr => ∃ (i : Nat) (X : Bk) (D : Dk) (L : Lg) (H : List UInt8) (M : Md) (vl : Value) (rs : List (List UInt8)), gv = .pointer (some ⟨X.q, 0, none⟩) ∧ iv = .int .i64 (i : Int) ∧ Hid (i ≤ 80) ∧ Hid (rs.length ≤ 2) ∧ Hid (Rl w1 wr gm dg c X D L H M vl rs (10 + 20 * i) (482 + 403 * i))) (fun _ iv _ => 80 - (intOf iv).toNat)
  case atStart => exact ⟨0, X1, _, _, _, _, _, [], rfl, rfl, hide (by decide), hide (by decide), HR0⟩
  case round =>
    obtain ⟨i, X, D, L, H, M, vl, rs, rfl, rfl, HI, HRL, HRR⟩ := hrel
    clear HR0 HL1 HDG hgm
    have HSZ : Hid (w.heap.size ≤ wr.heap.size) := hide (by have h1 := HX1.out.size; have h2 := HRR.out.log.ext.size; omega)
    have HXR : Hid (Ext w wr) := hide (HX1.out.trans HRR.out.log.ext)
    by_cases hgo : i < n ∧ i < 80
    · obtain ⟨hin, hi8⟩ := hgo
      have hini : (i : Int) < (n : Int) := by omega
      have hi8i : (i : Int) < 80 := by omega
      obtain ⟨v, hv⟩ : ∃ v, l[i]? = some v := ⟨_, List.getElem?_eq_getElem (by rw [HN.out]; exact hin)⟩
      obtain ⟨ab, ao, hA, hcA⟩ := HR.out (by intro e; rw [e] at hv; cases hv)
      subst hA
      have cA : wr.cell? ⟨ab, ao + i, none⟩ = some (.int .u16 (v : Int)) := (World.cell?_of_block (Below.block HXR.out ab (World.block_lt_of_cell? w _ (hcA i v hv)))).trans (hcA i v hv)
      have HV : Hid (v < 65536) := hide (HU.out v (List.mem_of_getElem? hv))
      obtain ⟨sz, HSE⟩ : ∃ sz, Hid (1 + v % 400 = sz) := ⟨_, hide rfl⟩
      have HSB : Hid (1 ≤ sz ∧ sz ≤ 400) := hide (by have := HSE.out; omega)
      have hs1 : (1 : Int) + (v : Int) % 400 = (sz : Int) := by have := HSE.out; omega
      have hs0 : IntKind.i64.wrap (v : Int) = (v : Int) := by rw [IntKind.wrap_i64]; have := HV.out; omega
      have hs2 : IntKind.i64.wrap (sz : Int) = (sz : Int) := by rw [IntKind.wrap_i64]; have := HSB.out; omega
      have HM : Hid (∀ W : World, (Instr.makeSlice 33 (.int .i64 (sz : Int)) (.int .i64 (sz : Int))).run Tryd.prog W = .ok (.slice (some ⟨W.heap.size, 0, none⟩) sz sz) (mkW sz W)) := hide (fun W => mkW_run sz (by have := HSB.out; omega) W)
      have hb8 : IntKind.u8.wrap (i : Int) = (i : Int) := by rw [IntKind.wrap_u8]; omega
      obtain ⟨bp, HBP⟩ : ∃ bp, Hid (wr.heap.size = bp) := ⟨_, hide rfl⟩
      have RM : Rw (mkW sz wr) bp 5 (bs (List.replicate sz 0)) := by
        rw [← HBP.out]
        exact Blk.made wr sz
      have cM := RM.cell (i := 0) (v := .int .u8 0) (by
        obtain ⟨k, hk⟩ : ∃ k, sz = k + 1 := ⟨sz - 1, by have := HSB.out; omega⟩
        rw [hk]
        rfl)
      have fM := RM.frozen 0
      obtain ⟨p, HP⟩ : ∃ p, Hid ((List.replicate sz 0).set 0 (b8 (i : Int)) = p) := ⟨_, hide rfl⟩
      have HPL : Hid (p.length = sz) := hide (by rw [← HP.out, List.length_set, List.length_replicate])
      have HRP : Hid (Rd ((mkW sz wr).setCell ⟨bp, 0, none⟩ (.int .u8 (i : Int))) (some ⟨bp, 0, none⟩) p) := hide (by
        have h1 := RM.set 0 (.int .u8 (i : Int))
        have h2 : (bs (List.replicate sz 0)).set 0 (.int .u8 (i : Int)) = bs p := by
          have h3 : ((b8 (i : Int)).toNat : Int) = (i : Int) := by
            unfold b8
            rw [UInt8.toNat_ofNat']
            omega
          rw [← HP.out]
          unfold bs
          rw [List.map_set, h3]
        rw [h2] at h1
        exact Rd.of_rw h1)
      have HXP : Hid (Ext wr ((mkW sz wr).setCell ⟨bp, 0, none⟩ (.int .u8 (i : Int)))) := hide (Below.setCell (p := ⟨bp, 0, none⟩) (mkW_ext sz wr) (by rw [← HBP.out]; exact Nat.le_refl _) _)
      have HNP : Hid (∀ a, some (⟨bp, 0, none⟩ : Addr) = some a → ¬ X.has a.block ∧ a.block < ((mkW sz wr).setCell ⟨bp, 0, none⟩ (.int .u8 (i : Int))).heap.size) := hide (fun a ha => by
        have h1 := mkW_not HRR.out.log sz a (by rw [HBP.out]; exact ha)
        exact ⟨h1.1, by simpa using h1.2⟩)
      have hin2 : (0 : Int) < (sz : Int) := by have := HSB.out; omega
      have HIN := hide hin
      have HI8 := hide hi8
      clear hv hcA hin hi8
      go_upto_region 13 with ((with_reducible show wpList _ _ _ (⟨some 50, _, _, _, _, _⟩ :: _) _ _); refine wpList_gives (gives_make rfl rfl rfl (HM.out _) ⟨rfl, rfl⟩) rfl ?_; rw [HBP.out])
      clear cM fM RM cA hs0 hs1 hs2 hb8 hin2 HM hini hi8i
      obtain ⟨wp, hwp⟩ : ∃ wp, (mkW sz wr).setCell ⟨bp, 0, none⟩ (.int .u8 (i : Int)) = wp := ⟨_, rfl⟩
      rw [hwp] at HRP HXP HNP ⊢
      clear hwp
      have HMI := hide HRR.out.mir
      obtain ⟨en, HEN⟩ : ∃ en, Hid (H.length = en) := ⟨_, hide rfl⟩
      have HRO : Hid (RecOk p) := hide ⟨by rw [HPL.out]; have := HSB.out; omega, by rw [HPL.out]; have := HSB.out; omega⟩
      have HENB : Hid (en ≤ 482 + 403 * i ∧ en < 40000) := hide (by have h1 := HRR.out.len; have h2 := HEN.out; have h3 := HI.out; omega)
      have HFIT : Hid (H.length + 2 + p.length ≤ (L.hd.st / 480 + L.hd.cn) * 480) := hide (by
        have h1 := recsB_small rs HRR.out.small
        have h2 : (recsB rs).length = H.length - L.hd.fi := by rw [← HMI.out.recs, List.length_drop]
        have h3 := HMI.out.fi
        have h4 := HMI.out.rg.st
        have h5 := HMI.out.rg.cn
        have h6 := HPL.out
        have h7 := HSB.out
        have h8 := HRL.out
        omega)
      have HST := hide (HMI.out.app HRR.out.su p HRO.out HFIT.out (by rw [HEN.out, HPL.out]; have := HENB.out; have := HSB.out; omega) (by have := HRR.out.ops; have := HI.out; omega))
      obtain ⟨L1, HL1⟩ : ∃ L1, Hid (apL L p 0 = L1) := ⟨_, hide rfl⟩
      obtain ⟨L2, HL2⟩ : ∃ L2, Hid (flL D L1 = L2) := ⟨_, hide rfl⟩
      obtain ⟨D2, HD2⟩ : ∃ D2, Hid (flD D L1 = D2) := ⟨_, hide rfl⟩
      rw [HL1.out, HL2.out, HD2.out] at HST
      have HLP := hide (HRR.out.log.ext_ HXP.out)
      have KAP : Hid (Calls Tryd.prog 23 #[.pointer (some ⟨X.q, 0, none⟩), .slice (some ⟨bp, 0, none⟩) sz sz, .int .i64 0] wp (LPost w1 wp X (.tuple #[.int .u64 (en : Int), .int .i64 0]) D L1)) := hide (by
        have k := append_any HLP.out HMI.out.rg.ok (by have := HMI.out.rg.st; have := HMI.out.rg.sure; have := HMI.out.rg.big; omega) (some ⟨bp, 0, none⟩) sz sz p 0 HRP.out HPL.out (by have := HSB.out; omega) HNP.out (by have := HMI.out.rg.tail_len; have := HMI.out.rg.cn; omega) (by decide)
        unfold apR at k
        rw [HST.out.1, if_pos rfl, HMI.out.rg.end_, HEN.out, HL1.out] at k
        exact k)
      have KPU : Hid (∀ W, MdAt W w1.heap.size gm vl M → Rd W (some ⟨bp, 0, none⟩) p → w1.heap.size ≤ W.heap.size → Calls Tryd.prog 31 #[.pointer (some ⟨gm, 0, none⟩), .slice (some ⟨bp, 0, none⟩) sz sz] W (fun e w' => ∃ vl', e = .returned (.int .u64 (en : Int)) ∧ MdAt w' w1.heap.size gm vl' (appM M p) ∧ Mfr gm vl W w')) := hide (fun W h1 h2 h3 => by
        have k := put_any h1 (some ⟨bp, 0, none⟩) sz sz p h2 HPL.out (by have := HSB.out; omega) (by rw [HMI.out.l, plc_len]; have := HRL.out; omega) (by rw [HMI.out.en, HEN.out]; have := HENB.out; omega) h3
        refine k.mono fun e w' hh => ?_
        obtain ⟨v', e1, e2, e3, -⟩ := hh
        refine ⟨v', by rw [e1, HMI.out.en, HEN.out], ?_, e3⟩
        unfold appM
        rw [HPL.out]
        exact e2)
      have KFL : Hid (∀ W X', LgAt w1 W X' D L1 → X'.q = X.q → Calls Tryd.prog 12 #[.pointer (some ⟨X.q, 0, none⟩)] W (LPost w1 W X' (.int .i64 0) D2 L2)) := hide (fun W X' h1 h2 => by
        have r1 := HST.out.2.1
        have k := flush_any h1 r1.ok r1.bd (by rw [r1.pen]; decide) (by have := HRR.out.ops; have := HI.out; omega) (by have := r1.tail_len; have := r1.cn; omega) (HT.out.ext HX1.out)
        rw [HST.out.2.2.1, HL2.out, HD2.out, h2] at k
        exact k)
      go_upto_region 16 with (first
        | (go_at_call 23; (with_reducible refine KAP.out.mono ?_); rintro e w4 ⟨X4, rfl, hl4, hf4, hn4⟩; have HL4 := hide hl4; have HM4 : Hid (MdAt w4 w1.heap.size gm vl M) := hide ((HRR.out.mod.ext HXP.out).lfr HLP.out hf4); have HR4 : Hid (Rd w4 (some ⟨bp, 0, none⟩) p) := hide (HRP.out.lfr hf4 (fun a ha => (HNP.out a ha).1)); have HN4 := hide hn4; clear hl4 hf4 hn4)
        | (go_at_call 31; (with_reducible refine (KPU.out w4 HM4.out HR4.out HL4.out.ext.size).mono ?_); rintro e w5 ⟨vl5, rfl, hm5, hf5⟩; have HM5 := hide hm5; have HL5 : Hid (LgAt w1 w5 X4 D L1) := hide (HL4.out.mfr HM4.out hf5); clear hm5 hf5)
        | (go_at_call 12; (with_reducible refine (KFL.out w5 X4 HL5.out HN4.out.q).mono ?_); rintro e w6 ⟨X6, rfl, hl6, hf6, hn6⟩; have HL6 := hide hl6; have HM6 : Hid (MdAt w6 w1.heap.size gm vl5 (appM M p)) := hide (HM5.out.lfr HL5.out hf6); have HQ6 : Hid (X6.q = X.q ∧ X6.g = X.g) := hide ⟨hn6.q.trans HN4.out.q, hn6.g.trans HN4.out.g⟩; clear hl6 hf6 hn6))
      have c1 := HM6.out.cells.2.1
      have f2 := HM6.out.blk.frozen 2
      have c2 := HM6.out.cells.2.2.1
      have HW7 : Hid (MdAt (w6.setCell ⟨gm, 2, none⟩ (.int .u64 ((appM M p).en : Int))) w1.heap.size gm vl5 (sureM (appM M p))) := hide (HM6.out.put 2 _ _ rfl rfl)
      have HL7 : Hid (LgAt w1 (w6.setCell ⟨gm, 2, none⟩ (.int .u64 ((appM M p).en : Int))) X6 D2 L2) := hide (HL6.out.mfr HM6.out (Mfr.cell 2 _))
      go_upto_region 17 with fail
      obtain ⟨w7, hw7⟩ : ∃ w7, w6.setCell ⟨gm, 2, none⟩ (.int .u64 ((appM M p).en : Int)) = w7 := ⟨_, rfl⟩
      rw [hw7] at HW7 HL7 ⊢
      clear hw7 c1 f2 c2
      obtain ⟨H9, HH9⟩ : ∃ H9, Hid (H ++ frm p = H9) := ⟨_, hide rfl⟩
      obtain ⟨M7, HM7⟩ : ∃ M7, Hid (sureM (appM M p) = M7) := ⟨_, hide rfl⟩
      obtain ⟨rs7, HS7⟩ : ∃ rs7, Hid (rs ++ [p] = rs7) := ⟨_, hide rfl⟩
      have HR7 : Hid (Rl w1 w7 gm dg c X6 D2 L2 H9 M7 vl5 rs7 (10 + 20 * i + 12) (482 + 403 * i + 402)) := hide (by
        obtain ⟨s1, s2, s3, s4, s5, s6, s7, s8, s9⟩ := HST.out
        have r := HRR.out
        have h1 := r.ops
        have h2 := r.len
        have h3 := r.epo
        have h4 := HPL.out
        have h5 := HSB.out
        have h6 := HCB.out
        have h7 := r.cn
        rw [← HH9.out, ← HM7.out, ← HS7.out]
        refine ⟨HL7.out, HW7.out, s4, fun q hq => ?_, s5, by rw [s7]; exact r.at1, by rw [s6]; exact r.cn, by rw [s6]; exact r.ck, by omega, by rw [List.length_append, frm_len]; omega, by rw [s6]; omega, by rw [s9]; exact r.dur, HQ6.out.2.trans r.g⟩
        rcases List.mem_append.1 hq with h | h
        · exact r.small q h
        · rw [List.mem_singleton.1 h]; omega)
      have HS7L : Hid (rs7.length = rs.length + 1) := hide (by rw [← HS7.out, List.length_append]; rfl)
      have HQ7 : Hid (X6.q = X.q) := hide HQ6.out.1
      clear HW7 HL7 HM6 HL6 HST KAP KPU KFL HLP HFIT HRO HMI HM5 HL5 HM4 HL4 HR4 HN4 HRP HXP HNP HRR HXR HSZ HR HENB HEN HL1 HL2 HD2 HP HPL HH9 HM7 HS7
      obtain ⟨nl, HNL⟩ : ∃ nl, Hid (M7.l.length = nl) := ⟨_, hide rfl⟩
      have HNLE : Hid (nl = rs7.length) := hide (by rw [← HNL.out, HR7.out.mir.l, plc_len])
      obtain ⟨A7, d7, hv7⟩ := HR7.out.mod.recs.slice
      rw [HNL.out] at hv7
      have c0 := HR7.out.mod.cells.1
      rw [hv7] at c0
      by_cases hmany : 2 < nl
      · have h3 : nl = 3 := by have := HNLE.out; have := HS7L.out; have := HRL.out; omega
        subst h3
        obtain ⟨a, rs8, hrs⟩ : ∃ a rs8, rs7 = a :: rs8 := by
          cases rs7 with
          | nil => exact absurd HNLE.out (by decide)
          | cons a rs8 => exact ⟨a, rs8, rfl⟩
        subst hrs
        obtain ⟨g7, o7, e7, hv8, hnc7, hcell7⟩ := HR7.out.mod.recs.at (by intro e; rw [e] at HNL; exact absurd HNL.out (by decide))
        rw [HNL.out] at hv8 hnc7
        rw [hv8] at hv7
        obtain ⟨fi, HFI⟩ : ∃ fi, Hid (L2.hd.fi = fi) := ⟨_, hide rfl⟩
        obtain ⟨pl, HPLC⟩ : ∃ pl, Hid (fi + (2 + a.length) = pl) := ⟨_, hide rfl⟩
        have HLE : Hid (M7.l = (fi, a) :: plc pl rs8) := hide (by rw [HR7.out.mir.l, HFI.out, ← HPLC.out]; rfl)
        have hcc : ¬ e7 = 1 := by omega
        have hcc1 : 1 ≤ e7 := by omega
        have hcc2 : (1 : Int) ≤ (e7 : Int) := by omega
        injection hv7 with q1 q2 q3
        subst q1 q3
        have f0 := HR7.out.mod.blk.frozen 0
        have hg2 : (2 : Int) < ((3 : Nat) : Int) := by decide
        clear hmany
        go_upto_region 18 with fail
        go_cut [] from 88 to 101 (fun wx => Hid (wx = (w7.setCell ⟨gm, 0, none⟩ (.slice (some ⟨g7, o7 + 2, none⟩) 2 (e7 - 1))).drew))
        case first =>
          go_region
          all_goals (go_wp2_with fail; go_meet)
          all_goals exact hide rfl
        case rest =>
        obtain ⟨w8, hw8⟩ : ∃ w8, w8 = wc := ⟨_, rfl⟩
        subst hw8
        have HD1 : Hid (RecS w7 w1.heap.size (.slice (some ⟨g7, o7 + 2, none⟩) 2 (e7 - 1)) (plc pl rs8)) := hide (by
          have h1 := HR7.out.mod.recs
          rw [hv8] at h1
          have h2 := RecS.drop h1 1 (by decide) (by omega)
          rw [HLE.out] at h2
          exact h2)
        have HM8 : Hid (MdAt w8 w1.heap.size gm (.slice (some ⟨g7, o7 + 2, none⟩) 2 (e7 - 1)) { M7 with l := plc pl rs8 }) := hide (by
          rw [hcut.out]
          refine (HR7.out.mod.putL _ _ HD1.out (fun e => ?_)).ext (Ext.drew _)
          have e : g7 = gm := by simpa [Value.ownBlock] using e
          exact HR7.out.mod.ne g7 (by rw [hv8]; rfl) e)
        have HL8 : Hid (LgAt w1 w8 X6 D2 L2) := hide (by
          rw [hcut.out]
          exact (HR7.out.log.mfr HR7.out.mod (Mfr.cell 0 _)).ext_ (Ext.drew _))
        have HPF : Hid (pl < 1000000 ∧ 480 ≤ fi) := hide (by
          have h1 := HR7.out.mir.rg.st
          have h2 := HR7.out.len
          have h3 := HR7.out.mir.rg.sure
          have h4 := HI8.out
          have h5 := HR7.out.small a (by simp)
          have h6 := HFI.out
          have h7 := HPLC.out
          omega)
        have HMK := hide (HR7.out.mir.mark HR7.out.su HR7.out.ck (by have := HR7.out.ops; have := HI8.out; omega) pl (by rw [HFI.out]; exact HPLC.out.symm))
        obtain ⟨L9, HL9⟩ : ∃ L9, Hid (mkL D2 L2 0 pl = L9) := ⟨_, hide rfl⟩
        obtain ⟨D9, HD9⟩ : ∃ D9, Hid (mkD D2 L2 0 pl = D9) := ⟨_, hide rfl⟩
        rw [HL9.out, HD9.out] at HMK
        have KMK : Hid (Calls Tryd.prog 14 #[.pointer (some ⟨X.q, 0, none⟩), .int .u64 0, .int .u64 (pl : Int)] w8 (LPost w1 w8 X6 (.int .i64 0) D9 L9)) := hide (by
          have r1 := HR7.out.mir.rg
          have k := mark_any HL8.out r1.ok r1.bd (by rw [r1.pen]; decide) (by have := HR7.out.ops; have := HI8.out; omega) 0 pl (by decide) (by have := HPF.out; omega) (by have := r1.st; have := r1.sure; have := r1.big; omega) (by rw [r1.end_]; exact r1.sure) (HT.out.ext HX1.out)
          rw [HMK.out.1, HL9.out, HD9.out, HQ7.out] at k
          exact k)
        have c0 := HM8.out.cells.1
        have hne8 : plc pl rs8 ≠ [] := by
          intro e
          have h1 := plc_len rs8 pl
          rw [e] at h1
          have h2 : (a :: rs8).length = 3 := HNLE.out.symm
          have h3 : rs8.length = 0 := h1.symm
          rw [List.length_cons, h3] at h2
          omega
        have HAT : Hid (∀ W, MdAt W w1.heap.size gm (.slice (some ⟨g7, o7 + 2, none⟩) 2 (e7 - 1)) { M7 with l := plc pl rs8 } → W.cell? ⟨g7, o7 + 2, none⟩ = some (.int .u64 (pl : Int))) := hide (fun W hW => by
          obtain ⟨g8, o8, e8, hv9, -, hc8⟩ := hW.recs.at hne8
          injection hv9 with q1 q2 q3
          injection q1 with q1
          injection q1 with q4 q5
          subst q4 q5
          cases rs8 with
          | nil => exact absurd rfl hne8
          | cons b rs9 =>
            have h1 := (hc8 0 (pl, b) rfl).1
            rw [Nat.zero_mul, Nat.add_zero] at h1
            exact h1)
        have cp := HAT.out w8 HM8.out
        have he7 : (2 : Nat) ≤ e7 - 1 := by omega
        clear hcut f0 hcc hcc1 hcc2 hv8 hg2 hcell7 hne8
        go_upto_region 21 with (go_at_call 14; (with_reducible refine KMK.out.mono ?_); rintro e w9 ⟨X9, rfl, hl9, hf9, hn9⟩; have HL9W := hide hl9; have HM9 : Hid (MdAt w9 w1.heap.size gm (.slice (some ⟨g7, o7 + 2, none⟩) 2 (e7 - 1)) { M7 with l := plc pl rs8 }) := hide (HM8.out.lfr HL8.out hf9); have HQG9 : Hid (X9.q = X.q ∧ X9.g = X6.g) := hide ⟨hn9.q.trans HQ7.out, hn9.g⟩; clear hl9 hf9 hn9 c0 cp)
        have c0 := HM9.out.cells.1
        have cp := HAT.out w9 HM9.out
        have f3 := HM9.out.blk.frozen 3
        have c3 := HM9.out.cells.2.2.2.1
        have HW9 : Hid (MdAt (w9.setCell ⟨gm, 3, none⟩ (.int .u64 (pl : Int))) w1.heap.size gm (.slice (some ⟨g7, o7 + 2, none⟩) 2 (e7 - 1)) (markM M7 (plc pl rs8) pl)) := hide (HM9.out.put 3 _ _ rfl rfl)
        have HV9 : Hid (LgAt w1 (w9.setCell ⟨gm, 3, none⟩ (.int .u64 (pl : Int))) X9 D9 L9) := hide (HL9W.out.mfr HM9.out (Mfr.cell 3 _))
        go_upto_region 22 with fail
        obtain ⟨wz, hwz⟩ : ∃ wz, w9.setCell ⟨gm, 3, none⟩ (.int .u64 (pl : Int)) = wz := ⟨_, rfl⟩
        rw [hwz] at HW9 HV9 ⊢
        obtain ⟨Mz, HMZ⟩ : ∃ Mz, Hid (markM M7 (plc pl rs8) pl = Mz) := ⟨_, hide rfl⟩
        obtain ⟨vz, HVZ⟩ : ∃ vz, Hid (Value.slice (some ⟨g7, o7 + 2, none⟩) 2 (e7 - 1) = vz) := ⟨_, hide rfl⟩
        have HR9 : Hid (Rl w1 wz gm dg c X9 D9 L9 H9 Mz vz rs8 (10 + 20 * i + 14) (482 + 403 * i + 402)) := hide (by
          obtain ⟨o1, o2, o3, o4, o5, o6, o7, o8, o9⟩ := HMK.out
          have r := HR7.out
          have h1 := r.ops
          rw [← HMZ.out, ← HVZ.out]
          exact ⟨HV9.out, HW9.out, o2, fun q hq => r.small q (by simp [hq]), by rw [o3]; exact r.su, by rw [o7]; exact r.at1, by rw [o4]; exact r.cn, o5, by omega, r.len, by rw [o6]; exact r.epo, by rw [o9]; exact r.dur, by rw [HQG9.out.2]; exact r.g⟩)
        have HQ9 : Hid (X9.q = X.q) := hide HQG9.out.1
        have HRL9 : Hid (rs8.length ≤ 2) := hide (by
          have h2 : (a :: rs8).length = 3 := HNLE.out.symm
          rw [List.length_cons] at h2
          omega)
        clear hwz c0 cp f3 c3 he7 HMZ HVZ HV9 HW9 HM9 HL9W HQG9 HM8 HL8
        clear HR7 HL9 HD9 HMK KMK HAT HD1
        have HEK : Hid (i % (1 + ev % 9) = i % (1 + ev % 9)) := hide rfl
        obtain ⟨kk, HKK⟩ : ∃ kk, Hid (1 + ev % 9 = kk) := ⟨_, hide rfl⟩
        have hk1 : (1 : Int) + (ev : Int) % 9 = (kk : Int) := by have := HKK.out; omega
        have hk0 : IntKind.i64.wrap (ev : Int) = (ev : Int) := by rw [IntKind.wrap_i64]; have := HEV.out; omega
        have hk2 : IntKind.i64.wrap (kk : Int) = (kk : Int) := by rw [IntKind.wrap_i64]; have := HKK.out; omega
        have hk3 : ¬ (kk : Int) = 0 := by have := HKK.out; omega
        have hk4 : ((kk : Int) == 0) = false := by simpa using hk3
        have hk5 : IntKind.i64.wrap ((i : Int) % (kk : Int)) = (i : Int) % (kk : Int) := by
          have h1 := Int.emod_nonneg (i : Int) hk3
          have h2 := Int.emod_lt_of_pos (i : Int) (show 0 < (kk : Int) by have := HKK.out; omega)
          rw [IntKind.wrap_i64]
          have := HKK.out
          omega
        have hi1 : IntKind.i64.wrap ((i : Int) + 1) = ((i + 1 : Nat) : Int) := by rw [IntKind.wrap_i64]; have := HI.out; omega
        obtain ⟨i1, HI1⟩ : ∃ i1, Hid (i + 1 = i1) := ⟨_, hide rfl⟩
        rw [HI1.out] at hi1
        have hki0 : (0 : Int) ≤ (i : Int) := by omega
        by_cases hev : (i : Int) % (kk : Int) = 0
        · have hev2 : ((i : Int) % (kk : Int) == 0) = true := by simpa using hev
          have HOPN := hide (HR9.out.mir.opened HR9.out.su (by have := HR9.out.ops; have := HI.out; omega) (by have := HR9.out.epo; have := HI.out; omega))
          have hat1 := HR9.out.at1
          have hcn1 := HR9.out.cn
          rw [hat1, hcn1] at HOPN
          obtain ⟨D11, HD11⟩ : ∃ D11, Hid (opD D9 ((1 : Nat) : Int) (c : Int) = D11) := ⟨_, hide rfl⟩
          obtain ⟨L11, HL11⟩ : ∃ L11, Hid (opL D9 ((1 : Nat) : Int) = L11) := ⟨_, hide rfl⟩
          rw [HD11.out, HL11.out] at HOPN
          have KRS : Hid (Calls Tryd.prog 16 #[.pointer (some ⟨dg, 0, none⟩), .slice none 0 0] wz (LPost w1 wz X9 (.int .i64 0) D9 L9)) := hide (by
            have k := restart_any (ck := 0) (P := none) HR9.out.log.disk HR9.out.mir.rg.bd.ok (by rw [HR9.out.mir.rg.pen]; decide) HR9.out.log.ext.size [] (fun W hW hn => absurd rfl hn)
            rw [HOPN.out.1, HR9.out.g] at k
            refine k.mono fun e w' hh => ?_
            rw [← HR9.out.g] at hh
            exact LPost.of_disk HR9.out.log hh)
          have KOP : Hid (∀ W X', LgAt w1 W X' D9 L9 → X'.g = dg → Calls Tryd.prog 17 #[.pointer (some ⟨dg, 0, none⟩), .int .i64 1, .int .i64 (c : Int)] W (fun e w' => ∃ X'', e = .returned (.tuple #[.pointer (some ⟨X''.q, 0, none⟩), .int .i64 0]) ∧ LgAt w1 w' X'' D11 L11 ∧ X''.g = dg ∧ Dfr X'.g X'.gd X'.gn X'.A W w')) := hide (fun W X' h1 h2 => by
            have rg := HR9.out.mir.rg
            have hh := rg.rhE
            rw [hat1] at hh
            have hb1 := rg.st
            have hb2 := rg.sure
            have hb3 := rg.big
            have k := open_any h1.ext h1.disk rg.bd (by rw [rg.pen]; decide) (by have := HR9.out.ops; have := HI.out; omega) (HT.out.ext HX1.out) ((1 : Nat) : Int) (c : Int) (by decide) (by have := HCB.out; omega) (by rw [hh.2]; omega) (by rw [hh.2]; omega)
            rw [HOPN.out.2.1, HD11.out, HL11.out, h2] at k
            refine k.mono fun e w' hp => ?_
            obtain ⟨X'', e1, e2, e3, e4, e5, e6, -⟩ := hp.1 rfl
            rw [← h2] at e6
            exact ⟨X'', e1, e2, e3, e6⟩)
          clear hat1 hcn1
          go_upto_region 28 with (first
            | (go_at_call 16; (with_reducible refine KRS.out.mono ?_); rintro e w10 ⟨X10, rfl, hl10, hf10, hn10⟩; have HL10 := hide hl10; have HM10 : Hid (MdAt w10 w1.heap.size gm vz Mz) := hide (HR9.out.mod.lfr HR9.out.log hf10); have HG10 : Hid (X10.g = dg) := hide (hn10.g.trans HR9.out.g); clear hl10 hf10 hn10)
            | (go_at_call 17; (with_reducible refine (KOP.out w10 X10 HL10.out HG10.out).mono ?_); rintro e w11 ⟨X11, rfl, hl11, hg11, hf11⟩; have HL11A := hide hl11; have HM11 : Hid (MdAt w11 w1.heap.size gm vz Mz) := hide (HM10.out.dfr HL10.out rfl rfl rfl rfl hf11); have HG11 := hide hg11; clear hl11 hf11 hg11))
          have HR11 : Hid (Rl w1 w11 gm dg c X11 D11 L11 H9 Mz vz rs8 (10 + 20 * i1) (482 + 403 * i1)) := hide (by
            obtain ⟨o1, o2, o3, o4, o5, o6, o7, o8, o9, o10⟩ := HOPN.out
            have h1 := HR9.out.ops
            have h2 := HR9.out.len
            have h3 := HR9.out.epo
            have h4 := HI1.out
            have h5 := HR9.out.su
            have h6 := HR9.out.cn
            have h7 := HR9.out.ck
            have h8 := HR9.out.dur
            exact ⟨HL11A.out, HM11.out, o3, HR9.out.small, by rw [o4]; exact h5, o5, o6, by rw [o7]; exact h7, by omega, by omega, by omega, by rw [o10]; exact h8, HG11.out⟩)
          have KSM := hide (same_any HR11.out.log HR11.out.mod HR11.out.mir)
          have KAL : Hid (∀ W, Ext w11 W → Calls Tryd.prog 33 #[.pointer (some ⟨gm, 0, none⟩), .pointer (some ⟨X11.q, 0, none⟩)] W (fun e w' => e = .returned (.bool true) ∧ Ext W w')) := hide (fun W hW => all_any (HR11.out.log.ext_ hW) (HR11.out.mod.ext hW) HR11.out.mir (HT.out.ext HX1.out))
          go_wp2_with (first
            | (go_at_call 32; (with_reducible refine KSM.out.mono ?_); rintro e w12 ⟨rfl, m12, hw12⟩; have HX12 : Hid (Ext w11 w12) := hide (by rw [hw12]; exact (Ext.refl _).drewN _); clear hw12)
            | (go_at_call 33; (with_reducible refine (KAL.out w12 HX12.out).mono ?_); rintro e w13 ⟨rfl, hx13⟩; have HX13 : Hid (Ext w11 w13) := hide (HX12.out.trans hx13); clear hx13))
          refine ⟨⟨i1, X11, D11, L11, H9, Mz, vz, rs8, rfl, rfl, hide (by have := HI1.out; have := HI8.out; omega), HRL9, hide ?_⟩, ?_⟩
          · have r := HR11.out
            exact ⟨r.log.ext_ HX13.out, r.mod.ext HX13.out, r.mir, r.small, r.su, r.at1, r.cn, r.ck, r.ops, r.len, r.epo, r.dur, r.g⟩
          · show 80 - ((i1 : Nat) : Int).toNat < 80 - ((i : Nat) : Int).toNat
            have := HI1.out
            have := HI8.out
            omega
        · have hev2 : ((i : Int) % (kk : Int) == 0) = false := by simpa using hev
          go_upto_region 28 with fail
          have HR11 : Hid (Rl w1 wz gm dg c X9 D9 L9 H9 Mz vz rs8 (10 + 20 * i1) (482 + 403 * i1)) := hide (by
            have r := HR9.out
            have h1 := r.ops
            have h2 := r.len
            have h3 := r.epo
            have h4 := HI1.out
            exact ⟨r.log, r.mod, r.mir, r.small, r.su, r.at1, r.cn, r.ck, by omega, by omega, by omega, r.dur, r.g⟩)
          have KSM := hide (same_any HR11.out.log HR11.out.mod HR11.out.mir)
          have KAL : Hid (∀ W, Ext wz W → Calls Tryd.prog 33 #[.pointer (some ⟨gm, 0, none⟩), .pointer (some ⟨X9.q, 0, none⟩)] W (fun e w' => e = .returned (.bool true) ∧ Ext W w')) := hide (fun W hW => all_any (HR11.out.log.ext_ hW) (HR11.out.mod.ext hW) HR11.out.mir (HT.out.ext HX1.out))
          rw [HQ9.out] at KSM KAL
          go_wp2_with (first
            | (go_at_call 32; (with_reducible refine KSM.out.mono ?_); rintro e w12 ⟨rfl, m12, hw12⟩; have HX12 : Hid (Ext wz w12) := hide (by rw [hw12]; exact (Ext.refl _).drewN _); clear hw12)
            | (go_at_call 33; (with_reducible refine (KAL.out w12 HX12.out).mono ?_); rintro e w13 ⟨rfl, hx13⟩; have HX13 : Hid (Ext wz w13) := hide (HX12.out.trans hx13); clear hx13))
          refine ⟨⟨i1, X9, D9, L9, H9, Mz, vz, rs8, by rw [HQ9.out], rfl, hide (by have := HI1.out; have := HI8.out; omega), HRL9, hide ?_⟩, ?_⟩
          · have r := HR11.out
            exact ⟨r.log.ext_ HX13.out, r.mod.ext HX13.out, r.mir, r.small, r.su, r.at1, r.cn, r.ck, r.ops, r.len, r.epo, r.dur, r.g⟩
          · show 80 - ((i1 : Nat) : Int).toNat < 80 - ((i : Nat) : Int).toNat
            have := HI1.out
            have := HI8.out
            omega
      · have hmi : ¬ (2 : Int) < (nl : Int) := by omega
        have HRL9 : Hid (rs7.length ≤ 2) := hide (by have := HNLE.out; omega)
        have HR9 : Hid (Rl w1 w7 gm dg c X6 D2 L2 H9 M7 vl5 rs7 (10 + 20 * i + 14) (482 + 403 * i + 402)) := hide (by
          have r := HR7.out
          have h1 := r.ops
          exact ⟨r.log, r.mod, r.mir, r.small, r.su, r.at1, r.cn, r.ck, by omega, r.len, r.epo, r.dur, r.g⟩)
        have HQ9 := HQ7
        clear hmany hv7
        go_upto_region 22 with fail
        clear c0 hmi
        clear HR7
        have HEK : Hid (i % (1 + ev % 9) = i % (1 + ev % 9)) := hide rfl
        obtain ⟨kk, HKK⟩ : ∃ kk, Hid (1 + ev % 9 = kk) := ⟨_, hide rfl⟩
        have hk1 : (1 : Int) + (ev : Int) % 9 = (kk : Int) := by have := HKK.out; omega
        have hk0 : IntKind.i64.wrap (ev : Int) = (ev : Int) := by rw [IntKind.wrap_i64]; have := HEV.out; omega
        have hk2 : IntKind.i64.wrap (kk : Int) = (kk : Int) := by rw [IntKind.wrap_i64]; have := HKK.out; omega
        have hk3 : ¬ (kk : Int) = 0 := by have := HKK.out; omega
        have hk4 : ((kk : Int) == 0) = false := by simpa using hk3
        have hk5 : IntKind.i64.wrap ((i : Int) % (kk : Int)) = (i : Int) % (kk : Int) := by
          have h1 := Int.emod_nonneg (i : Int) hk3
          have h2 := Int.emod_lt_of_pos (i : Int) (show 0 < (kk : Int) by have := HKK.out; omega)
          rw [IntKind.wrap_i64]
          have := HKK.out
          omega
        have hi1 : IntKind.i64.wrap ((i : Int) + 1) = ((i + 1 : Nat) : Int) := by rw [IntKind.wrap_i64]; have := HI.out; omega
        obtain ⟨i1, HI1⟩ : ∃ i1, Hid (i + 1 = i1) := ⟨_, hide rfl⟩
        rw [HI1.out] at hi1
        have hki0 : (0 : Int) ≤ (i : Int) := by omega
        by_cases hev : (i : Int) % (kk : Int) = 0
        · have hev2 : ((i : Int) % (kk : Int) == 0) = true := by simpa using hev
          have HOPN := hide (HR9.out.mir.opened HR9.out.su (by have := HR9.out.ops; have := HI.out; omega) (by have := HR9.out.epo; have := HI.out; omega))
          have hat1 := HR9.out.at1
          have hcn1 := HR9.out.cn
          rw [hat1, hcn1] at HOPN
          obtain ⟨D11, HD11⟩ : ∃ D11, Hid (opD D2 ((1 : Nat) : Int) (c : Int) = D11) := ⟨_, hide rfl⟩
          obtain ⟨L11, HL11⟩ : ∃ L11, Hid (opL D2 ((1 : Nat) : Int) = L11) := ⟨_, hide rfl⟩
          rw [HD11.out, HL11.out] at HOPN
          have KRS : Hid (Calls Tryd.prog 16 #[.pointer (some ⟨dg, 0, none⟩), .slice none 0 0] w7 (LPost w1 w7 X6 (.int .i64 0) D2 L2)) := hide (by
            have k := restart_any (ck := 0) (P := none) HR9.out.log.disk HR9.out.mir.rg.bd.ok (by rw [HR9.out.mir.rg.pen]; decide) HR9.out.log.ext.size [] (fun W hW hn => absurd rfl hn)
            rw [HOPN.out.1, HR9.out.g] at k
            refine k.mono fun e w' hh => ?_
            rw [← HR9.out.g] at hh
            exact LPost.of_disk HR9.out.log hh)
          have KOP : Hid (∀ W X', LgAt w1 W X' D2 L2 → X'.g = dg → Calls Tryd.prog 17 #[.pointer (some ⟨dg, 0, none⟩), .int .i64 1, .int .i64 (c : Int)] W (fun e w' => ∃ X'', e = .returned (.tuple #[.pointer (some ⟨X''.q, 0, none⟩), .int .i64 0]) ∧ LgAt w1 w' X'' D11 L11 ∧ X''.g = dg ∧ Dfr X'.g X'.gd X'.gn X'.A W w')) := hide (fun W X' h1 h2 => by
            have rg := HR9.out.mir.rg
            have hh := rg.rhE
            rw [hat1] at hh
            have hb1 := rg.st
            have hb2 := rg.sure
            have hb3 := rg.big
            have k := open_any h1.ext h1.disk rg.bd (by rw [rg.pen]; decide) (by have := HR9.out.ops; have := HI.out; omega) (HT.out.ext HX1.out) ((1 : Nat) : Int) (c : Int) (by decide) (by have := HCB.out; omega) (by rw [hh.2]; omega) (by rw [hh.2]; omega)
            rw [HOPN.out.2.1, HD11.out, HL11.out, h2] at k
            refine k.mono fun e w' hp => ?_
            obtain ⟨X'', e1, e2, e3, e4, e5, e6, -⟩ := hp.1 rfl
            rw [← h2] at e6
            exact ⟨X'', e1, e2, e3, e6⟩)
          clear hat1 hcn1
          go_upto_region 28 with (first
            | (go_at_call 16; (with_reducible refine KRS.out.mono ?_); rintro e w10 ⟨X10, rfl, hl10, hf10, hn10⟩; have HL10 := hide hl10; have HM10 : Hid (MdAt w10 w1.heap.size gm vl5 M7) := hide (HR9.out.mod.lfr HR9.out.log hf10); have HG10 : Hid (X10.g = dg) := hide (hn10.g.trans HR9.out.g); clear hl10 hf10 hn10)
            | (go_at_call 17; (with_reducible refine (KOP.out w10 X10 HL10.out HG10.out).mono ?_); rintro e w11 ⟨X11, rfl, hl11, hg11, hf11⟩; have HL11A := hide hl11; have HM11 : Hid (MdAt w11 w1.heap.size gm vl5 M7) := hide (HM10.out.dfr HL10.out rfl rfl rfl rfl hf11); have HG11 := hide hg11; clear hl11 hf11 hg11))
          have HR11 : Hid (Rl w1 w11 gm dg c X11 D11 L11 H9 M7 vl5 rs7 (10 + 20 * i1) (482 + 403 * i1)) := hide (by
            obtain ⟨o1, o2, o3, o4, o5, o6, o7, o8, o9, o10⟩ := HOPN.out
            have h1 := HR9.out.ops
            have h2 := HR9.out.len
            have h3 := HR9.out.epo
            have h4 := HI1.out
            have h5 := HR9.out.su
            have h6 := HR9.out.cn
            have h7 := HR9.out.ck
            have h8 := HR9.out.dur
            exact ⟨HL11A.out, HM11.out, o3, HR9.out.small, by rw [o4]; exact h5, o5, o6, by rw [o7]; exact h7, by omega, by omega, by omega, by rw [o10]; exact h8, HG11.out⟩)
          have KSM := hide (same_any HR11.out.log HR11.out.mod HR11.out.mir)
          have KAL : Hid (∀ W, Ext w11 W → Calls Tryd.prog 33 #[.pointer (some ⟨gm, 0, none⟩), .pointer (some ⟨X11.q, 0, none⟩)] W (fun e w' => e = .returned (.bool true) ∧ Ext W w')) := hide (fun W hW => all_any (HR11.out.log.ext_ hW) (HR11.out.mod.ext hW) HR11.out.mir (HT.out.ext HX1.out))
          go_wp2_with (first
            | (go_at_call 32; (with_reducible refine KSM.out.mono ?_); rintro e w12 ⟨rfl, m12, hw12⟩; have HX12 : Hid (Ext w11 w12) := hide (by rw [hw12]; exact (Ext.refl _).drewN _); clear hw12)
            | (go_at_call 33; (with_reducible refine (KAL.out w12 HX12.out).mono ?_); rintro e w13 ⟨rfl, hx13⟩; have HX13 : Hid (Ext w11 w13) := hide (HX12.out.trans hx13); clear hx13))
          refine ⟨⟨i1, X11, D11, L11, H9, M7, vl5, rs7, rfl, rfl, hide (by have := HI1.out; have := HI8.out; omega), HRL9, hide ?_⟩, ?_⟩
          · have r := HR11.out
            exact ⟨r.log.ext_ HX13.out, r.mod.ext HX13.out, r.mir, r.small, r.su, r.at1, r.cn, r.ck, r.ops, r.len, r.epo, r.dur, r.g⟩
          · show 80 - ((i1 : Nat) : Int).toNat < 80 - ((i : Nat) : Int).toNat
            have := HI1.out
            have := HI8.out
            omega
        · have hev2 : ((i : Int) % (kk : Int) == 0) = false := by simpa using hev
          go_upto_region 28 with fail
          have HR11 : Hid (Rl w1 w7 gm dg c X6 D2 L2 H9 M7 vl5 rs7 (10 + 20 * i1) (482 + 403 * i1)) := hide (by
            have r := HR9.out
            have h1 := r.ops
            have h2 := r.len
            have h3 := r.epo
            have h4 := HI1.out
            exact ⟨r.log, r.mod, r.mir, r.small, r.su, r.at1, r.cn, r.ck, by omega, by omega, by omega, r.dur, r.g⟩)
          have KSM := hide (same_any HR11.out.log HR11.out.mod HR11.out.mir)
          have KAL : Hid (∀ W, Ext w7 W → Calls Tryd.prog 33 #[.pointer (some ⟨gm, 0, none⟩), .pointer (some ⟨X6.q, 0, none⟩)] W (fun e w' => e = .returned (.bool true) ∧ Ext W w')) := hide (fun W hW => all_any (HR11.out.log.ext_ hW) (HR11.out.mod.ext hW) HR11.out.mir (HT.out.ext HX1.out))
          rw [HQ9.out] at KSM KAL
          go_wp2_with (first
            | (go_at_call 32; (with_reducible refine KSM.out.mono ?_); rintro e w12 ⟨rfl, m12, hw12⟩; have HX12 : Hid (Ext w7 w12) := hide (by rw [hw12]; exact (Ext.refl _).drewN _); clear hw12)
            | (go_at_call 33; (with_reducible refine (KAL.out w12 HX12.out).mono ?_); rintro e w13 ⟨rfl, hx13⟩; have HX13 : Hid (Ext w7 w13) := hide (HX12.out.trans hx13); clear hx13))
          refine ⟨⟨i1, X6, D2, L2, H9, M7, vl5, rs7, by rw [HQ9.out], rfl, hide (by have := HI1.out; have := HI8.out; omega), HRL9, hide ?_⟩, ?_⟩
          · have r := HR11.out
            exact ⟨r.log.ext_ HX13.out, r.mod.ext HX13.out, r.mir, r.small, r.su, r.at1, r.cn, r.ck, r.ops, r.len, r.epo, r.dur, r.g⟩
          · show 80 - ((i1 : Nat) : Int).toNat < 80 - ((i : Nat) : Int).toNat
            have := HI1.out
            have := HI8.out
            omega
    · have hex : ¬ ((i : Int) < (n : Int)) ∨ ¬ ((i : Int) < 80) := by omega
      by_cases h1 : i < n
      · have h1i : (i : Int) < (n : Int) := by omega
        have h2i : ¬ (i : Int) < 80 := by omega
        clear hgo hex
        go_wp2
        go_ret
        exact Ret.mk HXR.out rfl
      · have h1i : ¬ (i : Int) < (n : Int) := by omega
        clear hgo hex
        go_wp2
        go_ret
        exact Ret.mk HXR.out rfl
end
end Go.Proofs.YtdifpbicdicggaaDoor
namespace Go.Proofs.YtdifpbicdicggaaDoor
open Go.ChangeShapes Go.WideShapes Go.ChangeAt Go.RowKit

set_option maxRecDepth 100000 in
theorem open_u16s {H : Type} {enc : TypeId × Value → H} {W : World} {base : Nat} {v : Value} {d : DataW H} {ps : List MemPlace} (hval : Value.okWide Tryd.prog W .any base 59 v)
    (h : DataW.Trod enc Tryd.prog W 0 (fun _ => true) true 59 v d ps) :
    ∃ A c l, v = .slice A l.length c ∧ RdU W A l ∧ (∀ x ∈ l, x < 65536) ∧ ((d = .nil ∧ l = []) ∨ ∃ elems spare, d = .slice elems spare ∧ elems.length = l.length ∧ elems.length + spare.length = c) := by
  obtain ⟨a0, len, cap, rfl⟩ := okWide_slice Tryd.underlying59 hval
  obtain ⟨n, hn⟩ := h
  rcases open_ints Tryd.underlying59 Tryd.underlying60 (by kernel_rfl) hn with ⟨hc, hx⟩ | ⟨a, len', cap', zs, hc, _, hlc, _, hz, hx, hcell, hwf⟩
  · simp [Value.cells] at hc
    obtain ⟨rfl, rfl, rfl⟩ := hc
    simp only [Prod.mk.injEq] at hx
    exact ⟨none, 0, [], rfl, (fun h => absurd rfl h), (fun x h => by cases h), .inl ⟨hx.1, rfl⟩⟩
  · simp [Value.cells] at hc
    obtain ⟨rfl, rfl, rfl⟩ := hc
    simp only [Prod.mk.injEq] at hx
    simp only [if_true] at hz
    have hlen : ((zs.take len).map Int.toNat).length = len := by simp; omega
    refine ⟨some a, cap, (zs.take len).map Int.toNat, by rw [hlen], fun hn0 => ?_, fun x hx => ?_, .inr ⟨_, _, hx.1, ?_, ?_⟩⟩
    · have hp : 0 < zs.length := by
        have : len ≠ 0 := by intro e; apply hn0; apply List.length_eq_zero_iff.1; rw [hlen, e]
        omega
      obtain ⟨b, off, rfl, hcl⟩ := ints_at hcell hp
      refine ⟨b, off, rfl, fun j u hu => ?_⟩
      have hj : j < len := by
        rcases Nat.lt_or_ge j len with h' | h'
        · exact h'
        · rw [List.getElem?_eq_none (by rw [hlen]; exact h')] at hu; cases hu
      rw [hcl j (by omega)]
      rw [List.getElem?_map, List.getElem?_take_of_lt hj, List.getElem?_eq_getElem (by omega)] at hu
      have hu' : zs[j].toNat = u := by simpa using hu
      have hw := bounds_u16 (hwf zs[j] (List.getElem_mem _))
      rw [← hu', Int.toNat_of_nonneg hw.1, List.getD_eq_getElem?_getD, List.getElem?_eq_getElem (by omega)]
      rfl
    · obtain ⟨z, hz2, rfl⟩ := List.mem_map.1 hx
      have hw := bounds_u16 (hwf z (List.mem_of_mem_take hz2))
      omega
    · rw [hlen]; simp [lits]; omega
    · simp [lits]; omega
theorem reach_u16s {H : Type} {P : Program} {ts : List TypeId} {ds : List (DataW H)} {t e : TypeId} {j : Nat} {l : List Nat} {c : Nat} {d : DataW H} (hz : (DataW.weightsEach P ts ds).all (· ≤ reachBytes) = true) (ht : ts[j]? = some t) (hd : ds[j]? = some d)
    (hu : P.underlying t = some (.slice e)) (he : P.bytesOf e = 2) (h : (d = .nil ∧ l = []) ∨ ∃ elems spare, d = .slice elems spare ∧ elems.length = l.length ∧ elems.length + spare.length = c) : l.length ≤ 140737488355328 := by
  rcases h with ⟨_, rfl⟩ | ⟨elems, spare, rfl, hl, hc⟩
  · simp
  · have := sized_slice hz ht hd hu
    rw [he] at this
    unfold reachBytes at this
    omega
theorem rings_int {w : World} (a b : Int) (A : Option Addr) (l : List Nat) (c : Nat) (hT : Tab w) (h1 : 0 ≤ a ∧ a ≤ 255) (h2 : 0 ≤ b ∧ b ≤ 255) (hr : RdU w A l) (hl : l.length ≤ 140737488355328) (hu : ∀ v ∈ l, v < 65536) :
    Calls Tryd.prog 5 #[.int .u8 a, .slice A l.length c, .int .u8 b] w (Ret w (Is (.bool true))) := by
  obtain ⟨x, rfl⟩ : ∃ x : Nat, a = (x : Int) := ⟨a.toNat, by omega⟩
  obtain ⟨y, rfl⟩ : ∃ y : Nat, b = (y : Int) := ⟨b.toNat, by omega⟩
  exact logRings_walk x y A l l.length c (by omega) (by omega) hr rfl hl hu hT
end Go.Proofs.YtdifpbicdicggaaDoor
namespace Go.Proofs.YtdifpbicdicggaaDoor.lawLogRings
open Go.ChangeShapes Go.WideShapes Go.ChangeAt Go.RowKit
open Go.ChangeMaps (open_string)

set_option maxRecDepth 100000 in
theorem contract (H : Type) (enc : TypeId × Value → H) (W : World) (base : Nat) (args : Array Value) (ds gs : List (DataW H)) (before : List MemPlace)
    (hval : ∀ (j : Nat) t v, Tryd.f5.params[j]? = some t → args[j]? = some v → Value.okWide Tryd.prog W .any base t v)
    (hW : DataW.Whole enc Tryd.prog Tryd.f5.params.toList Rows.logRingsSpec.vars false W args.toList ds gs before) (hz : (DataW.weightsEach Tryd.prog (Tryd.f5.params.toList ++ (OpenSpec.ofChange Rows.logRingsSpec).bare.plain.varTypes Tryd.prog) (ds ++ gs)).all (· ≤ reachBytes) = true) (hL : laidMetH Tryd.prog Rows.logRingsRow.laid W) :
    Calls Tryd.prog 5 args W fun e W' => ∃ v, e = .returned v ∧ Rows.logRingsSpec.post enc Tryd.prog Tryd.f5 false true false false W args v W' := by
  have hW' := hW
  obtain ⟨p, q, hA0, hV, hbe, hfz, hnd⟩ := hW
  have hA : DataW.TrodAll enc Tryd.prog W 0 (fun _ => true) true Tryd.f5.params.toList args.toList ds p := hA0
  obtain ⟨rfl, rfl⟩ := trodVars_none hV
  rw [Tryd.params5] at hA hval
  obtain ⟨v0, vs0, d0, ds0, p0, q0, hg0, hd0, hp0, h0, r0⟩ := trodAll_cons hA
  obtain ⟨v1, vs1, d1, ds1, p1, q1, hg1, hd1, hp1, h1, r1⟩ := trodAll_cons r0
  obtain ⟨v2, vs2, d2, ds2, p2, q2, hg2, hd2, hp2, h2, r2⟩ := trodAll_cons r1
  obtain ⟨e1, e2, e3⟩ := trodAll_nil r2
  have hds : ds = [d0, d1, d2] := by simp [hd0, hd1, hd2, e2]
  obtain rfl : args = #[v0, v1, v2] := by
    have : args.toList = [v0, v1, v2] := by simp [hg0, hg1, hg2, e1]
    exact Array.toList_inj.1 this
  subst hds
  obtain ⟨n0, rfl, hd0, -, wf0⟩ := open_int Tryd.underlying5 (hval 0 5 v0 rfl rfl) h0
  have hb0 := bounds_u8 wf0
  obtain ⟨A1, c1, l1, rfl, hr1, hy1, hd1⟩ := open_u16s (hval 1 59 v1 rfl rfl) h1
  have hb1 := reach_u16s hz (j := 1) rfl rfl Tryd.underlying59 (by kernel_rfl) hd1
  obtain ⟨n2, rfl, hd2, -, wf2⟩ := open_int Tryd.underlying5 (hval 2 5 v2 rfl rfl) h2
  have hb2 := bounds_u8 wf2
  have ht := tab_of_laid hL
  refine (rings_int n0 n2 A1 l1 c1 ht hb0 hb2 hr1 hb1 hy1).mono fun e W' ⟨v, he, hx, hv⟩ => ?_
  subst he
  have hv' : v = .bool true := hv
  subst hv'
  exact ⟨_, rfl, law_post laidOut hW' rfl (by rw [Tryd.params5]; exact readable_all _ (by kernel_rfl)) (by kernel_rfl) Tryd.underlying4 rfl hx⟩

theorem laid_met (os : Os) : laidMet Tryd.prog Rows.logRingsRow.laid ((laidWorld os).forCall (fun _ _ => 0) ⟨#[], #[Value.int .u8 0, Value.slice none 0 0, Value.int .u8 0], []⟩).memory :=
  laidMet_of_run' 8 (by kernel_rfl) (by kernel_rfl)
theorem reads (os : Os) {H : Type} (enc : TypeId × Value → H) : ∃ places, DataW.whole enc Tryd.prog ((laidWorld os).forCall (fun _ _ => 0) ⟨#[], #[Value.int .u8 0, Value.slice none 0 0, Value.int .u8 0], []⟩).memory Tryd.f5.params.toList Rows.logRingsSpec.vars false (#[Value.int .u8 0, Value.slice none 0 0, Value.int .u8 0]).toList 8 = some ([.lit (.int .u8 0), .nil, .lit (.int .u8 0)], [], places) :=
  ⟨[], by kernel_rfl⟩

set_option maxRecDepth 100000 in
theorem lifted (os : Os) (started : os.Started) (H : Type) (enc : TypeId × Value → H) (F : Stop.Interp) :
    ReturnsInHanded {} Tryd.checked os 5 .any ((OpenSpec.ofChange Rows.logRingsSpec).preRow enc Tryd.prog Tryd.f5 Rows.logRingsRow.domain false Rows.logRingsRow.laid) (((OpenSpec.ofChange Rows.logRingsSpec).at F).post enc Tryd.prog Tryd.f5 false true false false) := by
  obtain ⟨places, hx⟩ := reads os enc
  refine returnsInHanded_of_row (C := Tryd.checked) (s := (OpenSpec.ofChange Rows.logRingsSpec)) own started (by kernel_rfl) Tryd.func5
    (witness_row_at (enc := enc) (C := Tryd.checked) false (laidWorld os) #[Value.int .u8 0, Value.slice none 0 0, Value.int .u8 0] rfl (by kernel_rfl) (by kernel_rfl) (by kernel_rfl)
      (OpenSpec.preRow_of_cond 8 hx (by kernel_rfl) (fun k hk => by cases hk) (by kernel_rfl) (laid_met os))) ?_
  intro W base args ds gs before hval hW _ hcond hz hL _ _
  exact contract H enc W base args ds gs before hval hW hz hL

theorem said : Rows.LogRingsSaid :=
  OpenClaim.holds_of_cond 5 Tryd.f5 rfl rfl rfl rfl rfl rfl rfl ⟨rfl, rfl, rfl, rfl, rfl⟩ rfl rfl rfl rfl rfl (by kernel_rfl) Tryd.func5 (by kernel_rfl)
    (of_decide_eq_true (by kernel_rfl)) (by unfold Func.isWrapper; first | (rw [if_pos (by decide +kernel)]; kernel_rfl) | (rw [if_neg (by decide +kernel)]; exact ⟨rfl, rfl⟩))
    (fun os started H enc _ F => by rw [OpenClaim.pre_eq_preRow]; exact lifted os started H enc F)

theorem plain (f : FuncId) (fn : Func) (hf : Tryd.pinned.checked.prog.funcNamed "muniment/munimentlaw09.LogRings" = some f) (hfn : Tryd.pinned.checked.prog.funcs[f]? = some fn) :
    Rows.logRingsCard.stood.looks = Tryd.pinned.checked.prog.looks [] ∧ ∀ (j : Nat) t, fn.params[j]? = some t → Tryd.pinned.checked.prog.wantsStandIn t = false := by
  obtain rfl : f = 5 := Option.some.inj ((show Tryd.prog.funcNamed "muniment/munimentlaw09.LogRings" = some 5 by kernel_rfl).symm.trans hf) |>.symm
  obtain rfl : fn = Tryd.f5 := (Option.some.inj (Tryd.func5.symm.trans hfn)).symm
  refine ⟨by kernel_rfl, fun j t ht => ?_⟩
  have h := (show (Tryd.f5.params.toList.all fun t => !Tryd.prog.wantsStandIn t) = true by kernel_rfl)
  have h2 := List.all_eq_true.1 h t (by simpa using Array.mem_of_getElem? ht)
  have h3 : Tryd.prog.wantsStandIn t = false := by simpa using h2
  exact h3

/-- The card. -/
theorem card : Rows.LogRingsCardSaid :=
  Claim7.holds_tied_plain_at .later [] _ _ _ _ said (fun _ h => by cases h) (by kernel_rfl) (fun _ h => by cases h) logRings_row_tie rfl ⟨rfl, rfl⟩ (by kernel_rfl) rfl plain (by kernel_rfl)
end Go.Proofs.YtdifpbicdicggaaDoor.lawLogRings
