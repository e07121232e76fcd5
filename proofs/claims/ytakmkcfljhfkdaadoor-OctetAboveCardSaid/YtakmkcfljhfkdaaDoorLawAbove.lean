/-
  OctetAbove: the walk.
-/
import Derived.Test.YtakmkcfljhfkdaaDoorOctK
import Derived.Test.YtakmkcfljhfkdaaDoorAboP
import Derived.Test.YtakmkcfljhfkdaaDoorGive
import Derived.Deep.QuietTactic
import Derived.BigQuiet
namespace Go.Proofs.YtakmkcfljhfkdaaDoor
open Go.RowKit

set_option maxRecDepth 20000 in
set_option maxHeartbeats 1600000 in
theorem above_t_short_lt (A B C : Option Addr) (ca cb cc : Nat) (l b o : List UInt8) (w : World) (ha : Rd w A l) (hb : Rd w B b) (hc : Rd w C o) (hlc : l.length ≤ ca) (hoc : o.length ≤ cc) (hbc : b.length ≤ cb)
    (hal : l.length ≤ 140737488355328) (hbl : b.length ≤ 140737488355328) (ht : Tab w) (q : List UInt8) (HQ : Hid (above l = q)) (hq : q ≠ []) (hn : o.length < l.length) (hless : Op.bytesLess o l = true) :
    Calls Tryd.prog 7 #[.slice A l.length ca, .slice B b.length cb, .slice C o.length cc] w (Ret w (Is (.bool true))) := by
  have hq1 : 0 < q.length := List.length_pos_iff.2 hq
  have hqb : (q != []) = true := by simpa using hq
  have hqd : decide (0 < (q.length : Int)) = true := decide_eq_true (by omega)
  have H1 : Op.bytesLess ((⟨l.toArray⟩ : ByteArray) ++ ⟨b.toArray⟩).toList q = true := by
    rw [ByteArray.mk_append_mk, ByteArray.toList_mk]
    have h := above_gt l b (by rw [HQ.out]; exact hq)
    rwa [HQ.out] at h
  have hnb : ¬ ((l.length : Int) ≤ (o.length : Int)) := by omega
  have hnd : decide (l.length ≤ o.length) = false := decide_eq_false (by omega)
  have HH1 := hide hq
  clear hq
  have K1 := hide fun W (h : Ext w W) => (show Calls Tryd.prog 24 #[.slice A l.length ca] W (Ret W (Pair q true)) from hqb ▸ HQ.out ▸ above_any A ca l W (ha.ext h) hal)
  have K2 := hide fun W (h : Ext w W) => (show Calls Tryd.prog 25 #[.slice A l.length ca] W (Ret W (Bytes q)) from HQ.out ▸ rabove_any A ca l W (ha.ext h) hal hlc)
  clear hqb
  go_enter Tryd.func7, Tryd.ntmps7
  go_wp2_with (first
    | (go_at_call 11; refine (awake_any _ ht).mono ?_; rintro e w1 ⟨v, rfl, hw1, rfl⟩)
    | (go_at_call 24; refine (K1.out _ hw1).mono ?_; rintro e w2 ⟨v2, rfl, hw2, q2, rfl, A2, c2, rfl, hc2, hr2⟩; have hw3 := hw1.trans hw2)
    | (go_at_call 25; refine (K2.out _ hw3).mono ?_; rintro e w4 ⟨v4, rfl, hw4, A4, c4, rfl, hc4, hr4⟩; have hw5 := hw3.trans hw4; have hr3 := hr2.ext hw4)
    | (refine wpList_str rfl (.tmp 26) rfl q ⟨A2, c2, rfl, hc2, hr3⟩ ?_)
    | (refine wpList_str rfl (.tmp 28) rfl q ⟨A4, c4, rfl, hc4, hr4⟩ ?_))
  go_quiet (fail)
  go_wp2_with (first | (refine wpList_str rfl (.tmp 57) rfl l ⟨A, ca, rfl, hlc, (ha.ext (hw5.drewN _))⟩ ?_) | (refine wpList_str rfl (.tmp 59) rfl b ⟨B, cb, rfl, hbc, (hb.ext (hw5.drewN _))⟩ ?_) | (refine wpList_str rfl (.tmp 62) rfl q ⟨A2, c2, rfl, hc2, hr3.drewN _⟩ ?_) | (refine wpList_str rfl (.tmp 68) rfl o ⟨C, cc, rfl, hoc, (hc.ext (hw5.drewN _))⟩ ?_) | (refine wpList_str rfl (.tmp 70) rfl l ⟨A, ca, rfl, hlc, (ha.ext (hw5.drewN _))⟩ ?_) | (refine wpList_str rfl (.tmp 75) rfl o ⟨C, cc, rfl, hoc, (hc.ext (hw5.drewN _))⟩ ?_) | (refine wpList_str rfl (.tmp 77) rfl q ⟨A2, c2, rfl, hc2, hr3.drewN _⟩ ?_) | (refine wpList_str rfl (.tmp 86) rfl o ⟨C, cc, rfl, hoc, (hc.ext (hw5.drewN _))⟩ ?_) | (refine wpList_str rfl (.tmp 88) rfl q ⟨A2, c2, rfl, hc2, hr3.drewN _⟩ ?_) | (refine wpList_str rfl (.tmp 51) rfl o ⟨C, cc, rfl, hoc, (hc.ext (hw5.drewN _))⟩ ?_) | (refine wpList_str rfl (.tmp 53) rfl l ⟨A, ca, rfl, hlc, (ha.ext (hw5.drewN _))⟩ ?_))
  go_ret
  exact Ret.mk (hw5.drewN _) rfl

set_option maxRecDepth 20000 in
set_option maxHeartbeats 1600000 in
theorem above_t_short_ge (A B C : Option Addr) (ca cb cc : Nat) (l b o : List UInt8) (w : World) (ha : Rd w A l) (hb : Rd w B b) (hc : Rd w C o) (hlc : l.length ≤ ca) (hoc : o.length ≤ cc) (hbc : b.length ≤ cb)
    (hal : l.length ≤ 140737488355328) (hbl : b.length ≤ 140737488355328) (ht : Tab w) (q : List UInt8) (HQ : Hid (above l = q)) (hq : q ≠ []) (hn : o.length < l.length) (hless : Op.bytesLess o l = false) :
    Calls Tryd.prog 7 #[.slice A l.length ca, .slice B b.length cb, .slice C o.length cc] w (Ret w (Is (.bool true))) := by
  have hq1 : 0 < q.length := List.length_pos_iff.2 hq
  have hqb : (q != []) = true := by simpa using hq
  have hqd : decide (0 < (q.length : Int)) = true := decide_eq_true (by omega)
  have H1 : Op.bytesLess ((⟨l.toArray⟩ : ByteArray) ++ ⟨b.toArray⟩).toList q = true := by
    rw [ByteArray.mk_append_mk, ByteArray.toList_mk]
    have h := above_gt l b (by rw [HQ.out]; exact hq)
    rwa [HQ.out] at h
  have H2 : Op.bytesLess o q = false := by
    have := above_least l o (by rw [HQ.out]; exact hq) (prefix_short l o hn) hless
    rwa [HQ.out] at this
  have hnb : ¬ ((l.length : Int) ≤ (o.length : Int)) := by omega
  have hnd : decide (l.length ≤ o.length) = false := decide_eq_false (by omega)
  have HH1 := hide hq
  clear hq
  have K1 := hide fun W (h : Ext w W) => (show Calls Tryd.prog 24 #[.slice A l.length ca] W (Ret W (Pair q true)) from hqb ▸ HQ.out ▸ above_any A ca l W (ha.ext h) hal)
  have K2 := hide fun W (h : Ext w W) => (show Calls Tryd.prog 25 #[.slice A l.length ca] W (Ret W (Bytes q)) from HQ.out ▸ rabove_any A ca l W (ha.ext h) hal hlc)
  clear hqb
  go_enter Tryd.func7, Tryd.ntmps7
  go_wp2_with (first
    | (go_at_call 11; refine (awake_any _ ht).mono ?_; rintro e w1 ⟨v, rfl, hw1, rfl⟩)
    | (go_at_call 24; refine (K1.out _ hw1).mono ?_; rintro e w2 ⟨v2, rfl, hw2, q2, rfl, A2, c2, rfl, hc2, hr2⟩; have hw3 := hw1.trans hw2)
    | (go_at_call 25; refine (K2.out _ hw3).mono ?_; rintro e w4 ⟨v4, rfl, hw4, A4, c4, rfl, hc4, hr4⟩; have hw5 := hw3.trans hw4; have hr3 := hr2.ext hw4)
    | (refine wpList_str rfl (.tmp 26) rfl q ⟨A2, c2, rfl, hc2, hr3⟩ ?_)
    | (refine wpList_str rfl (.tmp 28) rfl q ⟨A4, c4, rfl, hc4, hr4⟩ ?_))
  go_quiet (fail)
  go_wp2_with (first | (refine wpList_str rfl (.tmp 57) rfl l ⟨A, ca, rfl, hlc, (ha.ext (hw5.drewN _))⟩ ?_) | (refine wpList_str rfl (.tmp 59) rfl b ⟨B, cb, rfl, hbc, (hb.ext (hw5.drewN _))⟩ ?_) | (refine wpList_str rfl (.tmp 62) rfl q ⟨A2, c2, rfl, hc2, hr3.drewN _⟩ ?_) | (refine wpList_str rfl (.tmp 68) rfl o ⟨C, cc, rfl, hoc, (hc.ext (hw5.drewN _))⟩ ?_) | (refine wpList_str rfl (.tmp 70) rfl l ⟨A, ca, rfl, hlc, (ha.ext (hw5.drewN _))⟩ ?_) | (refine wpList_str rfl (.tmp 75) rfl o ⟨C, cc, rfl, hoc, (hc.ext (hw5.drewN _))⟩ ?_) | (refine wpList_str rfl (.tmp 77) rfl q ⟨A2, c2, rfl, hc2, hr3.drewN _⟩ ?_) | (refine wpList_str rfl (.tmp 86) rfl o ⟨C, cc, rfl, hoc, (hc.ext (hw5.drewN _))⟩ ?_) | (refine wpList_str rfl (.tmp 88) rfl q ⟨A2, c2, rfl, hc2, hr3.drewN _⟩ ?_) | (refine wpList_str rfl (.tmp 51) rfl o ⟨C, cc, rfl, hoc, (hc.ext (hw5.drewN _))⟩ ?_) | (refine wpList_str rfl (.tmp 53) rfl l ⟨A, ca, rfl, hlc, (ha.ext (hw5.drewN _))⟩ ?_))
  go_ret
  exact Ret.mk (hw5.drewN _) rfl

set_option maxRecDepth 20000 in
set_option maxHeartbeats 1600000 in
theorem above_t_off_lt (A B C : Option Addr) (ca cb cc : Nat) (l b o : List UInt8) (w : World) (ha : Rd w A l) (hb : Rd w B b) (hc : Rd w C o) (hlc : l.length ≤ ca) (hoc : o.length ≤ cc) (hbc : b.length ≤ cb)
    (hal : l.length ≤ 140737488355328) (hbl : b.length ≤ 140737488355328) (ht : Tab w) (q : List UInt8) (HQ : Hid (above l = q)) (hq : q ≠ []) (hn : l.length ≤ o.length) (hp : o.take l.length ≠ l) (hless : Op.bytesLess o l = true) :
    Calls Tryd.prog 7 #[.slice A l.length ca, .slice B b.length cb, .slice C o.length cc] w (Ret w (Is (.bool true))) := by
  have hq1 : 0 < q.length := List.length_pos_iff.2 hq
  have hqb : (q != []) = true := by simpa using hq
  have hqd : decide (0 < (q.length : Int)) = true := decide_eq_true (by omega)
  have hp0 := hp
  have H1 : Op.bytesLess ((⟨l.toArray⟩ : ByteArray) ++ ⟨b.toArray⟩).toList q = true := by
    rw [ByteArray.mk_append_mk, ByteArray.toList_mk]
    have h := above_gt l b (by rw [HQ.out]; exact hq)
    rwa [HQ.out] at h
  have hnd : decide (l.length ≤ o.length) = true := decide_eq_true hn
  have hnb : (l.length : Int) ≤ (o.length : Int) := by omega
  obtain ⟨y, HY⟩ : ∃ y, Hid (o.take l.length = y) := ⟨_, rfl⟩
  have hyl : l.length = y.length := by rw [← HY.out, List.length_take]; omega
  have HYL := hide hyl
  have hye : (y == l) = false := by rw [← HY.out]; exact beq_eq_false_iff_ne.2 hp
  clear hp hyl
  have hry := hide fun W (h : Ext w W) (n : Nat) => (show (convert 27 9 (.slice C l.length cc)).run Tryd.prog (W.drewN n) = .ok (.string ⟨y.toArray⟩) (W.drewN n) from (by have := Rd.str (P := Tryd.prog) (w := W.drewN n) (((HY.out ▸ hc.take l.length : Rd w C y).ext (h.drewN n)) : Rd (W.drewN n) C y) 27 9 5 cc Tryd.underlying27 Tryd.underlying5 Tryd.underlying9; rw [← HYL.out] at this; exact this))
  have hrl := hide fun W (h : Ext w W) (n : Nat) => (show (convert 27 9 (.slice A l.length ca)).run Tryd.prog (W.drewN n) = .ok (.string ⟨l.toArray⟩) (W.drewN n) from Rd.str (P := Tryd.prog) (w := W.drewN n) ((ha.ext (h.drewN n)) : Rd (W.drewN n) A l) 27 9 5 ca Tryd.underlying27 Tryd.underlying5 Tryd.underlying9)
  clear hp0
  have HH1 := hide hq
  clear hq
  have K1 := hide fun W (h : Ext w W) => (show Calls Tryd.prog 24 #[.slice A l.length ca] W (Ret W (Pair q true)) from hqb ▸ HQ.out ▸ above_any A ca l W (ha.ext h) hal)
  have K2 := hide fun W (h : Ext w W) => (show Calls Tryd.prog 25 #[.slice A l.length ca] W (Ret W (Bytes q)) from HQ.out ▸ rabove_any A ca l W (ha.ext h) hal hlc)
  clear hqb
  go_enter Tryd.func7, Tryd.ntmps7
  go_wp2_with (first
    | (go_at_call 11; refine (awake_any _ ht).mono ?_; rintro e w1 ⟨v, rfl, hw1, rfl⟩)
    | (go_at_call 24; refine (K1.out _ hw1).mono ?_; rintro e w2 ⟨v2, rfl, hw2, q2, rfl, A2, c2, rfl, hc2, hr2⟩; have hw3 := hw1.trans hw2)
    | (go_at_call 25; refine (K2.out _ hw3).mono ?_; rintro e w4 ⟨v4, rfl, hw4, A4, c4, rfl, hc4, hr4⟩; have hw5 := hw3.trans hw4; have hr3 := hr2.ext hw4)
    | (refine wpList_str rfl (.tmp 26) rfl q ⟨A2, c2, rfl, hc2, hr3⟩ ?_)
    | (refine wpList_str rfl (.tmp 28) rfl q ⟨A4, c4, rfl, hc4, hr4⟩ ?_))
  have hry2 := hry.out _ hw5
  have hrl2 := hrl.out _ hw5
  have hcap : (l.length : Int) ≤ (cc : Int) := by omega
  go_quiet (fail)
  go_wp2_with (first | (refine wpList_str rfl (.tmp 57) rfl l ⟨A, ca, rfl, hlc, (ha.ext (hw5.drewN _))⟩ ?_) | (refine wpList_str rfl (.tmp 59) rfl b ⟨B, cb, rfl, hbc, (hb.ext (hw5.drewN _))⟩ ?_) | (refine wpList_str rfl (.tmp 62) rfl q ⟨A2, c2, rfl, hc2, hr3.drewN _⟩ ?_) | (refine wpList_str rfl (.tmp 68) rfl o ⟨C, cc, rfl, hoc, (hc.ext (hw5.drewN _))⟩ ?_) | (refine wpList_str rfl (.tmp 70) rfl l ⟨A, ca, rfl, hlc, (ha.ext (hw5.drewN _))⟩ ?_) | (refine wpList_str rfl (.tmp 75) rfl o ⟨C, cc, rfl, hoc, (hc.ext (hw5.drewN _))⟩ ?_) | (refine wpList_str rfl (.tmp 77) rfl q ⟨A2, c2, rfl, hc2, hr3.drewN _⟩ ?_) | (refine wpList_str rfl (.tmp 86) rfl o ⟨C, cc, rfl, hoc, (hc.ext (hw5.drewN _))⟩ ?_) | (refine wpList_str rfl (.tmp 88) rfl q ⟨A2, c2, rfl, hc2, hr3.drewN _⟩ ?_) | (refine wpList_str rfl (.tmp 51) rfl o ⟨C, cc, rfl, hoc, (hc.ext (hw5.drewN _))⟩ ?_) | (refine wpList_str rfl (.tmp 53) rfl l ⟨A, ca, rfl, hlc, (ha.ext (hw5.drewN _))⟩ ?_))
  go_ret
  exact Ret.mk (hw5.drewN _) rfl

set_option maxRecDepth 20000 in
set_option maxHeartbeats 1600000 in
theorem above_t_off_ge (A B C : Option Addr) (ca cb cc : Nat) (l b o : List UInt8) (w : World) (ha : Rd w A l) (hb : Rd w B b) (hc : Rd w C o) (hlc : l.length ≤ ca) (hoc : o.length ≤ cc) (hbc : b.length ≤ cb)
    (hal : l.length ≤ 140737488355328) (hbl : b.length ≤ 140737488355328) (ht : Tab w) (q : List UInt8) (HQ : Hid (above l = q)) (hq : q ≠ []) (hn : l.length ≤ o.length) (hp : o.take l.length ≠ l) (hless : Op.bytesLess o l = false) :
    Calls Tryd.prog 7 #[.slice A l.length ca, .slice B b.length cb, .slice C o.length cc] w (Ret w (Is (.bool true))) := by
  have hq1 : 0 < q.length := List.length_pos_iff.2 hq
  have hqb : (q != []) = true := by simpa using hq
  have hqd : decide (0 < (q.length : Int)) = true := decide_eq_true (by omega)
  have hp0 := hp
  have H1 : Op.bytesLess ((⟨l.toArray⟩ : ByteArray) ++ ⟨b.toArray⟩).toList q = true := by
    rw [ByteArray.mk_append_mk, ByteArray.toList_mk]
    have h := above_gt l b (by rw [HQ.out]; exact hq)
    rwa [HQ.out] at h
  have H2 : Op.bytesLess o q = false := by
    have := above_least l o (by rw [HQ.out]; exact hq) (by rw [prefix_take]; exact beq_eq_false_iff_ne.2 hp0) hless
    rwa [HQ.out] at this
  have hnd : decide (l.length ≤ o.length) = true := decide_eq_true hn
  have hnb : (l.length : Int) ≤ (o.length : Int) := by omega
  obtain ⟨y, HY⟩ : ∃ y, Hid (o.take l.length = y) := ⟨_, rfl⟩
  have hyl : l.length = y.length := by rw [← HY.out, List.length_take]; omega
  have HYL := hide hyl
  have hye : (y == l) = false := by rw [← HY.out]; exact beq_eq_false_iff_ne.2 hp
  clear hp hyl
  have hry := hide fun W (h : Ext w W) (n : Nat) => (show (convert 27 9 (.slice C l.length cc)).run Tryd.prog (W.drewN n) = .ok (.string ⟨y.toArray⟩) (W.drewN n) from (by have := Rd.str (P := Tryd.prog) (w := W.drewN n) (((HY.out ▸ hc.take l.length : Rd w C y).ext (h.drewN n)) : Rd (W.drewN n) C y) 27 9 5 cc Tryd.underlying27 Tryd.underlying5 Tryd.underlying9; rw [← HYL.out] at this; exact this))
  have hrl := hide fun W (h : Ext w W) (n : Nat) => (show (convert 27 9 (.slice A l.length ca)).run Tryd.prog (W.drewN n) = .ok (.string ⟨l.toArray⟩) (W.drewN n) from Rd.str (P := Tryd.prog) (w := W.drewN n) ((ha.ext (h.drewN n)) : Rd (W.drewN n) A l) 27 9 5 ca Tryd.underlying27 Tryd.underlying5 Tryd.underlying9)
  clear hp0
  have HH1 := hide hq
  clear hq
  have K1 := hide fun W (h : Ext w W) => (show Calls Tryd.prog 24 #[.slice A l.length ca] W (Ret W (Pair q true)) from hqb ▸ HQ.out ▸ above_any A ca l W (ha.ext h) hal)
  have K2 := hide fun W (h : Ext w W) => (show Calls Tryd.prog 25 #[.slice A l.length ca] W (Ret W (Bytes q)) from HQ.out ▸ rabove_any A ca l W (ha.ext h) hal hlc)
  clear hqb
  go_enter Tryd.func7, Tryd.ntmps7
  go_wp2_with (first
    | (go_at_call 11; refine (awake_any _ ht).mono ?_; rintro e w1 ⟨v, rfl, hw1, rfl⟩)
    | (go_at_call 24; refine (K1.out _ hw1).mono ?_; rintro e w2 ⟨v2, rfl, hw2, q2, rfl, A2, c2, rfl, hc2, hr2⟩; have hw3 := hw1.trans hw2)
    | (go_at_call 25; refine (K2.out _ hw3).mono ?_; rintro e w4 ⟨v4, rfl, hw4, A4, c4, rfl, hc4, hr4⟩; have hw5 := hw3.trans hw4; have hr3 := hr2.ext hw4)
    | (refine wpList_str rfl (.tmp 26) rfl q ⟨A2, c2, rfl, hc2, hr3⟩ ?_)
    | (refine wpList_str rfl (.tmp 28) rfl q ⟨A4, c4, rfl, hc4, hr4⟩ ?_))
  have hry2 := hry.out _ hw5
  have hrl2 := hrl.out _ hw5
  have hcap : (l.length : Int) ≤ (cc : Int) := by omega
  go_quiet (fail)
  go_wp2_with (first | (refine wpList_str rfl (.tmp 57) rfl l ⟨A, ca, rfl, hlc, (ha.ext (hw5.drewN _))⟩ ?_) | (refine wpList_str rfl (.tmp 59) rfl b ⟨B, cb, rfl, hbc, (hb.ext (hw5.drewN _))⟩ ?_) | (refine wpList_str rfl (.tmp 62) rfl q ⟨A2, c2, rfl, hc2, hr3.drewN _⟩ ?_) | (refine wpList_str rfl (.tmp 68) rfl o ⟨C, cc, rfl, hoc, (hc.ext (hw5.drewN _))⟩ ?_) | (refine wpList_str rfl (.tmp 70) rfl l ⟨A, ca, rfl, hlc, (ha.ext (hw5.drewN _))⟩ ?_) | (refine wpList_str rfl (.tmp 75) rfl o ⟨C, cc, rfl, hoc, (hc.ext (hw5.drewN _))⟩ ?_) | (refine wpList_str rfl (.tmp 77) rfl q ⟨A2, c2, rfl, hc2, hr3.drewN _⟩ ?_) | (refine wpList_str rfl (.tmp 86) rfl o ⟨C, cc, rfl, hoc, (hc.ext (hw5.drewN _))⟩ ?_) | (refine wpList_str rfl (.tmp 88) rfl q ⟨A2, c2, rfl, hc2, hr3.drewN _⟩ ?_) | (refine wpList_str rfl (.tmp 51) rfl o ⟨C, cc, rfl, hoc, (hc.ext (hw5.drewN _))⟩ ?_) | (refine wpList_str rfl (.tmp 53) rfl l ⟨A, ca, rfl, hlc, (ha.ext (hw5.drewN _))⟩ ?_))
  go_ret
  exact Ret.mk (hw5.drewN _) rfl

set_option maxRecDepth 20000 in
set_option maxHeartbeats 1600000 in
theorem above_t_pre (A B C : Option Addr) (ca cb cc : Nat) (l b o : List UInt8) (w : World) (ha : Rd w A l) (hb : Rd w B b) (hc : Rd w C o) (hlc : l.length ≤ ca) (hoc : o.length ≤ cc) (hbc : b.length ≤ cb)
    (hal : l.length ≤ 140737488355328) (hbl : b.length ≤ 140737488355328) (ht : Tab w) (q : List UInt8) (HQ : Hid (above l = q)) (hq : q ≠ []) (hn : l.length ≤ o.length) (hp : o.take l.length = l) :
    Calls Tryd.prog 7 #[.slice A l.length ca, .slice B b.length cb, .slice C o.length cc] w (Ret w (Is (.bool true))) := by
  have hq1 : 0 < q.length := List.length_pos_iff.2 hq
  have hqb : (q != []) = true := by simpa using hq
  have hqd : decide (0 < (q.length : Int)) = true := decide_eq_true (by omega)
  have hp0 := hp
  have H1 : Op.bytesLess ((⟨l.toArray⟩ : ByteArray) ++ ⟨b.toArray⟩).toList q = true := by
    rw [ByteArray.mk_append_mk, ByteArray.toList_mk]
    have h := above_gt l b (by rw [HQ.out]; exact hq)
    rwa [HQ.out] at h
  have H2 : Op.bytesLess o q = true := by
    have h := above_gt l (o.drop l.length) (by rw [HQ.out]; exact hq)
    rw [HQ.out] at h
    have e : l ++ o.drop l.length = o := by
      have := List.take_append_drop l.length o
      rwa [hp0] at this
    rwa [e] at h
  have hnd : decide (l.length ≤ o.length) = true := decide_eq_true hn
  have hnb : (l.length : Int) ≤ (o.length : Int) := by omega
  obtain ⟨y, HY⟩ : ∃ y, Hid (o.take l.length = y) := ⟨_, rfl⟩
  have hyl : l.length = y.length := by rw [← HY.out, List.length_take]; omega
  have HYL := hide hyl
  have hye : (y == l) = true := by rw [← HY.out]; exact beq_iff_eq.2 hp
  clear hp hyl
  have hry := hide fun W (h : Ext w W) (n : Nat) => (show (convert 27 9 (.slice C l.length cc)).run Tryd.prog (W.drewN n) = .ok (.string ⟨y.toArray⟩) (W.drewN n) from (by have := Rd.str (P := Tryd.prog) (w := W.drewN n) (((HY.out ▸ hc.take l.length : Rd w C y).ext (h.drewN n)) : Rd (W.drewN n) C y) 27 9 5 cc Tryd.underlying27 Tryd.underlying5 Tryd.underlying9; rw [← HYL.out] at this; exact this))
  have hrl := hide fun W (h : Ext w W) (n : Nat) => (show (convert 27 9 (.slice A l.length ca)).run Tryd.prog (W.drewN n) = .ok (.string ⟨l.toArray⟩) (W.drewN n) from Rd.str (P := Tryd.prog) (w := W.drewN n) ((ha.ext (h.drewN n)) : Rd (W.drewN n) A l) 27 9 5 ca Tryd.underlying27 Tryd.underlying5 Tryd.underlying9)
  clear hp0
  have HH1 := hide hq
  clear hq
  have K1 := hide fun W (h : Ext w W) => (show Calls Tryd.prog 24 #[.slice A l.length ca] W (Ret W (Pair q true)) from hqb ▸ HQ.out ▸ above_any A ca l W (ha.ext h) hal)
  have K2 := hide fun W (h : Ext w W) => (show Calls Tryd.prog 25 #[.slice A l.length ca] W (Ret W (Bytes q)) from HQ.out ▸ rabove_any A ca l W (ha.ext h) hal hlc)
  clear hqb
  go_enter Tryd.func7, Tryd.ntmps7
  go_wp2_with (first
    | (go_at_call 11; refine (awake_any _ ht).mono ?_; rintro e w1 ⟨v, rfl, hw1, rfl⟩)
    | (go_at_call 24; refine (K1.out _ hw1).mono ?_; rintro e w2 ⟨v2, rfl, hw2, q2, rfl, A2, c2, rfl, hc2, hr2⟩; have hw3 := hw1.trans hw2)
    | (go_at_call 25; refine (K2.out _ hw3).mono ?_; rintro e w4 ⟨v4, rfl, hw4, A4, c4, rfl, hc4, hr4⟩; have hw5 := hw3.trans hw4; have hr3 := hr2.ext hw4)
    | (refine wpList_str rfl (.tmp 26) rfl q ⟨A2, c2, rfl, hc2, hr3⟩ ?_)
    | (refine wpList_str rfl (.tmp 28) rfl q ⟨A4, c4, rfl, hc4, hr4⟩ ?_))
  have hry2 := hry.out _ hw5
  have hrl2 := hrl.out _ hw5
  have hcap : (l.length : Int) ≤ (cc : Int) := by omega
  go_quiet (fail)
  go_wp2_with (first | (refine wpList_str rfl (.tmp 57) rfl l ⟨A, ca, rfl, hlc, (ha.ext (hw5.drewN _))⟩ ?_) | (refine wpList_str rfl (.tmp 59) rfl b ⟨B, cb, rfl, hbc, (hb.ext (hw5.drewN _))⟩ ?_) | (refine wpList_str rfl (.tmp 62) rfl q ⟨A2, c2, rfl, hc2, hr3.drewN _⟩ ?_) | (refine wpList_str rfl (.tmp 68) rfl o ⟨C, cc, rfl, hoc, (hc.ext (hw5.drewN _))⟩ ?_) | (refine wpList_str rfl (.tmp 70) rfl l ⟨A, ca, rfl, hlc, (ha.ext (hw5.drewN _))⟩ ?_) | (refine wpList_str rfl (.tmp 75) rfl o ⟨C, cc, rfl, hoc, (hc.ext (hw5.drewN _))⟩ ?_) | (refine wpList_str rfl (.tmp 77) rfl q ⟨A2, c2, rfl, hc2, hr3.drewN _⟩ ?_) | (refine wpList_str rfl (.tmp 86) rfl o ⟨C, cc, rfl, hoc, (hc.ext (hw5.drewN _))⟩ ?_) | (refine wpList_str rfl (.tmp 88) rfl q ⟨A2, c2, rfl, hc2, hr3.drewN _⟩ ?_) | (refine wpList_str rfl (.tmp 51) rfl o ⟨C, cc, rfl, hoc, (hc.ext (hw5.drewN _))⟩ ?_) | (refine wpList_str rfl (.tmp 53) rfl l ⟨A, ca, rfl, hlc, (ha.ext (hw5.drewN _))⟩ ?_))
  go_ret
  exact Ret.mk (hw5.drewN _) rfl

set_option maxRecDepth 20000 in
set_option maxHeartbeats 1600000 in
theorem above_f_short (A B C : Option Addr) (ca cb cc : Nat) (l b o : List UInt8) (w : World) (ha : Rd w A l) (_hb : Rd w B b) (hc : Rd w C o) (hlc : l.length ≤ ca) (hoc : o.length ≤ cc) (_hbc : b.length ≤ cb)
    (hal : l.length ≤ 140737488355328) (_hbl : b.length ≤ 140737488355328) (ht : Tab w) (q : List UInt8) (HQ : Hid (above l = q)) (hq : q = []) (hn : o.length < l.length) :
    Calls Tryd.prog 7 #[.slice A l.length ca, .slice B b.length cb, .slice C o.length cc] w (Ret w (Is (.bool true))) := by
  have hqb : (q != []) = false := by simpa using hq
  have hq1 : q.length ≤ 0 := by rw [hq]; exact Nat.le_refl _
  have hqd : decide (0 < q.length) = false := decide_eq_false (by omega)
  have H2 : Op.bytesLess o l = true := by
    rcases above_none l o (by rw [HQ.out]; exact hq) with h | h
    · rw [prefix_short l o hn] at h; cases h
    · exact h
  have hnb : ¬ ((l.length : Int) ≤ (o.length : Int)) := by omega
  have hnd : decide (l.length ≤ o.length) = false := decide_eq_false (by omega)
  have HH1 := hide hq
  clear hq
  have K1 := hide fun W (h : Ext w W) => (show Calls Tryd.prog 24 #[.slice A l.length ca] W (Ret W (Pair q false)) from hqb ▸ HQ.out ▸ above_any A ca l W (ha.ext h) hal)
  have K2 := hide fun W (h : Ext w W) => (show Calls Tryd.prog 25 #[.slice A l.length ca] W (Ret W (Bytes q)) from HQ.out ▸ rabove_any A ca l W (ha.ext h) hal hlc)
  clear hqb
  go_enter Tryd.func7, Tryd.ntmps7
  go_wp2_with (first
    | (go_at_call 11; refine (awake_any _ ht).mono ?_; rintro e w1 ⟨v, rfl, hw1, rfl⟩)
    | (go_at_call 24; refine (K1.out _ hw1).mono ?_; rintro e w2 ⟨v2, rfl, hw2, q2, rfl, A2, c2, rfl, hc2, hr2⟩; have hw3 := hw1.trans hw2)
    | (go_at_call 25; refine (K2.out _ hw3).mono ?_; rintro e w4 ⟨v4, rfl, hw4, A4, c4, rfl, hc4, hr4⟩; have hw5 := hw3.trans hw4; have hr3 := hr2.ext hw4)
    | (refine wpList_str rfl (.tmp 26) rfl q ⟨A2, c2, rfl, hc2, hr3⟩ ?_)
    | (refine wpList_str rfl (.tmp 28) rfl q ⟨A4, c4, rfl, hc4, hr4⟩ ?_))
  go_quiet (fail)
  go_wp2_with (first | (refine wpList_str rfl (.tmp 51) rfl o ⟨C, cc, rfl, hoc, (hc.ext (hw5.drewN _))⟩ ?_) | (refine wpList_str rfl (.tmp 53) rfl l ⟨A, ca, rfl, hlc, (ha.ext (hw5.drewN _))⟩ ?_))
  go_ret
  exact Ret.mk (hw5.drewN _) rfl

set_option maxRecDepth 20000 in
set_option maxHeartbeats 1600000 in
theorem above_f_off (A B C : Option Addr) (ca cb cc : Nat) (l b o : List UInt8) (w : World) (ha : Rd w A l) (_hb : Rd w B b) (hc : Rd w C o) (hlc : l.length ≤ ca) (hoc : o.length ≤ cc) (_hbc : b.length ≤ cb)
    (hal : l.length ≤ 140737488355328) (_hbl : b.length ≤ 140737488355328) (ht : Tab w) (q : List UInt8) (HQ : Hid (above l = q)) (hq : q = []) (hn : l.length ≤ o.length) (hp : o.take l.length ≠ l) :
    Calls Tryd.prog 7 #[.slice A l.length ca, .slice B b.length cb, .slice C o.length cc] w (Ret w (Is (.bool true))) := by
  have hqb : (q != []) = false := by simpa using hq
  have hq1 : q.length ≤ 0 := by rw [hq]; exact Nat.le_refl _
  have hqd : decide (0 < q.length) = false := decide_eq_false (by omega)
  have hp0 := hp
  have H2 : Op.bytesLess o l = true := by
    rcases above_none l o (by rw [HQ.out]; exact hq) with h | h
    · rw [prefix_take, beq_eq_false_iff_ne.2 hp0] at h; cases h
    · exact h
  have hnd : decide (l.length ≤ o.length) = true := decide_eq_true hn
  have hnb : (l.length : Int) ≤ (o.length : Int) := by omega
  obtain ⟨y, HY⟩ : ∃ y, Hid (o.take l.length = y) := ⟨_, rfl⟩
  have hyl : l.length = y.length := by rw [← HY.out, List.length_take]; omega
  have HYL := hide hyl
  have hye : (y == l) = false := by rw [← HY.out]; exact beq_eq_false_iff_ne.2 hp
  clear hp hyl
  have hry := hide fun W (h : Ext w W) (n : Nat) => (show (convert 27 9 (.slice C l.length cc)).run Tryd.prog (W.drewN n) = .ok (.string ⟨y.toArray⟩) (W.drewN n) from (by have := Rd.str (P := Tryd.prog) (w := W.drewN n) (((HY.out ▸ hc.take l.length : Rd w C y).ext (h.drewN n)) : Rd (W.drewN n) C y) 27 9 5 cc Tryd.underlying27 Tryd.underlying5 Tryd.underlying9; rw [← HYL.out] at this; exact this))
  have hrl := hide fun W (h : Ext w W) (n : Nat) => (show (convert 27 9 (.slice A l.length ca)).run Tryd.prog (W.drewN n) = .ok (.string ⟨l.toArray⟩) (W.drewN n) from Rd.str (P := Tryd.prog) (w := W.drewN n) ((ha.ext (h.drewN n)) : Rd (W.drewN n) A l) 27 9 5 ca Tryd.underlying27 Tryd.underlying5 Tryd.underlying9)
  clear hp0
  have HH1 := hide hq
  clear hq
  have K1 := hide fun W (h : Ext w W) => (show Calls Tryd.prog 24 #[.slice A l.length ca] W (Ret W (Pair q false)) from hqb ▸ HQ.out ▸ above_any A ca l W (ha.ext h) hal)
  have K2 := hide fun W (h : Ext w W) => (show Calls Tryd.prog 25 #[.slice A l.length ca] W (Ret W (Bytes q)) from HQ.out ▸ rabove_any A ca l W (ha.ext h) hal hlc)
  clear hqb
  go_enter Tryd.func7, Tryd.ntmps7
  go_wp2_with (first
    | (go_at_call 11; refine (awake_any _ ht).mono ?_; rintro e w1 ⟨v, rfl, hw1, rfl⟩)
    | (go_at_call 24; refine (K1.out _ hw1).mono ?_; rintro e w2 ⟨v2, rfl, hw2, q2, rfl, A2, c2, rfl, hc2, hr2⟩; have hw3 := hw1.trans hw2)
    | (go_at_call 25; refine (K2.out _ hw3).mono ?_; rintro e w4 ⟨v4, rfl, hw4, A4, c4, rfl, hc4, hr4⟩; have hw5 := hw3.trans hw4; have hr3 := hr2.ext hw4)
    | (refine wpList_str rfl (.tmp 26) rfl q ⟨A2, c2, rfl, hc2, hr3⟩ ?_)
    | (refine wpList_str rfl (.tmp 28) rfl q ⟨A4, c4, rfl, hc4, hr4⟩ ?_))
  have hry2 := hry.out _ hw5
  have hrl2 := hrl.out _ hw5
  have hcap : (l.length : Int) ≤ (cc : Int) := by omega
  go_quiet (fail)
  go_wp2_with (first | (refine wpList_str rfl (.tmp 51) rfl o ⟨C, cc, rfl, hoc, (hc.ext (hw5.drewN _))⟩ ?_) | (refine wpList_str rfl (.tmp 53) rfl l ⟨A, ca, rfl, hlc, (ha.ext (hw5.drewN _))⟩ ?_))
  go_ret
  exact Ret.mk (hw5.drewN _) rfl

set_option maxRecDepth 20000 in
set_option maxHeartbeats 1600000 in
theorem above_f_pre (A B C : Option Addr) (ca cb cc : Nat) (l b o : List UInt8) (w : World) (ha : Rd w A l) (_hb : Rd w B b) (hc : Rd w C o) (hlc : l.length ≤ ca) (hoc : o.length ≤ cc) (_hbc : b.length ≤ cb)
    (hal : l.length ≤ 140737488355328) (_hbl : b.length ≤ 140737488355328) (ht : Tab w) (q : List UInt8) (HQ : Hid (above l = q)) (hq : q = []) (hn : l.length ≤ o.length) (hp : o.take l.length = l) :
    Calls Tryd.prog 7 #[.slice A l.length ca, .slice B b.length cb, .slice C o.length cc] w (Ret w (Is (.bool true))) := by
  have hqb : (q != []) = false := by simpa using hq
  have hq1 : q.length ≤ 0 := by rw [hq]; exact Nat.le_refl _
  have hqd : decide (0 < q.length) = false := decide_eq_false (by omega)
  have hp0 := hp
  have hnd : decide (l.length ≤ o.length) = true := decide_eq_true hn
  have hnb : (l.length : Int) ≤ (o.length : Int) := by omega
  obtain ⟨y, HY⟩ : ∃ y, Hid (o.take l.length = y) := ⟨_, rfl⟩
  have hyl : l.length = y.length := by rw [← HY.out, List.length_take]; omega
  have HYL := hide hyl
  have hye : (y == l) = true := by rw [← HY.out]; exact beq_iff_eq.2 hp
  clear hp hyl
  have hry := hide fun W (h : Ext w W) (n : Nat) => (show (convert 27 9 (.slice C l.length cc)).run Tryd.prog (W.drewN n) = .ok (.string ⟨y.toArray⟩) (W.drewN n) from (by have := Rd.str (P := Tryd.prog) (w := W.drewN n) (((HY.out ▸ hc.take l.length : Rd w C y).ext (h.drewN n)) : Rd (W.drewN n) C y) 27 9 5 cc Tryd.underlying27 Tryd.underlying5 Tryd.underlying9; rw [← HYL.out] at this; exact this))
  have hrl := hide fun W (h : Ext w W) (n : Nat) => (show (convert 27 9 (.slice A l.length ca)).run Tryd.prog (W.drewN n) = .ok (.string ⟨l.toArray⟩) (W.drewN n) from Rd.str (P := Tryd.prog) (w := W.drewN n) ((ha.ext (h.drewN n)) : Rd (W.drewN n) A l) 27 9 5 ca Tryd.underlying27 Tryd.underlying5 Tryd.underlying9)
  clear hp0
  have HH1 := hide hq
  clear hq
  have K1 := hide fun W (h : Ext w W) => (show Calls Tryd.prog 24 #[.slice A l.length ca] W (Ret W (Pair q false)) from hqb ▸ HQ.out ▸ above_any A ca l W (ha.ext h) hal)
  have K2 := hide fun W (h : Ext w W) => (show Calls Tryd.prog 25 #[.slice A l.length ca] W (Ret W (Bytes q)) from HQ.out ▸ rabove_any A ca l W (ha.ext h) hal hlc)
  clear hqb
  go_enter Tryd.func7, Tryd.ntmps7
  go_wp2_with (first
    | (go_at_call 11; refine (awake_any _ ht).mono ?_; rintro e w1 ⟨v, rfl, hw1, rfl⟩)
    | (go_at_call 24; refine (K1.out _ hw1).mono ?_; rintro e w2 ⟨v2, rfl, hw2, q2, rfl, A2, c2, rfl, hc2, hr2⟩; have hw3 := hw1.trans hw2)
    | (go_at_call 25; refine (K2.out _ hw3).mono ?_; rintro e w4 ⟨v4, rfl, hw4, A4, c4, rfl, hc4, hr4⟩; have hw5 := hw3.trans hw4; have hr3 := hr2.ext hw4)
    | (refine wpList_str rfl (.tmp 26) rfl q ⟨A2, c2, rfl, hc2, hr3⟩ ?_)
    | (refine wpList_str rfl (.tmp 28) rfl q ⟨A4, c4, rfl, hc4, hr4⟩ ?_))
  have hry2 := hry.out _ hw5
  have hrl2 := hrl.out _ hw5
  have hcap : (l.length : Int) ≤ (cc : Int) := by omega
  go_quiet (fail)
  go_wp2_with (first | (refine wpList_str rfl (.tmp 51) rfl o ⟨C, cc, rfl, hoc, (hc.ext (hw5.drewN _))⟩ ?_) | (refine wpList_str rfl (.tmp 53) rfl l ⟨A, ca, rfl, hlc, (ha.ext (hw5.drewN _))⟩ ?_))
  go_ret
  exact Ret.mk (hw5.drewN _) rfl

theorem above_law (A B C : Option Addr) (ca cb cc : Nat) (l b o : List UInt8) (w : World) (ha : Rd w A l) (hb : Rd w B b) (hc : Rd w C o) (hlc : l.length ≤ ca) (hbc : b.length ≤ cb) (hoc : o.length ≤ cc)
    (hal : l.length ≤ 140737488355328) (hbl : b.length ≤ 140737488355328) (ht : Tab w) :
    Calls Tryd.prog 7 #[.slice A l.length ca, .slice B b.length cb, .slice C o.length cc] w (Ret w (Is (.bool true))) := by
  by_cases hq : above l = []
  · by_cases hn : o.length < l.length
    · exact above_f_short A B C ca cb cc l b o w ha hb hc hlc hoc hbc hal hbl ht _ rfl hq hn
    · by_cases hp : o.take l.length = l
      · exact above_f_pre A B C ca cb cc l b o w ha hb hc hlc hoc hbc hal hbl ht _ rfl hq (by omega) hp
      · exact above_f_off A B C ca cb cc l b o w ha hb hc hlc hoc hbc hal hbl ht _ rfl hq (by omega) hp
  · by_cases hn : o.length < l.length
    · cases hs : Op.bytesLess o l
      · exact above_t_short_ge A B C ca cb cc l b o w ha hb hc hlc hoc hbc hal hbl ht _ rfl hq hn hs
      · exact above_t_short_lt A B C ca cb cc l b o w ha hb hc hlc hoc hbc hal hbl ht _ rfl hq hn hs
    · by_cases hp : o.take l.length = l
      · exact above_t_pre A B C ca cb cc l b o w ha hb hc hlc hoc hbc hal hbl ht _ rfl hq (by omega) hp
      · cases hs : Op.bytesLess o l
        · exact above_t_off_ge A B C ca cb cc l b o w ha hb hc hlc hoc hbc hal hbl ht _ rfl hq (by omega) hp hs
        · exact above_t_off_lt A B C ca cb cc l b o w ha hb hc hlc hoc hbc hal hbl ht _ rfl hq (by omega) hp hs
end Go.Proofs.YtakmkcfljhfkdaaDoor
