/-
  The layer's own examples: what 'awake' answers.
-/
import Derived.Test.YtakmkcfljhfkdaaDoorOctA
import Derived.Test.YtakmkcfljhfkdaaDoorOctS
import Derived.Test.YtakmkcfljhfkdaaDoorOctT
import Derived.Lib.SlBytesConst
namespace Go.Proofs.YtakmkcfljhfkdaaDoor
open Go.RowKit

theorem crc_nine : crc [49, 50, 51, 52, 53, 54, 55, 56, 57] = 3421780262 := by decide +kernel
theorem above_lit (w : World) (A : Option Addr) (c : Nat) (hr : Rd w A [97, 255]) : Calls Tryd.prog 24 #[.slice A 2 c] w (Ret w (Pair [98] true)) :=
  above_any A c [97, 255] w hr (by decide)
theorem text_lit (w : World) : Calls Tryd.prog 22 #[.string ⟨#[97]⟩] w (Ret w (Bytes [97, 0, 1])) := text_any ⟨#[97]⟩ w (by decide)
theorem sum_lit (w : World) (A : Option Addr) (c : Nat) (hr : Rd w A [49, 50, 51, 52, 53, 54, 55, 56, 57]) (ht : Tab w) : Calls Tryd.prog 26 #[.slice A 9 c] w (Ret w (Is (.int .u32 3421780262))) := by
  have h := sum_any A c [49, 50, 51, 52, 53, 54, 55, 56, 57] w hr (by decide) ht
  rw [crc_nine] at h
  exact h

set_option maxRecDepth 20000 in
set_option maxHeartbeats 1600000 in
theorem awake_any (w : World) (ht : Tab w) : Calls Tryd.prog 11 #[] w (Ret w (Is (.bool true))) := by
  have kc := fun (w : World) (C : Array Value) (n c : Nat) => Lib.run_convert_bytes_const (P := Tryd.prog) w 27 5 C n c Tryd.underlying27 Tryd.underlying5
  go_enter Tryd.func11, Tryd.ntmps11
  go_wp2_with (first
    | (go_at_call 24; refine (above_lit _ _ 2 (Rd.newf w _ [97, 255] [] (2, 3))).mono ?_; rintro e w1 ⟨v, rfl, hw1, q, rfl, A1, c1, rfl, hc1, hr1⟩; have hw : Ext w w1 := (Ext.alloc w _).trans hw1; clear hw1)
    | (refine wpList_str rfl (.tmp 11) rfl [98] ⟨A1, c1, rfl, hc1, hr1⟩ ?_)
    | (go_at_call 22; refine (text_lit _).mono ?_; rintro e w2 ⟨v2, rfl, hw2, A2, c2, rfl, hc2, hr2⟩; have hw3 : Ext w w2 := hw.trans hw2; clear hw2)
    | (refine wpList_str rfl (.tmp 16) rfl [97, 0, 1] ⟨A2, c2, rfl, hc2, hr2⟩ ?_)
    | (go_at_call 26; refine (sum_lit _ _ 9 (Rd.newf w2 _ [49, 50, 51, 52, 53, 54, 55, 56, 57] [] (9, 10)) (ht.ext (hw3.trans (Ext.alloc _ _)))).mono ?_; rintro e w4 ⟨v4, rfl, hw4, rfl⟩; have hw5 : Ext w w4 := (hw3.trans (Ext.alloc _ _)).trans hw4; clear hw4))

  go_ret
  exact Ret.mk hw5 rfl
end Go.Proofs.YtakmkcfljhfkdaaDoor
