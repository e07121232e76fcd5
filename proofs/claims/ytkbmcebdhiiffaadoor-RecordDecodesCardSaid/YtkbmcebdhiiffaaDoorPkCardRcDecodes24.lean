/-
  The walk of RecordDecodes.
-/
import Derived.Test.YtkbmcebdhiiffaaDoorPkCardRcDecodes14
import Derived.Test.YtkbmcebdhiiffaaDoorPkCardRcDecodes18
import Derived.Test.YtkbmcebdhiiffaaDoorPkCardRcDecodes23
set_option linter.unusedVariables false
set_option linter.unusedSimpArgs false

namespace Go.Proofs.YtkbmcebdhiiffaaDoor
open Go.RowKit

def Tell2 (w : World) (k tx pv pg off nx : Int) (nb na nd : Nat) (op : Bool) (bf af : List UInt8) (L : List (Int × Int)) (code : Int) (e : Ending) (w' : World) : Prop := Ext w w' ∧ ∃ A5 A6 A8 c5 c6 c8, e = .returned (.tuple #[.agg #[.int .u8 k, .int .u64 tx, .int .u64 pv, .int .i64 pg, .int .i64 off, .slice A5 nb c5, .slice A6 na c6, .int .u64 nx, .slice A8 nd c8, .bool op], .int .i64 code]) ∧ Rd w' A5 bf ∧ Rd w' A6 af ∧ RdD w' A8 L
set_option maxRecDepth 20000 in
set_option maxHeartbeats 3200000 in
theorem recordDecodes_walk (A : Option Addr) (l : List UInt8) (n c : Nat) (w : World) (ht : Tab w) (hr : Rd w A l) (hn : l.length = n) (hnc : n ≤ c) (hl : n ≤ 140737488351232) :
    Calls Tryd.prog 4 #[.slice A n c] w (RetB w true) := by
  obtain ⟨⟨code, r⟩, hflat⟩ : ∃ x, flatV (refV l) = x := ⟨_, rfl⟩
  have hdl := flat_dl l
  rw [hflat] at hdl
  obtain ⟨k, tx, pv, pg, off, bf, af, nx, L, op⟩ := r
  obtain ⟨nb, HNB⟩ : ∃ u, Hid (bf.length = u) := ⟨_, hide rfl⟩
  obtain ⟨na, HNA⟩ : ∃ u, Hid (af.length = u) := ⟨_, hide rfl⟩
  obtain ⟨nd, HND⟩ : ∃ u, Hid (L.length = u) := ⟨_, hide rfl⟩
  have hnd : nd ≤ 127 := by rw [← HND.out]; exact hdl
  have KA := hide (fun (W : World) (hW : Ext w W) => awake_any W (ht.ext hW))
  have KD := hide (fun (W : World) (hW : Ext w W) => (show Calls Tryd.prog 12 #[.slice A n c] W (Tell2 W k tx pv pg off nx nb na nd op bf af L code) from (decode_any A l n c W (hr.ext hW) hn hnc hl (ht.ext hW)).mono fun e w' h => by
    have h := tell_dec h
    rw [← ref_dec, hflat] at h
    unfold Tell2
    rw [← HNB.out, ← HNA.out, ← HND.out]
    exact h))
  have KR := hide (fun (W : World) (hW : Ext w W) => (show Calls Tryd.prog 15 #[.slice A n c] W (Tell2 W k tx pv pg off nx nb na nd op bf af L code) from (rdecode_any A l n c W (ht.ext hW) (hr.ext hW) hn hnc hl).mono fun e w' h => by
    have h := tell_ref h
    rw [hflat] at h
    unfold Tell2
    rw [← HNB.out, ← HNA.out, ← HND.out]
    exact h))
  clear ht hr hn hnc hl hflat hdl
  go_enter Tryd.func4, Tryd.ntmps4
  go_upto_region 3 with (go_at_call 8; (with_reducible refine (KA.out _ (Ext.refl w)).mono ?_); rintro e w1 ⟨rfl, hx1⟩; have X1 := hide hx1; clear hx1)
  go_upto_region 4 with (go_at_call 12; (with_reducible refine (KD.out _ X1.out).mono ?_); rintro e w2 ⟨hx2, A5, A6, A8, c5, c6, c8, rfl, r5, r6, r8⟩; have X2 := hide (X1.out.trans hx2); have R5 := hide r5; have R6 := hide r6; have R8 := hide r8; clear hx2 r5 r6 r8)
  obtain ⟨w3, hX3, hB3, hgg⟩ : ∃ W, Ext w2 W ∧ Rw W w2.heap.size 26 [.int .u8 k, .int .u64 tx, .int .u64 pv, .int .i64 pg, .int .i64 off, .slice A5 nb c5, .slice A6 na c6, .int .u64 nx, .slice A8 nd c8, .bool op] ∧ w2.alloc (.cells #[.int .u8 k, .int .u64 tx, .int .u64 pv, .int .i64 pg, .int .i64 off, .slice A5 nb c5, .slice A6 na c6, .int .u64 nx, .slice A8 nd c8, .bool op] 26) = W := ⟨_, Ext.alloc _ _, Rw.new _ _ _, rfl⟩
  rw [hgg]
  obtain ⟨h1, HH1⟩ : ∃ h, Hid (w2.heap.size = h) := ⟨_, hide rfl⟩
  rw [HH1.out] at hB3 ⊢
  have X3 := hide (X2.out.trans hX3)
  have B3 := hide hB3
  have R5b := hide (R5.out.ext hX3)
  have R6b := hide (R6.out.ext hX3)
  have R8b := hide (R8.out.ext hX3)
  clear hgg hX3 hB3 R5 R6 R8
  go_upto_region 5 with (go_at_call 15; (with_reducible refine (KR.out _ X3.out).mono ?_); rintro e w4 ⟨hx4, A5', A6', A8', c5', c6', c8', rfl, r5, r6, r8⟩; have X4 := hide (X3.out.trans hx4); have S5 := hide r5; have S6 := hide r6; have S8 := hide r8; have B4 := hide (B3.out.ext hx4); have R5c := hide (R5b.out.ext hx4); have R6c := hide (R6b.out.ext hx4); have R8c := hide (R8b.out.ext hx4); clear hx4 r5 r6 r8 R5b R6b R8b)
  obtain ⟨w5, hX5, hB5, hgg⟩ : ∃ W, Ext w4 W ∧ Rw W w4.heap.size 26 [.int .u8 k, .int .u64 tx, .int .u64 pv, .int .i64 pg, .int .i64 off, .slice A5' nb c5', .slice A6' na c6', .int .u64 nx, .slice A8' nd c8', .bool op] ∧ w4.alloc (.cells #[.int .u8 k, .int .u64 tx, .int .u64 pv, .int .i64 pg, .int .i64 off, .slice A5' nb c5', .slice A6' na c6', .int .u64 nx, .slice A8' nd c8', .bool op] 26) = W := ⟨_, Ext.alloc _ _, Rw.new _ _ _, rfl⟩
  rw [hgg]
  obtain ⟨h2, HH2⟩ : ∃ h, Hid (w4.heap.size = h) := ⟨_, hide rfl⟩
  rw [HH2.out] at hB5 ⊢
  have X5 := hide (X4.out.trans hX5)
  have B5 := hide (B4.out.ext hX5)
  have C5 := hide hB5
  have KS := hide (same_yes k tx pv pg off nx A5 A6 A8 A5' A6' A8' nb na nd c5 c6 c8 c5' c6' c8' op bf af L w5 (R5c.out.ext hX5) (S5.out.ext hX5) (R6c.out.ext hX5) (S6.out.ext hX5) (R8c.out.ext hX5) (S8.out.ext hX5) HNB.out HNA.out HND.out (by omega))
  clear hgg hX5 hB5 R5c R6c R8c S5 S6 S8 B4
  have d0 := B5.out.cell (i := 0) rfl
  have d1 := B5.out.cell (i := 1) rfl
  have d2 := B5.out.cell (i := 2) rfl
  have d3 := B5.out.cell (i := 3) rfl
  have d4 := B5.out.cell (i := 4) rfl
  have d5 := B5.out.cell (i := 5) rfl
  have d6 := B5.out.cell (i := 6) rfl
  have d7 := B5.out.cell (i := 7) rfl
  have d8 := B5.out.cell (i := 8) rfl
  have d9 := B5.out.cell (i := 9) rfl
  have e0 := C5.out.cell (i := 0) rfl
  have e1 := C5.out.cell (i := 1) rfl
  have e2 := C5.out.cell (i := 2) rfl
  have e3 := C5.out.cell (i := 3) rfl
  have e4 := C5.out.cell (i := 4) rfl
  have e5 := C5.out.cell (i := 5) rfl
  have e6 := C5.out.cell (i := 6) rfl
  have e7 := C5.out.cell (i := 7) rfl
  have e8 := C5.out.cell (i := 8) rfl
  have e9 := C5.out.cell (i := 9) rfl
  go_wp2_with (go_at_call 14; (with_reducible refine KS.out.mono ?_); rintro e wz ⟨rfl, hxz⟩; have XZ := hide (X5.out.trans hxz); clear hxz)
  go_ret
  exact ⟨rfl, XZ.out⟩
end Go.Proofs.YtkbmcebdhiiffaaDoor
