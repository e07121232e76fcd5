/-
  The dirty pages of a record, put behind bytes of the call's own.
-/
import Derived.Test.YthdahgekodcloaaDoorRcN
namespace Go.Proofs.YthdahgekodcloaaDoor
open Go.RowKit

def dirB (L : List (Int × Int)) : List UInt8 := L.flatMap fun d => numN 2 d.1 ++ numN 8 d.2
theorem dirB_length (L : List (Int × Int)) : (dirB L).length = 10 * L.length := by
  induction L with
  | nil => rfl
  | cons d L ih =>
    have e : dirB (d :: L) = (numN 2 d.1 ++ numN 8 d.2) ++ dirB L := by simp [dirB]
    rw [e, List.length_append, List.length_append, numN_length 2 _ (by decide), numN_length 8 _ (by decide), ih, List.length_cons]
    omega
theorem dirB_snoc (L : List (Int × Int)) (i : Nat) (e : Int × Int) (h : L[i]? = some e) : dirB (L.take (i + 1)) = dirB (L.take i) ++ (numN 2 e.1 ++ numN 8 e.2) := by
  rw [List.take_add_one, h]
  simp [dirB]
def cntN (nd : Nat) (op : Bool) : Int := 2 * (nd : Int) + if op then 1 else 0
set_option maxRecDepth 20000 in
set_option maxHeartbeats 3200000 in
theorem appendCheck_any (v : Value) (l : List UInt8) (k tx pv pg off nx : Int) (A B D : Option Addr) (nb a na b' nd d : Nat) (op : Bool) (w0 w : World) (BB : Nat) (L : List (Int × Int)) (hr : RdD w0 D L) (hx0 : Ext w0 w) (hB0 : w0.heap.size ≤ BB) (hB : BB ≤ w.heap.size) (hn : L.length = nd) (hnd : nd ≤ 64)
    (hL : ∀ e ∈ L, (0 ≤ e.1 ∧ e.1 < 4096) ∧ 0 ≤ e.2 ∧ e.2 < 18446744073709551616) (ho : Own w BB v l) (hl : l.length ≤ 1000000) :
    Calls Tryd.prog 20 #[v, .agg #[.int .u8 k, .int .u64 tx, .int .u64 pv, .int .i64 pg, .int .i64 off, .slice A nb a, .slice B na b', .int .u64 nx, .slice D nd d, .bool op]] w (AddP w BB (l ++ (numN 1 (cntN nd op) ++ dirB L))) := by
  have HR := hide hr
  have HX0 := hide hx0
  have HB0 := hide hB0
  have HB := hide hB
  have HN := hide hn
  have HL := hide hL
  have HO := hide ho
  have HLL := hide hl
  have hw2 : IntKind.u64.wrap (2 * (nd : Int)) = 2 * (nd : Int) := by rw [IntKind.wrap_u64]; omega
  have hw3 : IntKind.u64.wrap (2 * (nd : Int) + 1) = 2 * (nd : Int) + 1 := by rw [IntKind.wrap_u64]; omega
  have hndi : (nd : Int) ≤ 64 := by omega
  clear hr hx0 hB0 hB hn hL ho hl
  go_enter Tryd.func20, Tryd.ntmps20
  go_upto_region 1 with fail
  obtain ⟨W1, hX1, hR1, hg⟩ : ∃ W1, Ext w W1 ∧ Rw W1 w.heap.size 26 [.int .u8 k, .int .u64 tx, .int .u64 pv, .int .i64 pg, .int .i64 off, .slice A nb a, .slice B na b', .int .u64 nx, .slice D nd d, .bool op] ∧ w.alloc (.cells #[.int .u8 k, .int .u64 tx, .int .u64 pv, .int .i64 pg, .int .i64 off, .slice A nb a, .slice B na b', .int .u64 nx, .slice D nd d, .bool op] 26) = W1 := ⟨_, Ext.alloc _ _, Rw.new _ _ _, rfl⟩
  rw [hg]
  obtain ⟨hb, HHB⟩ : ∃ hb, Hid (w.heap.size = hb) := ⟨_, hide rfl⟩
  rw [HHB.out] at hR1 ⊢
  have X1 := hide hX1
  have R1 := hide hR1
  have c8 := hR1.cell (i := 8) rfl
  have c9 := hR1.cell (i := 9) rfl
  clear hg hX1 hR1
  cases op with
  | false =>
    go_upto_region 4 with fail
    have KA := hide (appendNumber_1 v l (2 * (nd : Int)) BB W1 (HO.out.ext X1.out) (Nat.le_trans HB.out X1.out.size) (by omega) (by omega) (by have := HLL.out; omega))
    go_upto_region 5 with (go_at_call 19; (with_reducible refine KA.out.mono ?_); rintro e w2 ⟨v2, rfl, ho2, hb2, hs2⟩; have O2 := hide ho2; have B2 : Hid (Below BB w w2) := hide ((Below.mono X1.out HB.out).trans hb2); have S2 : Hid (Stay w w2) := hide ((Stay.ext X1.out).trans hs2); have R2 := hide (hs2 hb _ _ (by decide) R1.out); clear ho2 hb2 hs2)
    clear c8 c9 KA
    have c8 := R2.out.cell (i := 8) rfl
    obtain ⟨l1, HL1⟩ : ∃ l1, Hid (l ++ numN 1 (2 * (nd : Int)) = l1) := ⟨_, hide rfl⟩
    rw [HL1.out] at O2
    have HLN : Hid (l1.length ≤ 1000001) := hide (by rw [← HL1.out, List.length_append, numN_length 1 _ (by decide)]; have := HLL.out; omega)
    have HEND : Hid (l ++ (numN 1 (cntN nd false) ++ dirB L) = l1 ++ dirB L) := hide (by rw [← HL1.out, List.append_assoc]; simp [cntN])
    go_upto_region 6 with fail
    go_loopw [0, 23] (fun pz iv wr => ∃ (i : Nat) (v' : Value), i ≤ nd ∧ v' = pz ∧ iv = .int .i64 (i : Int) ∧ Hid (Own wr BB v' (l1 ++ dirB (L.take i))) ∧ Hid (Below BB w wr) ∧ Hid (Stay w wr)) (fun _ iv _ => nd - (intOf iv).toNat)
    case atStart => exact ⟨0, _, Nat.zero_le _, rfl, rfl, hide (by rw [List.take_zero]; show Own _ _ _ (l1 ++ []); rw [List.append_nil]; exact O2.out), B2, S2⟩
    case round =>
      obtain ⟨i, v', hi, rfl, rfl, HOW, HBW, HSW⟩ := hrel
      clear O2 B2 S2 R2 c8
      by_cases hlt : i < nd
      · obtain ⟨⟨y, z⟩, he⟩ : ∃ e, L[i]? = some e := ⟨_, List.getElem?_eq_getElem (by rw [HN.out]; exact hlt)⟩
        obtain ⟨hy, hz⟩ := HL.out _ (List.mem_of_getElem? he)
        have HZ := hide hz
        have hy0 : 0 ≤ y := hy.1
        have hy1 : y < 4096 := hy.2
        obtain ⟨bb, oo, hD, k1, k2⟩ := (HR.out.ext (HX0.out.below HB0.out HBW.out)).at he
        subst hD
        have HE := hide he
        have hii : (i : Int) < (nd : Int) := by omega
        have hi0 : (0 : Int) ≤ (i : Int) := by omega
        have hwy : IntKind.u64.wrap y = y := by rw [IntKind.wrap_u64]; omega
        clear he hz hy
        go_upto_region 8 with fail
        obtain ⟨W8, hX8, hR8, hg⟩ : ∃ W8, Ext wr W8 ∧ Rw W8 wr.heap.size 47 [.int .i64 y, .int .u64 z] ∧ wr.alloc (.cells #[.int .i64 y, .int .u64 z] 47) = W8 := ⟨_, Ext.alloc _ _, Rw.new _ _ _, rfl⟩
        rw [hg]
        obtain ⟨h8, HH8⟩ : ∃ h8, Hid (wr.heap.size = h8) := ⟨_, hide rfl⟩
        rw [HH8.out] at hR8 ⊢
        have hBW8 : BB ≤ W8.heap.size := Nat.le_trans (Nat.le_trans HB.out HBW.out.size) hX8.size
        have B8 : Hid (Below BB w W8) := hide (HBW.out.trans (Below.mono hX8 (Nat.le_trans HB.out HBW.out.size)))
        have S8 : Hid (Stay w W8) := hide (HSW.out.trans (Stay.ext hX8))
        have R8 := hide hR8
        have d0 := hR8.cell (i := 0) rfl
        have KA2 := hide (appendNumber_2 v' (l1 ++ dirB (L.take i)) y BB W8 (HOW.out.ext hX8) hBW8 hy0 (by omega) (by rw [List.length_append, dirB_length, List.length_take]; have := HLN.out; omega))
        clear hg hX8 hR8 k1 k2 hBW8
        go_upto_region 9 with (go_at_call 19; (with_reducible refine KA2.out.mono ?_); rintro e w9 ⟨v9, rfl, ho9, hb9, hs9⟩; have O9 := hide ho9; have B9 : Hid (Below BB w w9) := hide (B8.out.trans hb9); have S9 : Hid (Stay w w9) := hide (S8.out.trans hs9); have R9 := hide (hs9 h8 _ _ (by decide) R8.out); clear ho9 hb9 hs9)
        clear d0 KA2 B8 S8 R8
        have d1 := R9.out.cell (i := 1) rfl
        have KA3 := hide (appendNumber_8 v9 (l1 ++ dirB (L.take i) ++ numN 2 y) z BB w9 O9.out (Nat.le_trans HB.out B9.out.size) HZ.out.1 HZ.out.2 (by rw [List.length_append, List.length_append, dirB_length, List.length_take, numN_length 2 _ (by decide)]; have := HLN.out; omega))
        go_upto_region 10 with (go_at_call 19; (with_reducible refine KA3.out.mono ?_); rintro e w10 ⟨v10, rfl, ho10, hb10, hs10⟩; have OX := hide ho10; have BX : Hid (Below BB w w10) := hide (B9.out.trans hb10); have SX : Hid (Stay w w10) := hide (S9.out.trans hs10); clear ho10 hb10 hs10)
        clear d1 KA3 B9 S9 R9 O9 hwy
        go_wp2
        refine ⟨⟨i + 1, _, by omega, rfl, by go_num, hide (by rw [dirB_snoc L i _ HE.out, ← List.append_assoc, ← List.append_assoc]; exact OX.out), BX, SX⟩, by simp [intOf]; omega⟩
      · have hii : ¬ (i : Int) < (nd : Int) := by omega
        go_wp2
        go_ret
        refine ⟨_, rfl, ?_, HBW.out, HSW.out⟩
        rw [HEND.out]
        have h := HOW.out
        rw [List.take_of_length_le (by rw [HN.out]; omega)] at h
        exact h
  | true =>
    go_upto_region 4 with fail
    have KA := hide (appendNumber_1 v l (2 * (nd : Int) + 1) BB W1 (HO.out.ext X1.out) (Nat.le_trans HB.out X1.out.size) (by omega) (by omega) (by have := HLL.out; omega))
    go_upto_region 5 with (go_at_call 19; (with_reducible refine KA.out.mono ?_); rintro e w2 ⟨v2, rfl, ho2, hb2, hs2⟩; have O2 := hide ho2; have B2 : Hid (Below BB w w2) := hide ((Below.mono X1.out HB.out).trans hb2); have S2 : Hid (Stay w w2) := hide ((Stay.ext X1.out).trans hs2); have R2 := hide (hs2 hb _ _ (by decide) R1.out); clear ho2 hb2 hs2)
    clear c8 c9 KA
    have c8 := R2.out.cell (i := 8) rfl
    obtain ⟨l1, HL1⟩ : ∃ l1, Hid (l ++ numN 1 (2 * (nd : Int) + 1) = l1) := ⟨_, hide rfl⟩
    rw [HL1.out] at O2
    have HLN : Hid (l1.length ≤ 1000001) := hide (by rw [← HL1.out, List.length_append, numN_length 1 _ (by decide)]; have := HLL.out; omega)
    have HEND : Hid (l ++ (numN 1 (cntN nd true) ++ dirB L) = l1 ++ dirB L) := hide (by rw [← HL1.out, List.append_assoc]; simp [cntN])
    go_upto_region 6 with fail
    go_loopw [0, 23] (fun pz iv wr => ∃ (i : Nat) (v' : Value), i ≤ nd ∧ v' = pz ∧ iv = .int .i64 (i : Int) ∧ Hid (Own wr BB v' (l1 ++ dirB (L.take i))) ∧ Hid (Below BB w wr) ∧ Hid (Stay w wr)) (fun _ iv _ => nd - (intOf iv).toNat)
    case atStart => exact ⟨0, _, Nat.zero_le _, rfl, rfl, hide (by rw [List.take_zero]; show Own _ _ _ (l1 ++ []); rw [List.append_nil]; exact O2.out), B2, S2⟩
    case round =>
      obtain ⟨i, v', hi, rfl, rfl, HOW, HBW, HSW⟩ := hrel
      clear O2 B2 S2 R2 c8
      by_cases hlt : i < nd
      · obtain ⟨⟨y, z⟩, he⟩ : ∃ e, L[i]? = some e := ⟨_, List.getElem?_eq_getElem (by rw [HN.out]; exact hlt)⟩
        obtain ⟨hy, hz⟩ := HL.out _ (List.mem_of_getElem? he)
        have HZ := hide hz
        have hy0 : 0 ≤ y := hy.1
        have hy1 : y < 4096 := hy.2
        obtain ⟨bb, oo, hD, k1, k2⟩ := (HR.out.ext (HX0.out.below HB0.out HBW.out)).at he
        subst hD
        have HE := hide he
        have hii : (i : Int) < (nd : Int) := by omega
        have hi0 : (0 : Int) ≤ (i : Int) := by omega
        have hwy : IntKind.u64.wrap y = y := by rw [IntKind.wrap_u64]; omega
        clear he hz hy
        go_upto_region 8 with fail
        obtain ⟨W8, hX8, hR8, hg⟩ : ∃ W8, Ext wr W8 ∧ Rw W8 wr.heap.size 47 [.int .i64 y, .int .u64 z] ∧ wr.alloc (.cells #[.int .i64 y, .int .u64 z] 47) = W8 := ⟨_, Ext.alloc _ _, Rw.new _ _ _, rfl⟩
        rw [hg]
        obtain ⟨h8, HH8⟩ : ∃ h8, Hid (wr.heap.size = h8) := ⟨_, hide rfl⟩
        rw [HH8.out] at hR8 ⊢
        have hBW8 : BB ≤ W8.heap.size := Nat.le_trans (Nat.le_trans HB.out HBW.out.size) hX8.size
        have B8 : Hid (Below BB w W8) := hide (HBW.out.trans (Below.mono hX8 (Nat.le_trans HB.out HBW.out.size)))
        have S8 : Hid (Stay w W8) := hide (HSW.out.trans (Stay.ext hX8))
        have R8 := hide hR8
        have d0 := hR8.cell (i := 0) rfl
        have KA2 := hide (appendNumber_2 v' (l1 ++ dirB (L.take i)) y BB W8 (HOW.out.ext hX8) hBW8 hy0 (by omega) (by rw [List.length_append, dirB_length, List.length_take]; have := HLN.out; omega))
        clear hg hX8 hR8 k1 k2 hBW8
        go_upto_region 9 with (go_at_call 19; (with_reducible refine KA2.out.mono ?_); rintro e w9 ⟨v9, rfl, ho9, hb9, hs9⟩; have O9 := hide ho9; have B9 : Hid (Below BB w w9) := hide (B8.out.trans hb9); have S9 : Hid (Stay w w9) := hide (S8.out.trans hs9); have R9 := hide (hs9 h8 _ _ (by decide) R8.out); clear ho9 hb9 hs9)
        clear d0 KA2 B8 S8 R8
        have d1 := R9.out.cell (i := 1) rfl
        have KA3 := hide (appendNumber_8 v9 (l1 ++ dirB (L.take i) ++ numN 2 y) z BB w9 O9.out (Nat.le_trans HB.out B9.out.size) HZ.out.1 HZ.out.2 (by rw [List.length_append, List.length_append, dirB_length, List.length_take, numN_length 2 _ (by decide)]; have := HLN.out; omega))
        go_upto_region 10 with (go_at_call 19; (with_reducible refine KA3.out.mono ?_); rintro e w10 ⟨v10, rfl, ho10, hb10, hs10⟩; have OX := hide ho10; have BX : Hid (Below BB w w10) := hide (B9.out.trans hb10); have SX : Hid (Stay w w10) := hide (S9.out.trans hs10); clear ho10 hb10 hs10)
        clear d1 KA3 B9 S9 R9 O9 hwy
        go_wp2
        refine ⟨⟨i + 1, _, by omega, rfl, by go_num, hide (by rw [dirB_snoc L i _ HE.out, ← List.append_assoc, ← List.append_assoc]; exact OX.out), BX, SX⟩, by simp [intOf]; omega⟩
      · have hii : ¬ (i : Int) < (nd : Int) := by omega
        go_wp2
        go_ret
        refine ⟨_, rfl, ?_, HBW.out, HSW.out⟩
        rw [HEND.out]
        have h := HOW.out
        rw [List.take_of_length_le (by rw [HN.out]; omega)] at h
        exact h
end Go.Proofs.YthdahgekodcloaaDoor
