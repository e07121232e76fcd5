/-
  The dirty pages of a record, put behind bytes of the call's own.
  A record as bytes: the program's Encode, plain.
  The document's Encode of records: its pieces.
  The document's reader of records: at, cut.
  The document's reader of records: cut.
  bytes.Clone.
  The reader of records: take, number.
-/
import Derived.Laws.Cover3
import Derived.Test.YtkbmcebdhiiffaaDoorPkCardRcDecodes1
import Derived.Test.YtkbmcebdhiiffaaDoorPkCardRcDecodes3
set_option linter.unusedVariables false
set_option linter.unusedSimpArgs false

namespace Go.Proofs.YtkbmcebdhiiffaaDoor
open Go.RowKit

def dirB (L : List (Int × Int)) : List UInt8 := L.flatMap fun d => numN 2 d.1 ++ numN 8 d.2
theorem dirB_length (L : List (Int × Int)) : (dirB L).length = 10 * L.length := by
  induction L with
  | nil => rfl
  | cons d L ih =>
    have e : dirB (d :: L) = (numN 2 d.1 ++ numN 8 d.2) ++ dirB L := by simp [dirB]
    rw [e, List.length_append, List.length_append, numN_length 2 _ (by decide), numN_length 8 _ (by decide), ih, List.length_cons]
    omega
theorem dirB_snoc (L : List (Int × Int)) (i : Nat) (e : Int × Int) (h : L[i]? = some e) : dirB (L.take (i + 1)) = dirB (L.take i) ++ (numN 2 e.1 ++ numN 8 e.2) := by
  rw [List.take_add_one, h]
  simp [dirB]
def cntN (nd : Nat) (op : Bool) : Int := 2 * (nd : Int) + if op then 1 else 0
set_option maxRecDepth 20000 in
set_option maxHeartbeats 3200000 in
theorem appendCheck_any (v : Value) (l : List UInt8) (k tx pv pg off nx : Int) (A B D : Option Addr) (nb a na b' nd d : Nat) (op : Bool) (w0 w : World) (BB : Nat) (L : List (Int × Int)) (hr : RdD w0 D L) (hx0 : Ext w0 w) (hB0 : w0.heap.size ≤ BB) (hB : BB ≤ w.heap.size) (hn : L.length = nd) (hnd : nd ≤ 64)
    (hL : ∀ e ∈ L, (0 ≤ e.1 ∧ e.1 < 4096) ∧ 0 ≤ e.2 ∧ e.2 < 18446744073709551616) (ho : Own w BB v l) (hl : l.length ≤ 1000000) :
    Calls Tryd.prog 20 #[v, .agg #[.int .u8 k, .int .u64 tx, .int .u64 pv, .int .i64 pg, .int .i64 off, .slice A nb a, .slice B na b', .int .u64 nx, .slice D nd d, .bool op]] w (AddP w BB (l ++ (numN 1 (cntN nd op) ++ dirB L))) := by
  have HR := hide hr
  have HX0 := hide hx0
  have HB0 := hide hB0
  have HB := hide hB
  have HN := hide hn
  have HL := hide hL
  have HO := hide ho
  have HLL := hide hl
  have hw2 : IntKind.u64.wrap (2 * (nd : Int)) = 2 * (nd : Int) := by rw [IntKind.wrap_u64]; omega
  have hw3 : IntKind.u64.wrap (2 * (nd : Int) + 1) = 2 * (nd : Int) + 1 := by rw [IntKind.wrap_u64]; omega
  have hndi : (nd : Int) ≤ 64 := by omega
  clear hr hx0 hB0 hB hn hL ho hl
  go_enter Tryd.func20, Tryd.ntmps20
  go_upto_region 1 with fail
  obtain ⟨W1, hX1, hR1, hg⟩ : ∃ W1, Ext w W1 ∧ Rw W1 w.heap.size 26 [.int .u8 k, .int .u64 tx, .int .u64 pv, .int .i64 pg, .int .i64 off, .slice A nb a, .slice B na b', .int .u64 nx, .slice D nd d, .bool op] ∧ w.alloc (.cells #[.int .u8 k, .int .u64 tx, .int .u64 pv, .int .i64 pg, .int .i64 off, .slice A nb a, .slice B na b', .int .u64 nx, .slice D nd d, .bool op] 26) = W1 := ⟨_, Ext.alloc _ _, Rw.new _ _ _, rfl⟩
  rw [hg]
  obtain ⟨hb, HHB⟩ : ∃ hb, Hid (w.heap.size = hb) := ⟨_, hide rfl⟩
  rw [HHB.out] at hR1 ⊢
  have X1 := hide hX1
  have R1 := hide hR1
  have c8 := hR1.cell (i := 8) rfl
  have c9 := hR1.cell (i := 9) rfl
  clear hg hX1 hR1
  cases op with
  | false =>
    go_upto_region 4 with fail
    have KA := hide (appendNumber_1 v l (2 * (nd : Int)) BB W1 (HO.out.ext X1.out) (Nat.le_trans HB.out X1.out.size) (by omega) (by omega) (by have := HLL.out; omega))
    go_upto_region 5 with (go_at_call 19; (with_reducible refine KA.out.mono ?_); rintro e w2 ⟨v2, rfl, ho2, hb2, hs2⟩; have O2 := hide ho2; have B2 : Hid (Below BB w w2) := hide ((Below.mono X1.out HB.out).trans hb2); have S2 : Hid (Stay w w2) := hide ((Stay.ext X1.out).trans hs2); have R2 := hide (hs2 hb _ _ (by decide) R1.out); clear ho2 hb2 hs2)
    clear c8 c9 KA
    have c8 := R2.out.cell (i := 8) rfl
    obtain ⟨l1, HL1⟩ : ∃ l1, Hid (l ++ numN 1 (2 * (nd : Int)) = l1) := ⟨_, hide rfl⟩
    rw [HL1.out] at O2
    have HLN : Hid (l1.length ≤ 1000001) := hide (by rw [← HL1.out, List.length_append, numN_length 1 _ (by decide)]; have := HLL.out; omega)
    have HEND : Hid (l ++ (numN 1 (cntN nd false) ++ dirB L) = l1 ++ dirB L) := hide (by rw [← HL1.out, List.append_assoc]; simp [cntN])
    go_upto_region 6 with fail
    go_loopw [0, 23] (fun pz iv wr => ∃ (i : Nat) (v' : Value), i ≤ nd ∧ v' = pz ∧ iv = .int .i64 (i : Int) ∧ Hid (Own wr BB v' (l1 ++ dirB (L.take i))) ∧ Hid (Below BB w wr) ∧ Hid (Stay w wr)) (fun _ iv _ => nd - (intOf iv).toNat)
    case atStart => exact ⟨0, _, Nat.zero_le _, rfl, rfl, hide (by rw [List.take_zero]; show Own _ _ _ (l1 ++ []); rw [List.append_nil]; exact O2.out), B2, S2⟩
    case round =>
      obtain ⟨i, v', hi, rfl, rfl, HOW, HBW, HSW⟩ := hrel
      clear O2 B2 S2 R2 c8
      by_cases hlt : i < nd
      · obtain ⟨⟨y, z⟩, he⟩ : ∃ e, L[i]? = some e := ⟨_, List.getElem?_eq_getElem (by rw [HN.out]; exact hlt)⟩
        obtain ⟨hy, hz⟩ := HL.out _ (List.mem_of_getElem? he)
        have HZ := hide hz
        have hy0 : 0 ≤ y := hy.1
        have hy1 : y < 4096 := hy.2
        obtain ⟨bb, oo, hD, k1, k2⟩ := (HR.out.ext (HX0.out.below HB0.out HBW.out)).at he
        subst hD
        have HE := hide he
        have hii : (i : Int) < (nd : Int) := by omega
        have hi0 : (0 : Int) ≤ (i : Int) := by omega
        have hwy : IntKind.u64.wrap y = y := by rw [IntKind.wrap_u64]; omega
        clear he hz hy
        go_upto_region 8 with fail
        obtain ⟨W8, hX8, hR8, hg⟩ : ∃ W8, Ext wr W8 ∧ Rw W8 wr.heap.size 47 [.int .i64 y, .int .u64 z] ∧ wr.alloc (.cells #[.int .i64 y, .int .u64 z] 47) = W8 := ⟨_, Ext.alloc _ _, Rw.new _ _ _, rfl⟩
        rw [hg]
        obtain ⟨h8, HH8⟩ : ∃ h8, Hid (wr.heap.size = h8) := ⟨_, hide rfl⟩
        rw [HH8.out] at hR8 ⊢
        have hBW8 : BB ≤ W8.heap.size := Nat.le_trans (Nat.le_trans HB.out HBW.out.size) hX8.size
        have B8 : Hid (Below BB w W8) := hide (HBW.out.trans (Below.mono hX8 (Nat.le_trans HB.out HBW.out.size)))
        have S8 : Hid (Stay w W8) := hide (HSW.out.trans (Stay.ext hX8))
        have R8 := hide hR8
        have d0 := hR8.cell (i := 0) rfl
        have KA2 := hide (appendNumber_2 v' (l1 ++ dirB (L.take i)) y BB W8 (HOW.out.ext hX8) hBW8 hy0 (by omega) (by rw [List.length_append, dirB_length, List.length_take]; have := HLN.out; omega))
        clear hg hX8 hR8 k1 k2 hBW8
        go_upto_region 9 with (go_at_call 19; (with_reducible refine KA2.out.mono ?_); rintro e w9 ⟨v9, rfl, ho9, hb9, hs9⟩; have O9 := hide ho9; have B9 : Hid (Below BB w w9) := hide (B8.out.trans hb9); have S9 : Hid (Stay w w9) := hide (S8.out.trans hs9); have R9 := hide (hs9 h8 _ _ (by decide) R8.out); clear ho9 hb9 hs9)
        clear d0 KA2 B8 S8 R8
        have d1 := R9.out.cell (i := 1) rfl
        have KA3 := hide (appendNumber_8 v9 (l1 ++ dirB (L.take i) ++ numN 2 y) z BB w9 O9.out (Nat.le_trans HB.out B9.out.size) HZ.out.1 HZ.out.2 (by rw [List.length_append, List.length_append, dirB_length, List.length_take, numN_length 2 _ (by decide)]; have := HLN.out; omega))
        go_upto_region 10 with (go_at_call 19; (with_reducible refine KA3.out.mono ?_); rintro e w10 ⟨v10, rfl, ho10, hb10, hs10⟩; have OX := hide ho10; have BX : Hid (Below BB w w10) := hide (B9.out.trans hb10); have SX : Hid (Stay w w10) := hide (S9.out.trans hs10); clear ho10 hb10 hs10)
        clear d1 KA3 B9 S9 R9 O9 hwy
        go_wp2
        refine ⟨⟨i + 1, _, by omega, rfl, by go_num, hide (by rw [dirB_snoc L i _ HE.out, ← List.append_assoc, ← List.append_assoc]; exact OX.out), BX, SX⟩, by simp [intOf]; omega⟩
      · have hii : ¬ (i : Int) < (nd : Int) := by omega
        go_wp2
        go_ret
        refine ⟨_, rfl, ?_, HBW.out, HSW.out⟩
        rw [HEND.out]
        have h := HOW.out
        rw [List.take_of_length_le (by rw [HN.out]; omega)] at h
        exact h
  | true =>
    go_upto_region 4 with fail
    have KA := hide (appendNumber_1 v l (2 * (nd : Int) + 1) BB W1 (HO.out.ext X1.out) (Nat.le_trans HB.out X1.out.size) (by omega) (by omega) (by have := HLL.out; omega))
    go_upto_region 5 with (go_at_call 19; (with_reducible refine KA.out.mono ?_); rintro e w2 ⟨v2, rfl, ho2, hb2, hs2⟩; have O2 := hide ho2; have B2 : Hid (Below BB w w2) := hide ((Below.mono X1.out HB.out).trans hb2); have S2 : Hid (Stay w w2) := hide ((Stay.ext X1.out).trans hs2); have R2 := hide (hs2 hb _ _ (by decide) R1.out); clear ho2 hb2 hs2)
    clear c8 c9 KA
    have c8 := R2.out.cell (i := 8) rfl
    obtain ⟨l1, HL1⟩ : ∃ l1, Hid (l ++ numN 1 (2 * (nd : Int) + 1) = l1) := ⟨_, hide rfl⟩
    rw [HL1.out] at O2
    have HLN : Hid (l1.length ≤ 1000001) := hide (by rw [← HL1.out, List.length_append, numN_length 1 _ (by decide)]; have := HLL.out; omega)
    have HEND : Hid (l ++ (numN 1 (cntN nd true) ++ dirB L) = l1 ++ dirB L) := hide (by rw [← HL1.out, List.append_assoc]; simp [cntN])
    go_upto_region 6 with fail
    go_loopw [0, 23] (fun pz iv wr => ∃ (i : Nat) (v' : Value), i ≤ nd ∧ v' = pz ∧ iv = .int .i64 (i : Int) ∧ Hid (Own wr BB v' (l1 ++ dirB (L.take i))) ∧ Hid (Below BB w wr) ∧ Hid (Stay w wr)) (fun _ iv _ => nd - (intOf iv).toNat)
    case atStart => exact ⟨0, _, Nat.zero_le _, rfl, rfl, hide (by rw [List.take_zero]; show Own _ _ _ (l1 ++ []); rw [List.append_nil]; exact O2.out), B2, S2⟩
    case round =>
      obtain ⟨i, v', hi, rfl, rfl, HOW, HBW, HSW⟩ := hrel
      clear O2 B2 S2 R2 c8
      by_cases hlt : i < nd
      · obtain ⟨⟨y, z⟩, he⟩ : ∃ e, L[i]? = some e := ⟨_, List.getElem?_eq_getElem (by rw [HN.out]; exact hlt)⟩
        obtain ⟨hy, hz⟩ := HL.out _ (List.mem_of_getElem? he)
        have HZ := hide hz
        have hy0 : 0 ≤ y := hy.1
        have hy1 : y < 4096 := hy.2
        obtain ⟨bb, oo, hD, k1, k2⟩ := (HR.out.ext (HX0.out.below HB0.out HBW.out)).at he
        subst hD
        have HE := hide he
        have hii : (i : Int) < (nd : Int) := by omega
        have hi0 : (0 : Int) ≤ (i : Int) := by omega
        have hwy : IntKind.u64.wrap y = y := by rw [IntKind.wrap_u64]; omega
        clear he hz hy
        go_upto_region 8 with fail
        obtain ⟨W8, hX8, hR8, hg⟩ : ∃ W8, Ext wr W8 ∧ Rw W8 wr.heap.size 47 [.int .i64 y, .int .u64 z] ∧ wr.alloc (.cells #[.int .i64 y, .int .u64 z] 47) = W8 := ⟨_, Ext.alloc _ _, Rw.new _ _ _, rfl⟩
        rw [hg]
        obtain ⟨h8, HH8⟩ : ∃ h8, Hid (wr.heap.size = h8) := ⟨_, hide rfl⟩
        rw [HH8.out] at hR8 ⊢
        have hBW8 : BB ≤ W8.heap.size := Nat.le_trans (Nat.le_trans HB.out HBW.out.size) hX8.size
        have B8 : Hid (Below BB w W8) := hide (HBW.out.trans (Below.mono hX8 (Nat.le_trans HB.out HBW.out.size)))
        have S8 : Hid (Stay w W8) := hide (HSW.out.trans (Stay.ext hX8))
        have R8 := hide hR8
        have d0 := hR8.cell (i := 0) rfl
        have KA2 := hide (appendNumber_2 v' (l1 ++ dirB (L.take i)) y BB W8 (HOW.out.ext hX8) hBW8 hy0 (by omega) (by rw [List.length_append, dirB_length, List.length_take]; have := HLN.out; omega))
        clear hg hX8 hR8 k1 k2 hBW8
        go_upto_region 9 with (go_at_call 19; (with_reducible refine KA2.out.mono ?_); rintro e w9 ⟨v9, rfl, ho9, hb9, hs9⟩; have O9 := hide ho9; have B9 : Hid (Below BB w w9) := hide (B8.out.trans hb9); have S9 : Hid (Stay w w9) := hide (S8.out.trans hs9); have R9 := hide (hs9 h8 _ _ (by decide) R8.out); clear ho9 hb9 hs9)
        clear d0 KA2 B8 S8 R8
        have d1 := R9.out.cell (i := 1) rfl
        have KA3 := hide (appendNumber_8 v9 (l1 ++ dirB (L.take i) ++ numN 2 y) z BB w9 O9.out (Nat.le_trans HB.out B9.out.size) HZ.out.1 HZ.out.2 (by rw [List.length_append, List.length_append, dirB_length, List.length_take, numN_length 2 _ (by decide)]; have := HLN.out; omega))
        go_upto_region 10 with (go_at_call 19; (with_reducible refine KA3.out.mono ?_); rintro e w10 ⟨v10, rfl, ho10, hb10, hs10⟩; have OX := hide ho10; have BX : Hid (Below BB w w10) := hide (B9.out.trans hb10); have SX : Hid (Stay w w10) := hide (S9.out.trans hs10); clear ho10 hb10 hs10)
        clear d1 KA3 B9 S9 R9 O9 hwy
        go_wp2
        refine ⟨⟨i + 1, _, by omega, rfl, by go_num, hide (by rw [dirB_snoc L i _ HE.out, ← List.append_assoc, ← List.append_assoc]; exact OX.out), BX, SX⟩, by simp [intOf]; omega⟩
      · have hii : ¬ (i : Int) < (nd : Int) := by omega
        go_wp2
        go_ret
        refine ⟨_, rfl, ?_, HBW.out, HSW.out⟩
        rw [HEND.out]
        have h := HOW.out
        rw [List.take_of_length_le (by rw [HN.out]; omega)] at h
        exact h
end Go.Proofs.YtkbmcebdhiiffaaDoor
namespace Go.Proofs.YtkbmcebdhiiffaaDoor
open Go.RowKit

/-- A record's bytes but for its sum. -/
def recB (k tx pv pg off nx : Int) (bf af : List UInt8) (L : List (Int × Int)) (op : Bool) : List UInt8 :=
  numN 1 k ++ (numN 8 tx ++ ((if hpv k then numN 8 pv else []) ++ ((if hch k then numN 2 pg ++ (numN 2 off ++ (numN 2 (af.length : Int) ++ (bf ++ af))) else []) ++ ((if hnx k then numN 8 nx else []) ++ (if hck k then numN 1 (cntN L.length op) ++ dirB L else [])))))
def fullB (k tx pv pg off nx : Int) (bf af : List UInt8) (L : List (Int × Int)) (op : Bool) : List UInt8 := recB k tx pv pg off nx bf af L op ++ sumB (recB k tx pv pg off nx bf af L op)
theorem risB_mem : ∀ (L : List (Int × Int)) (last : Int), -1 ≤ last → risB last L = true → ∀ e ∈ L, 0 ≤ e.1 ∧ e.1 < 4096
  | [], _, _, _, e, he => by cases he
  | x :: L, last, hl, h, e, he => by
    simp only [risB, Bool.and_eq_true, decide_eq_true_eq] at h
    rcases List.mem_cons.1 he with rfl | he
    · omega
    · exact risB_mem L x.1 (by omega) h.2.2 e he
def EncP (w : World) (l : List UInt8) (e : Ending) (w' : World) : Prop := ∃ v', e = .returned (.tuple #[v', .int .i64 0]) ∧ Own w' w.heap.size v' l ∧ Ext w w'
theorem own_mono {w : World} {B B' : Nat} {v : Value} {l : List UInt8} (h : Own w B v l) (hB : B' ≤ B) : Own w B' v l := by
  refine ⟨h.1, ?_⟩
  rcases h.2 with hn | ⟨g, cap, cur, rfl, hb, rest⟩
  · exact .inl hn
  · exact .inr ⟨g, cap, cur, rfl, Nat.le_trans hB hb, rest⟩
end Go.Proofs.YtkbmcebdhiiffaaDoor
namespace Go.Proofs.YtkbmcebdhiiffaaDoor
open Go.RowKit

def NumP (w : World) (n : Nat) (l : List UInt8) (e : Ending) (w' : World) : Prop := ∃ A c, e = .returned (.slice A n c) ∧ n ≤ c ∧ Rd w' A l ∧ Ext w w'
theorem runum (u : Int) (w : World) (h0 : 0 ≤ u) (h1 : u < 18446744073709551616) : Calls Tryd.prog 24 #[.int .u64 u] w (NumP w 8 (numN 8 u)) :=
  (ruint_any u w h0 h1).mono fun e w' ⟨v, he, hx, A, c, hv, hc, hr⟩ => ⟨A, c, by rw [he, hv, be64_length], by rw [be64_length] at hc; exact hc, hr, hx⟩
theorem own_one (W : World) (B : Nat) (hB : B ≤ W.heap.size) (n : Int) (h0 : 0 ≤ n) (h1 : n < 256) : Own (W.alloc (.cells #[.int .u8 n] 5)) B (.slice (some ⟨W.heap.size, 0, none⟩) 1 1) [b8 n] :=
  ⟨rfl, .inr ⟨W.heap.size, 1, #[.int .u8 n], rfl, hB, heap_alloc_new W _, Nat.le_refl _, by unfold maxLen; decide, rfl, by simp [bs, b8_toNat h0 h1]⟩⟩
theorem rd_two (w : World) (t : TypeId) (a b : Int) (ha : 0 ≤ a ∧ a < 256) (hb : 0 ≤ b ∧ b < 256) : Rd (w.alloc (.cells #[.int .u8 a, .int .u8 b] t)) (some ⟨w.heap.size, 0, none⟩) [b8 a, b8 b] := by
  have h := Rd.new w t [b8 a, b8 b] []
  simpa [bs, b8_toNat ha.1 ha.2, b8_toNat hb.1 hb.2] using h
set_option maxHeartbeats 400000 in
theorem two_any (u : Int) (w : World) (h0 : 0 ≤ u) (h1 : u < 65536) : Calls Tryd.prog 25 #[.int .i64 u] w (NumP w 2 (numN 2 u)) := by
  have e1 : u.tdiv 256 = u / 256 := Int.tdiv_eq_ediv_of_nonneg h0
  have e2 : u.tmod 256 = u % 256 := Int.tmod_eq_emod_of_nonneg h0
  have hq0 : 0 ≤ u / 256 := by omega
  have hq1 : u / 256 < 256 := by omega
  have hm0 : 0 ≤ u % 256 := by omega
  have hm1 : u % 256 < 256 := by omega
  go_enter Tryd.func25, Tryd.ntmps25
  go_wp2
  go_ret
  refine ⟨_, _, rfl, Nat.le_refl _, ?_, Ext.alloc _ _⟩
  have e : numN 2 u = [b8 (u / 256 % 256), b8 (u % 256)] := rfl
  rw [e, show u / 256 % 256 = u / 256 from by omega]
  exact rd_two _ _ _ _ ⟨hq0, hq1⟩ ⟨hm0, hm1⟩
end Go.Proofs.YtkbmcebdhiiffaaDoor
namespace Go.Proofs.YtkbmcebdhiiffaaDoor
open Go.RowKit

/-- The byte at a place; 0 behind the end. -/
def byteV (l : List UInt8) (i : Nat) : Nat := match l[i]? with | some x => x.toNat | none => 0
/-- The number of k bytes from a place on. -/
def atV (l : List UInt8) (f : Nat) : Nat → Nat
  | 0 => 0
  | k + 1 => atV l f k * 256 + byteV l (f + k)
theorem byteV_lt (l : List UInt8) (i : Nat) : byteV l i < 256 := by
  unfold byteV
  split
  · rename_i x _; exact x.toNat_lt
  · decide
theorem atV_lt (l : List UInt8) (f : Nat) : ∀ k, atV l f k < 256 ^ k
  | 0 => Nat.one_pos
  | k + 1 => by
    have h1 := atV_lt l f k
    have h2 := byteV_lt l (f + k)
    show atV l f k * 256 + byteV l (f + k) < 256 ^ (k + 1)
    rw [Nat.pow_succ]
    omega
theorem atV_small (l : List UInt8) (f k : Nat) (h : k ≤ 7) : atV l f k < 72057594037927936 :=
  Nat.lt_of_lt_of_le (atV_lt l f k) (by have := Nat.pow_le_pow_right (n := 256) (by decide) h; simpa using this)
set_option maxRecDepth 20000 in
set_option maxHeartbeats 1600000 in
theorem at_any (A : Option Addr) (l : List UInt8) (n c f k : Nat) (fi ki : Int) (w : World) (hr : Rd w A l) (hn : l.length = n) (hfi : fi = (f : Int)) (hki : ki = (k : Int)) (hf : f ≤ 140737488351232) (hk : k ≤ 8) :
    Calls Tryd.prog 27 #[.slice A n c, .int .i64 fi, .int .i64 ki] w (fun e w' => e = .returned (.int .u64 (atV l f k : Int)) ∧ w' = w) := by
  have HR := hide hr
  have HN := hide hn
  subst hfi hki
  have hfI : (f : Int) ≤ 140737488351232 := by omega
  have hkI : (k : Int) ≤ 8 := by omega
  clear hr hn
  go_enter Tryd.func27, Tryd.ntmps27
  go_upto_region 3 with fail
  go_loopw [7, 8] (fun pu iv wr => ∃ i j u : Nat, j ≤ k ∧ Hid (i = f + j) ∧ Hid (atV l f j = u) ∧ pu = .int .u64 (u : Int) ∧ iv = .int .i64 (i : Int) ∧ wr = w) (fun _ iv _ => f + k - (intOf iv).toNat)
  case atStart => exact ⟨f, 0, 0, Nat.zero_le _, hide rfl, hide rfl, rfl, rfl, rfl⟩
  case round =>
    obtain ⟨i, j, u, hj, HIJ, HU, rfl, rfl, rfl⟩ := hrel
    by_cases hlt : j < k
    · have hii : (i : Int) < (f : Int) + (k : Int) := by have := HIJ.out; omega
      have hiI : (i : Int) ≤ 140737488351240 := by have := HIJ.out; omega
      have hu : u < 72057594037927936 := by rw [← HU.out]; exact atV_small l f j (by omega)
      have hw1 : IntKind.u64.wrap ((u : Int) * 256) = (u : Int) * 256 := by rw [IntKind.wrap_u64]; omega
      by_cases hin : i < n
      · obtain ⟨x, hx⟩ : ∃ x, l[i]? = some x := ⟨_, List.getElem?_eq_getElem (by rw [HN.out]; exact hin)⟩
        obtain ⟨b, off, hA, hc⟩ := HR.out (by intro h; rw [h] at hx; cases hx)
        subst hA
        have hcx := hc i x hx
        have hxl := x.toNat_lt
        have hinI : (i : Int) < (n : Int) := by omega
        have hw2 : IntKind.u64.wrap ((u : Int) * 256 + (x.toNat : Int)) = (u : Int) * 256 + (x.toNat : Int) := by rw [IntKind.wrap_u64]; omega
        clear hc
        go_wp2
        refine ⟨⟨i + 1, j + 1, u * 256 + x.toNat, by omega, hide (by have := HIJ.out; omega), hide ?_, by push_cast; rfl, by go_num, by trivial⟩, by have := HIJ.out; simp [intOf]; omega⟩
        show atV l f j * 256 + byteV l (f + j) = _
        rw [HU.out, ← HIJ.out, byteV, hx]
      · have hinI : ¬ (i : Int) < (n : Int) := by omega
        go_wp2
        refine ⟨⟨i + 1, j + 1, u * 256, by omega, hide (by have := HIJ.out; omega), hide ?_, by push_cast; rfl, by go_num, by trivial⟩, by have := HIJ.out; simp [intOf]; omega⟩
        show atV l f j * 256 + byteV l (f + j) = _
        rw [HU.out, ← HIJ.out, byteV, List.getElem?_eq_none (by rw [HN.out]; omega)]
        rfl
    · obtain rfl : j = k := by omega
      have hii : ¬ (i : Int) < (f : Int) + (j : Int) := by have := HIJ.out; omega
      go_wp2
      go_ret
      rw [← HU.out]
      exact ⟨rfl, rfl⟩
end Go.Proofs.YtkbmcebdhiiffaaDoor
namespace Go.Proofs.YtkbmcebdhiiffaaDoor
open Go.RowKit

def CutP (w0 w : World) (l : List UInt8) (f k : Nat) (e : Ending) (w' : World) : Prop := ∃ A c, e = .returned (.slice A ((l.drop f).take k).length c) ∧ Rd w0 A ((l.drop f).take k) ∧ w' = w
theorem cutP_of {w0 w w' : World} {A : Option Addr} {l : List UInt8} {f k m c : Nat} (hm : ((l.drop f).take k).length = m) (hr : Rd w0 A ((l.drop f).take k)) (hw : w' = w) : CutP w0 w l f k (.returned (.slice A m c)) w' := ⟨A, c, by rw [hm], hr, hw⟩
theorem rd_nil_any (w : World) (A : Option Addr) {l : List UInt8} (h : l = []) : Rd w A l := fun hn => absurd h hn
theorem rd_map {w : World} {A : Option Addr} {l : List UInt8} (h : Rd w A l) (f k : Nat) : Rd w (Option.map (fun x => x.add f) A) ((l.drop f).take k) := by
  cases A with
  | none => exact rd_nil_any _ _ (by
      cases l with
      | nil => simp
      | cons x xs => obtain ⟨_, _, hA, _⟩ := h (by simp); cases hA)
  | some a => exact (Rd.drop h f).take k
set_option maxRecDepth 20000 in
set_option maxHeartbeats 1600000 in
theorem cut_any (A : Option Addr) (l : List UInt8) (n c f k : Nat) (fi ki : Int) (w0 w : World) (hr : Rd w0 A l) (hn : l.length = n) (hnc : n ≤ c) (hnb : n ≤ 140737488351232) (hfi : fi = (f : Int)) (hki : ki = (k : Int)) (hf : f ≤ 1000000) (hk : k ≤ 1000000) :
    Calls Tryd.prog 28 #[.slice A n c, .int .i64 fi, .int .i64 ki] w (CutP w0 w l f k) := by
  have HR := hide hr
  have HN := hide hn
  subst hfi hki
  have hfI : (f : Int) ≤ 1000000 := by omega
  have hkI : (k : Int) ≤ 1000000 := by omega
  have hnI : (n : Int) ≤ 140737488351232 := by omega
  have hncI : (n : Int) ≤ (c : Int) := by omega
  clear hr hn
  by_cases h1 : n < f
  · have h1I : (n : Int) < (f : Int) := by omega
    have HNIL : Hid ((l.drop f).take k = []) := hide (by rw [List.drop_of_length_le (by rw [HN.out]; omega)]; simp)
    have hnn : (n : Int) - (n : Int) = 0 := by omega
    by_cases h2 : 0 < k
    · have h2I : (0 : Int) < (k : Int) := by omega
      have h00 : (n : Int) + 0 = (n : Int) := by omega
      go_enter Tryd.func28, Tryd.ntmps28
      go_wp2
      all_goals
        go_ret
        exact cutP_of (by rw [HNIL.out]; rfl) (rd_nil_any _ _ HNIL.out) rfl
    · obtain rfl : k = 0 := by omega
      go_enter Tryd.func28, Tryd.ntmps28
      go_wp2
      all_goals
        go_ret
        exact cutP_of (by rw [HNIL.out]; rfl) (rd_nil_any _ _ HNIL.out) rfl
  · have h1I : ¬ (n : Int) < (f : Int) := by omega
    by_cases h2 : n - f < k
    · have h2I : (n : Int) - (f : Int) < (k : Int) := by omega
      have h00 : (f : Int) + ((n : Int) - (f : Int)) = (n : Int) := by omega
      go_enter Tryd.func28, Tryd.ntmps28
      go_wp2
      all_goals go_ret
      · exact cutP_of (by rw [List.length_take, List.length_drop, HN.out]; omega) (rd_nil_any _ _ (List.eq_nil_of_length_eq_zero (by rw [List.length_take, List.length_drop, HN.out]; omega))) rfl
      · exact cutP_of (by rw [List.length_take, List.length_drop, HN.out]; omega) (rd_map HR.out _ _) rfl
    · have h2I : ¬ (n : Int) - (f : Int) < (k : Int) := by omega
      have h3I : (f : Int) + (k : Int) ≤ (n : Int) := by omega
      go_enter Tryd.func28, Tryd.ntmps28
      go_wp2
      all_goals go_ret
      · exact cutP_of (by rw [List.length_take, List.length_drop, HN.out]; omega) (rd_nil_any _ _ (List.eq_nil_of_length_eq_zero (by rw [List.length_take, List.length_drop, HN.out]; omega))) rfl
      · exact cutP_of (by rw [List.length_take, List.length_drop, HN.out]; omega) (rd_map HR.out _ _) rfl
end Go.Proofs.YtkbmcebdhiiffaaDoor
namespace Go.Proofs.YtkbmcebdhiiffaaDoor
open Go.RowKit

theorem run_eql_nil {P : Program} (w : World) (t e : TypeId) (a : Option Addr) (l c : Nat) (h : P.underlying t = some (.slice e)) : (binOp .eql t (.slice a l c) (.slice none 0 0)).run P w = .ok (.bool a.isNone) w := by
  simp only [binOp]
  simp [run_equal_slice_nil w t e a l c h]
theorem Own.empty (w : World) : Own (w.alloc (.cells #[] 5)) w.heap.size (.slice (some ⟨w.heap.size, 0, none⟩) 0 0) [] :=
  ⟨rfl, .inr ⟨w.heap.size, 0, #[], rfl, Nat.le_refl _, heap_alloc_new w _, Nat.le_refl _, by unfold maxLen; decide, rfl, rfl⟩⟩
/-- It stays, if just blocks below turn. -/
theorem Own.farB {w : World} {B : Nat} {v : Value} {l : List UInt8} (h : Own w B v l) {g : Nat} (hg : g < B) (i : Nat) (u : Value) : Own (w.setCell ⟨g, i, none⟩ u) B v l := by
  refine ⟨h.1, ?_⟩
  rcases h.2 with hn | ⟨g', cap, cur, rfl, hb, hg', rest⟩
  · exact .inl hn
  · exact .inr ⟨g', cap, cur, rfl, hb, (Below.heap_setCell w ⟨g, i, none⟩ u g' (by show g' ≠ g; omega)).trans hg', rest⟩
set_option maxRecDepth 20000 in
set_option maxHeartbeats 800000 in
theorem clone_any (A : Option Addr) (l : List UInt8) (n c : Nat) (w : World) (hr : Rd w A l) (hn : l.length = n) (hl : n ≤ 140737488351232) : Calls Tryd.prog 35 #[.slice A n c] w (Ret w (fun w' v => Own w' w.heap.size v l)) := by
  rcases A with _ | a
  · have hl : l = [] := by
      cases l with
      | nil => rfl
      | cons x xs => obtain ⟨_, _, hA, _⟩ := hr (by simp); cases hA
    subst hl
    clear hr
    have hq := fun (W : World) => run_eql_nil (P := Tryd.prog) W 23 5 none n c Tryd.underlying23
    go_enter Tryd.func35, Tryd.ntmps35
    go_wp2
    go_ret
    exact Ret.mk (Ext.refl _) (Own.nil _ _)
  · have HR := hide hr
    have HL := hide hl
    have hq := fun (W : World) => run_eql_nil (P := Tryd.prog) W 23 5 (some a) n c Tryd.underlying23
    clear hr hl
    go_enter Tryd.func35, Tryd.ntmps35
    go_wp2_with (at_builtin; refine wpList_cat rfl (.tmp 5) (.tmp 6) rfl w.heap.size _ [] l _ n c rfl rfl hn.symm (Own.empty w) (HR.out.ext (Ext.alloc _ _)) (by simp) (by rw [List.length_nil, hn]; have := HL.out; omega) ?_; intro v2 w2 hown hb; rw [List.nil_append] at hown; have O2 := hide hown; have X2 : Hid (Ext w w2) := hide (Below.trans (Ext.alloc w _) hb); clear hown hb)
    go_ret
    exact Ret.mk X2.out O2.out
end Go.Proofs.YtkbmcebdhiiffaaDoor
namespace Go.Proofs.YtkbmcebdhiiffaaDoor
open Go.RowKit

/-- What is taken from the front of the bytes that are left. -/
def tk (n : Nat) (st : List UInt8 × Bool) : List UInt8 × (List UInt8 × Bool) := if st.1.length < n then ([], ([], true)) else (st.1.take n, (st.1.drop n, st.2))
/-- A reader's block; the bytes that are left lie where they lay in w0. -/
structure RdrAt (w0 w : World) (g : Nat) (st : List UInt8 × Bool) : Prop where
  out : ∃ A c, Rw w g 54 [.slice A st.1.length c, .bool st.2] ∧ st.1.length ≤ c ∧ ((A = none ∧ st.1 = [] ∧ c = 0) ∨ ∃ b off, A = some ⟨b, off, none⟩ ∧ ∀ j u, st.1[j]? = some u → w0.cell? ⟨b, off + j, none⟩ = some (.int .u8 (u.toNat : Int)))
theorem RdrAt.lt {w0 w : World} {g : Nat} {st : List UInt8 × Bool} (h : RdrAt w0 w g st) : g < w.heap.size := by
  obtain ⟨A, c, hr, _⟩ := h.out
  exact hr.lt
theorem RdrAt.same {w0 w w' : World} {g : Nat} {st : List UInt8 × Bool} (h : RdrAt w0 w g st) (hx : w'.heap[g]? = w.heap[g]?) : RdrAt w0 w' g st := by
  obtain ⟨A, c, hr, hc, ha⟩ := h.out
  exact ⟨A, c, hx.trans hr, hc, ha⟩
theorem RdrAt.ext {w0 w w' : World} {g : Nat} {st : List UInt8 × Bool} (h : RdrAt w0 w g st) (hx : Ext w w') : RdrAt w0 w' g st := h.same (hx.block g h.lt)
/-- What a call of the reader leaves beside its answer. -/
def RdrP (w0 w : World) (g : Nat) (st : List UInt8 × Bool) (S : World → Value → Prop) (e : Ending) (w' : World) : Prop := ∃ v, e = .returned v ∧ S w' v ∧ RdrAt w0 w' g st ∧ w.grownBy w' (some g)
theorem grown_set {w w1 : World} {g i : Nat} {v : Value} (h : w.grownBy w1 (some g)) : w.grownBy (w1.setCell ⟨g, i, none⟩ v) (some g) :=
  ⟨h.os, h.tape, h.output, Nat.le_trans h.size (by simp [World.setCell]), fun k hk hne => (Below.heap_setCell w1 ⟨g, i, none⟩ v k (fun e => hne (by rw [e]))).trans (h.block k hk hne)⟩
theorem grown_of_ext {w w' : World} (h : Ext w w') (r : Option Nat) : w.grownBy w' r := ⟨h.os, h.tape, h.output, h.size, fun k hk _ => h.block k hk⟩
set_option maxRecDepth 20000 in
set_option maxHeartbeats 1600000 in
theorem take_any (g n : Nat) (l : List UInt8) (s : Bool) (w0 w : World) (hx : Ext w0 w) (h : RdrAt w0 w g (l, s)) (hl : l.length ≤ 140737488351232) :
    Calls Tryd.prog 33 #[.pointer (some ⟨g, 0, none⟩), .int .i64 (n : Int)] w (RdrP w0 w g (tk n (l, s)).2 (fun w' v => Own w' w.heap.size v (tk n (l, s)).1)) := by
  obtain ⟨A, c, hr, hc, ha⟩ := h.out
  have hc : l.length ≤ c := hc
  obtain ⟨m, HM⟩ : ∃ m, Hid (l.length = m) := ⟨_, hide rfl⟩
  have hr : Rw w g 54 [.slice A l.length c, .bool s] := hr
  rw [HM.out] at hr hc hl
  have c0 := hr.cell (i := 0) rfl
  have c1 := hr.cell (i := 1) rfl
  have f0 := hr.frozen 0
  have f1 := hr.frozen 1
  have HR := hide hr
  by_cases hs : m < n
  · have hsi : (m : Int) < (n : Int) := by omega
    have e : tk n (l, s) = ([], ([], true)) := by unfold tk; rw [if_pos (by show l.length < n; rw [HM.out]; exact hs)]
    rw [e]
    clear e hr h ha hs
    go_enter Tryd.func33, Tryd.ntmps33
    go_wp2
    go_ret
    exact ⟨_, rfl, Own.nil _ _, ⟨none, 0, (HR.out.set 0 _).set 1 _, Nat.le_refl _, .inl ⟨rfl, rfl, rfl⟩⟩, grown_set (grown_set (grown_of_ext (Ext.refl w) _))⟩
  · have hsi : ¬ (m : Int) < (n : Int) := by omega
    have hmn : (n : Int) ≤ (m : Int) := by omega
    have hnc : (n : Int) ≤ (c : Int) := by omega
    have hmc : (m : Int) ≤ (c : Int) := by omega
    have hni : (n : Int) ≤ 140737488351232 := by omega
    have e : tk n (l, s) = (l.take n, (l.drop n, s)) := by unfold tk; rw [if_neg (by show ¬ l.length < n; rw [HM.out]; exact hs)]
    rw [e]
    clear e
    rcases ha with ⟨rfl, hl0, rfl⟩ | ⟨b, off, rfl, hj⟩
    · have hl0 : l = [] := hl0
      have hm0 : m = 0 := by rw [← HM.out, hl0]; rfl
      obtain rfl : n = 0 := by omega
      subst hm0 hl0
      have KC := hide (fun (W : World) => clone_any none [] 0 0 W (Rd.nil _ _) rfl (by omega))
      clear hr h c0 c1 f0 f1 hsi hmn hnc hmc hni hs hl hc
      have c0 := HR.out.cell (i := 0) rfl
      have c1 := HR.out.cell (i := 1) rfl
      go_enter Tryd.func33, Tryd.ntmps33
      go_upto_region 6 with (go_at_call 35; (with_reducible refine (KC.out _).mono ?_); rintro e w2 ⟨v2, rfl, hx2, ho2⟩; have X2 := hide hx2; have O2 := hide ho2; have R2 := hide (HR.out.ext hx2); clear hx2 ho2)
      clear c0 c1
      have c0 := R2.out.cell (i := 0) rfl
      have f0 := R2.out.frozen 0
      go_wp2
      go_ret
      exact ⟨v2, rfl, O2.out.farB HR.out.lt 0 _, ⟨none, 0, R2.out.set 0 _, Nat.le_refl _, .inl ⟨rfl, rfl, rfl⟩⟩, grown_set (grown_of_ext X2.out _)⟩
    · have RL : Hid (Rd w (some ⟨b, off, none⟩) (l.take n)) := hide (((show Rd w0 (some ⟨b, off, none⟩) l from fun _ => ⟨b, off, rfl, hj⟩).ext hx).take n)
      have HTL : Hid ((l.take n).length = n) := hide (by rw [List.length_take, HM.out]; omega)
      have HDL : Hid ((l.drop n).length = m - n) := hide (by rw [List.length_drop, HM.out])
      have KC := hide (fun (W : World) => clone_any (some ⟨b, off, none⟩) (l.take n) n c W)
      have HJ := hide hj
      have HHC := hide hc
      clear hr h hs hj hl hx
      by_cases hcn : c = n
      · obtain rfl : c = m := by have := HHC.out; omega
        subst hcn
        go_enter Tryd.func33, Tryd.ntmps33
        go_upto_region 6 with (go_at_call 35; (with_reducible refine (KC.out _ RL.out HTL.out (by omega)).mono ?_); rintro e w2 ⟨v2, rfl, hx2, ho2⟩; have X2 := hide hx2; have O2 := hide ho2; have R2 := hide (HR.out.ext hx2); clear hx2 ho2)
        clear c0 c1 f0 f1
        have c0 := R2.out.cell (i := 0) rfl
        have f0 := R2.out.frozen 0
        go_wp2
        go_ret
        refine ⟨v2, rfl, O2.out.farB HR.out.lt 0 _, ⟨some ⟨b, off, none⟩, 0, ?_, ?_, .inr ⟨b, off, rfl, fun j u hu => ?_⟩⟩, grown_set (grown_of_ext X2.out _)⟩
        · show Rw _ _ _ [.slice _ (l.drop c).length _, _]
          rw [HDL.out, Nat.sub_self]
          exact R2.out.set 0 _
        · show (l.drop c).length ≤ 0
          rw [HDL.out]; omega
        · have hu : (l.drop c)[j]? = some u := hu
          rw [List.drop_eq_nil_of_le (by rw [HM.out]; exact Nat.le_refl _)] at hu
          cases hu
      · have hcn2 : ¬ c = n := hcn
        go_enter Tryd.func33, Tryd.ntmps33
        go_upto_region 6 with (go_at_call 35; (with_reducible refine (KC.out _ RL.out HTL.out (by omega)).mono ?_); rintro e w2 ⟨v2, rfl, hx2, ho2⟩; have X2 := hide hx2; have O2 := hide ho2; have R2 := hide (HR.out.ext hx2); clear hx2 ho2)
        clear c0 c1 f0 f1
        have c0 := R2.out.cell (i := 0) rfl
        have f0 := R2.out.frozen 0
        go_wp2
        go_ret
        refine ⟨v2, rfl, O2.out.farB HR.out.lt 0 _, ⟨some ⟨b, off + n, none⟩, c - n, ?_, ?_, .inr ⟨b, off + n, rfl, fun j u hu => ?_⟩⟩, grown_set (grown_of_ext X2.out _)⟩
        · show Rw _ _ _ [.slice _ (l.drop n).length _, _]
          rw [HDL.out]
          exact R2.out.set 0 _
        · show (l.drop n).length ≤ c - n
          rw [HDL.out]; have := HHC.out; omega
        · have hu : (l.drop n)[j]? = some u := hu
          rw [List.getElem?_drop] at hu
          rw [Nat.add_assoc]
          exact HJ.out (n + j) u hu
theorem tk_le (n : Nat) (st : List UInt8 × Bool) : (tk n st).1.length ≤ n := by
  unfold tk
  split
  · exact Nat.zero_le _
  · rw [List.length_take]; omega
theorem tk_left (n : Nat) (st : List UInt8 × Bool) : (tk n st).2.1.length ≤ st.1.length := by
  unfold tk
  split
  · exact Nat.zero_le _
  · show (st.1.drop n).length ≤ _
    rw [List.length_drop]; omega
set_option maxRecDepth 20000 in
set_option maxHeartbeats 1600000 in
theorem number_any (g n : Nat) (st : List UInt8 × Bool) (w0 w : World) (hx : Ext w0 w) (h : RdrAt w0 w g st) (hl : st.1.length ≤ 140737488351232) (hn : n ≤ 8) :
    Calls Tryd.prog 32 #[.pointer (some ⟨g, 0, none⟩), .int .i64 (n : Int)] w (RdrP w0 w g (tk n st).2 (fun _ v => v = .int .u64 (num (tk n st).1))) := by
  have KT := hide (take_any g n st.1 st.2 w0 w hx h hl)
  obtain ⟨t, HT⟩ : ∃ t, Hid ((tk n st).1 = t) := ⟨_, hide rfl⟩
  obtain ⟨s2, HS⟩ : ∃ s, Hid ((tk n st).2 = s) := ⟨_, hide rfl⟩
  have HTL : Hid (t.length ≤ n) := hide (by rw [← HT.out]; exact tk_le n st)
  rw [show (st.1, st.2) = st from rfl, HT.out, HS.out] at KT
  rw [HT.out, HS.out]
  clear h hl hx
  obtain ⟨p, HP⟩ : ∃ p, Hid (t.length = p) := ⟨_, hide rfl⟩
  have hp8 : (p : Int) ≤ 8 := by have := HTL.out; have := HP.out; omega
  go_enter Tryd.func32, Tryd.ntmps32
  go_upto_region 3 with (go_at_call 33; (with_reducible refine KT.out.mono ?_); rintro e w2 ⟨v2, rfl, ho2, hr2, hg2⟩; obtain ⟨At, ct, rfl, -, hrt⟩ := Own.bytes ho2; have RT := hide hrt; have R2 := hide hr2; have G2 := hide hg2; clear hrt hr2 hg2 ho2)
  rw [HP.out]
  go_loop [5, 7, 12] (fun u _ c => ∃ j : Nat, j ≤ p ∧ c = .int .i64 j ∧ u = .int .u64 (num (t.take j))) (fun _ _ c => p - (intOf c).toNat)
  case atStart => exact ⟨0, Nat.zero_le _, rfl, rfl⟩
  case round =>
    obtain ⟨j, hj, rfl, rfl⟩ := hrel
    by_cases hlt : j < p
    · obtain ⟨b, off, x, rfl, hx, hc⟩ := RT.out.at (k := j) (by rw [HP.out]; exact hlt)
      have hb := (num_bound (t.take j)).1
      have HX := hide hx
      have hji : (j : Int) < (p : Int) := by omega
      clear hx
      go_wp2
      refine ⟨⟨j + 1, by omega, by go_num, ?_⟩, by simp [intOf]; omega⟩
      have hb2 := num_take_lt t j (by omega)
      have hx2 := x.toNat_lt
      have hst := num_step t 0 j x (by rw [Nat.zero_add]; exact HX.out)
      rw [List.drop_zero] at hst
      rw [or_byte _ _ hb hb2 (by omega) (by omega), hst]
    · obtain rfl : j = p := by omega
      go_wp2
      go_ret
      exact ⟨_, rfl, by rw [List.take_of_length_le (by rw [HP.out]; exact Nat.le_refl _)]; rfl, R2.out, G2.out⟩
end Go.Proofs.YtkbmcebdhiiffaaDoor
