/-
  Bytes put behind bytes of the call's own: blocks that aren't bytes stay.
  The document's Encode.
  Keys one behind the other: what is read, how they stand.
-/
import Derived.RegionTactic
import Derived.Laws.StructEq
import Derived.Test.YtpdikmcaihlbaaaDoorPkCdE21
import Derived.Test.YtpdikmcaihlbaaaDoorPkCdE22
import Derived.Test.YtpdikmcaihlbaaaDoorPkCdE25
import Derived.Test.YtpdikmcaihlbaaaDoorPkCdE26
set_option linter.unusedVariables false
set_option linter.unusedSimpArgs false

namespace Go.Proofs.YtpdikmcaihlbaaaDoor
open Go.RowKit

/-- Blocks that aren't bytes stay. -/
def Stay (w w' : World) : Prop := ∀ (g : Nat) (t : TypeId) (vs : List Value), t ≠ 5 → Rw w g t vs → Rw w' g t vs
theorem Stay.ext {w w' : World} (h : Ext w w') : Stay w w' := fun _ _ _ _ hr => hr.ext h
theorem Stay.trans {a b c : World} (h : Stay a b) (k : Stay b c) : Stay a c := fun g t vs ht hr => k g t vs ht (h g t vs ht hr)
theorem own_apartR {w : World} {B g : Nat} {t : TypeId} {v : Value} {l : List UInt8} {vs : List Value} (h : Rw w g t vs) (ht : t ≠ 5) (ho : Own w B v l) : some g ≠ v.ownBlock := fun e => by
  rcases ho.2 with ⟨rfl, _⟩ | ⟨g2, cap, cur, rfl, _, hg, _⟩
  · cases e
  · injection e with e
    subst e
    unfold Rw at h
    rw [hg] at h
    injection h with h
    injection h with _ h2
    exact ht h2.symm
/-- A block of another kind stays. -/
theorem Rw.grown {w w' : World} {B g : Nat} {t : TypeId} {v : Value} {l : List UInt8} {vs : List Value} (h : Rw w g t vs) (ht : t ≠ 5) (ho : Own w B v l) (hg : w.grownBy w' v.ownBlock) : Rw w' g t vs :=
  (hg.block g h.lt (own_apartR h ht ho)).trans h
section
variable {ops : Array Oper} {rest : List Oper} {o : Oper} {a : Act} {Q : Exit → Act → World → Prop} {w : World}
theorem wpList_catG (hgd : Region.wanted o (yielded ops a.tmps) = true) (s x : Operand) (ho : o.op = .call { callee := .builtin .append, args := #[s, x], argTypes := #[27, 27] })
    (base : Nat) (v : Value) (l m : List UInt8) (A : Option Addr) (n c : Nat) (hs : a.eval s = v) (hx : a.eval x = .slice A n c) (hn : n = m.length) (hown : Own w base v l) (hr : Rd w A m) (hbase : base ≤ w.heap.size) (hlen : l.length + m.length ≤ 140737488355328)
    (h : ∀ v' w', Own w' base v' (l ++ m) → Below base w w' → Stay w w' → wpList Tryd.prog ops Q rest (a.put o.dst v') w') : wpList Tryd.prog ops Q (o :: rest) a w := by
  subst hn
  obtain ⟨v', w', hrun, h2, h4, h3⟩ := run_cat w base o.type v l m A c hown hr hbase hlen
  refine wpList_wanted hgd fun K hK => ?_
  unfold Oper.wp execOp
  simp only [ho, resolve, invoke, builtin, Sem.run_bind, Sem.run_pure, Result.andThen_ok, List.map_toArray, List.map_cons, List.map_nil, hs, hx, hrun]
  exact hK _ _ (h v' w' h2 h4 (fun _ _ _ ht hr => hr.grown ht hown h3))
theorem wpList_pushG {w0 : World} {n : Int} (hgd : Region.wanted o (yielded ops a.tmps) = true) (s x : Operand) (ho : o.op = .call { callee := .builtin .append, args := #[s, x], argTypes := #[27, 27] })
    (base : Nat) (v : Value) (l : List UInt8) (hs : a.eval s = v) (hx : a.eval x = .slice (some ⟨w0.heap.size, 0, none⟩) 1 1) (hown : Own w0 base v l) (h0 : 0 ≤ n) (h1 : n < 256) (hbase : base ≤ w0.heap.size) (hlen : l.length < 140737488355328)
    (h : ∀ v' w', Own w' base v' (l ++ [b8 n]) → Below base w0 w' → Stay w0 w' → wpList Tryd.prog ops Q rest (a.put o.dst v') w') : wpList Tryd.prog ops Q (o :: rest) a (w0.alloc (.cells #[.int .u8 n] 5)) :=
  wpList_catG hgd s x ho base v l [b8 n] _ 1 1 hs hx rfl (hown.alloc _) (Rd.one w0 _ n h0 h1) (by simp; omega) (by simp; omega) fun v' w' h2 h3 h4 =>
    h v' w' h2 (((Below.refl base w0).alloc hbase _).trans h3) ((Stay.ext (Ext.alloc _ _)).trans h4)
theorem wpList_catSG (hgd : o.guard = none) (sl x : Operand) (ho : o.op = .call { callee := .builtin .append, args := #[sl, x], argTypes := #[27, 9] })
    (base : Nat) (v : Value) (l : List UInt8) (s : ByteArray) (hs : a.eval sl = v) (hx : a.eval x = .string s) (hown : Own w base v l) (hbase : base ≤ w.heap.size) (hlen : l.length + s.size ≤ 140737488355328)
    (h : ∀ v' w', Own w' base v' (l ++ s.data.toList) → Below base w w' → Stay w w' → wpList Tryd.prog ops Q rest (a.put o.dst v') w') : wpList Tryd.prog ops Q (o :: rest) a w := by
  obtain ⟨i0, hi, hz0, hz1, hz2⟩ := info_parts info_u8
  refine Lib.wpList_append_own_string w hgd sl x _ _ ho base 5 i0 Tryd.underlying27 Tryd.underlying9 hi hz0 hz1 hz2 v l.length (bs l) hs hown s hx (by unfold maxLen; omega) hlen hbase ?_
  intro v' w' h2 h3 _
  refine h v' w' ?_ ((Below.refl _ _).grown h3 hbase (fun k hk => (hown.lt k hk).1)) (fun _ _ _ ht hr => hr.grown ht hown h3)
  have e : l.length + s.size = (l ++ s.data.toList).length := by rw [List.length_append]; rfl
  rw [e, bs_str, ← bs_append] at h2
  exact h2
end
end Go.Proofs.YtpdikmcaihlbaaaDoor
namespace Go.Proofs.YtpdikmcaihlbaaaDoor
open Go.RowKit

set_option maxRecDepth 20000 in
set_option maxHeartbeats 6400000 in
theorem rencode_any (A : Option Addr) (L : List Vl) (n c : Nat) (w : World) (hr : RdV w A L) (hn : L.length = n) (hnc : n ≤ c) (hl : n ≤ 140737488355328) (hb : ∀ x ∈ L, VlIn x) (ht : Tabs w) :
    Calls Tryd.prog 15 #[.slice A n c] w (EncP w (encT L)) := by
  by_cases h12 : 12 < n
  · have hi : (12 : Int) < (n : Int) := by omega
    have HE : Hid (encT L = (2, none)) := hide (by unfold encT; rw [if_pos (by omega)])
    clear hr hn hb ht
    rw [HE.out]
    go_enter Tryd.func15, Tryd.ntmps15
    go_wp2
    go_ret2
    exact ⟨Ext.refl _, rfl⟩
  · have hi : ¬ (12 : Int) < (n : Int) := by omega
    have hnI : (n : Int) ≤ 12 := by omega
    have HR := hide hr
    have HN := hide hn
    have HB := hide hb
    have HT := hide ht
    have hwn : IntKind.u8.wrap (n : Int) = (n : Int) := by rw [IntKind.wrap_u8]; omega
    obtain ⟨z, HZ⟩ : ∃ z, Hid (encT L = z) := ⟨_, hide rfl⟩
    rw [HZ.out]
    clear hr hn hb ht
    go_enter Tryd.func15, Tryd.ntmps15
    go_upto_region 5 with fail
    have hown0 := own_one w w.heap.size (Nat.le_refl _) (n : Int) (by omega) (by omega)
    go_loopw [4, 5] (fun ov iv wr => ∃ i : Nat, i ≤ n ∧ iv = .int .i64 (i : Int) ∧ Hid ((L.take i).all vOk = true) ∧ Hid (Own wr w.heap.size ov (b8 (n : Int) :: rowsV (L.take i))) ∧ Hid (Ext w wr)) (fun _ iv _ => n - (intOf iv).toNat)
    case atStart => exact ⟨0, Nat.zero_le _, rfl, hide rfl, hide hown0, hide (Ext.alloc _ _)⟩
    case round =>
      obtain ⟨i, hi, rfl, HA, HO, HX⟩ := hrel
      by_cases hlt : i < n
      · have hii : (i : Int) < (n : Int) := by omega
        obtain ⟨x, hx⟩ : ∃ x, L[i]? = some x := ⟨_, List.getElem?_eq_getElem (by rw [HN.out]; exact hlt)⟩
        obtain ⟨b, off, hA, hc⟩ := HR.out (by intro h; rw [h] at hx; cases hx)
        subst hA
        obtain ⟨wr, HWR⟩ := worldOf HX
        subst HWR
        have c0 := HX.out.keeps.cell (hc i x hx).1
        have c1 := HX.out.keeps.cell (hc i x hx).2.1
        have c2 := HX.out.keeps.cell (hc i x hx).2.2
        clear hc
        have HXX := hide hx
        have VI := HB.out x (List.mem_of_getElem? hx)
        have hbd : (rowsV (L.take i)).length ≤ 62 * 12 := Nat.le_trans (rowsV_len _ HA.out (fun y hy => HB.out y (List.mem_of_mem_take hy))) (Nat.mul_le_mul_left 62 (by rw [List.length_take]; omega))
        go_upto_region 8 with fail
        obtain ⟨W1, hX1, hB1, hgg⟩ : ∃ W, Ext wr W ∧ Rw W wr.heap.size 26 [.int .u8 x.1, .int .i64 x.2.1, .string x.2.2] ∧ wr.alloc (.cells #[.int .u8 x.1, .int .i64 x.2.1, .string x.2.2] 26) = W := ⟨_, Ext.alloc _ _, Rw.new _ _ _, rfl⟩
        rw [hgg]
        clear hgg c0 c1 c2
        have X1 := hide (HX.out.trans hX1)
        have B1 := hide hB1
        have O1 := hide (HO.out.ext hX1)
        clear hX1 hB1
        obtain ⟨cur, HCUR⟩ : ∃ cur, Hid (b8 (n : Int) :: rowsV (L.take i) = cur) := ⟨_, hide rfl⟩
        have HCL := hide (show cur.length ≤ 800 from by rw [← HCUR.out, List.length_cons]; omega)
        rw [HCUR.out] at O1
        have KF := hide (rform_any x W1 VI (HT.out.ext X1.out))
        have b0 := B1.out.cell (i := 0) rfl
        have b1 := B1.out.cell (i := 1) rfl
        have b2 := B1.out.cell (i := 2) rfl
        cases hv : vOk x with
        | false =>
          rw [hv] at KF
          obtain rfl : z = (3, none) := by
            rw [← HZ.out]
            unfold encT
            rw [if_neg (by rw [HN.out]; exact h12), if_neg]
            intro hall
            rw [List.all_eq_true] at hall
            rw [hall x (List.mem_of_getElem? HXX.out)] at hv
            cases hv
          go_wp2_with (go_at_call 13; (with_reducible refine KF.out.mono ?_); rintro e w2 ⟨rfl, hx2⟩; have X2 := hide (X1.out.trans hx2))
          go_ret2
          exact ⟨X2.out, rfl⟩
        | true =>
          rw [hv] at KF
          have HA' : Hid ((L.take (i + 1)).all vOk = true) := hide (by
            rw [List.take_add_one, HXX.out]
            simp [HA.out, hv])
          have HNX : Hid (b8 (n : Int) :: rowsV (L.take (i + 1)) = cur ++ rowV x) := hide (by
            rw [List.take_add_one, HXX.out, ← HCUR.out]
            simp [rowsV])
          go_upto_region 10 with (go_at_call 13; (with_reducible refine KF.out.mono ?_); rintro e w2 ⟨rfl, hx2⟩; have X2 := hide (X1.out.trans hx2); have B2 := hide (B1.out.ext hx2); have O2 := hide (O1.out.ext hx2))
          clear b0 b1 b2 KF O1 X1 B1
          rcases vl_cases x hv VI with rfl | ⟨nn, rfl, h0, h1⟩ | ⟨ss, rfl, hss, hok⟩ | rfl | rfl
          · obtain B2 : Hid (Rw w2 wr.heap.size 26 [.int .u8 0, .int .i64 0, .string noS]) := hide B2.out
            have e0 := B2.out.cell (i := 0) rfl
            have e1 := B2.out.cell (i := 1) rfl
            have e2 := B2.out.cell (i := 2) rfl
            dsimp only
            go_upto_region 11 with (at_builtin; refine wpList_pushG rfl (.tmp 27) (.tmp 30) rfl w.heap.size _ cur rfl rfl O2.out (by decide) (by decide) X2.out.size (by have := HCL.out; omega) ?_; intro v3 w3 ho3 hb3 hs3; have B3 := hide (hs3 _ _ _ (by decide) B2.out); have d0 := B3.out.cell (i := 0) rfl; have d1 := B3.out.cell (i := 1) rfl; have d2 := B3.out.cell (i := 2) rfl; have O3 := hide ho3; have X3 := hide (show Ext w w3 from Below.trans X2.out hb3))
            clear e0 e1 e2
            go_wp2
            exact ⟨⟨i + 1, by omega, by go_num, HA', hide (by rw [HNX.out, show rowV (0, 0, noS) = [b8 0] from rfl]; exact O3.out), X3⟩, by simp [intOf]; omega⟩
          · obtain B2 : Hid (Rw w2 wr.heap.size 26 [.int .u8 1, .int .i64 nn, .string noS]) := hide B2.out
            have e0 := B2.out.cell (i := 0) rfl
            have e1 := B2.out.cell (i := 1) rfl
            have e2 := B2.out.cell (i := 2) rfl
            dsimp only
            go_upto_region 11 with (at_builtin; refine wpList_pushG rfl (.tmp 27) (.tmp 30) rfl w.heap.size _ cur rfl rfl O2.out (by decide) (by decide) X2.out.size (by have := HCL.out; omega) ?_; intro v3 w3 ho3 hb3 hs3; have B3 := hide (hs3 _ _ _ (by decide) B2.out); have d0 := B3.out.cell (i := 0) rfl; have d1 := B3.out.cell (i := 1) rfl; have d2 := B3.out.cell (i := 2) rfl; have O3 := hide ho3; have X3 := hide (show Ext w w3 from Below.trans X2.out hb3))
            clear e0 e1 e2
            go_upto_region 6 with (first
              | (go_at_call 31; (with_reducible refine (rint_any nn _ h0 h1).mono ?_); rintro e w4 ⟨v4, rfl, hx4, A4, c4, hv4, hc4, hr4⟩; subst hv4; have X4 := hide (X3.out.trans hx4); have O4 := hide (O3.out.ext hx4))
              | (at_builtin; refine wpList_catG rfl (.tmp 36) (.tmp 39) rfl w.heap.size _ _ (ord64 nn) A4 _ c4 rfl rfl rfl O4.out hr4 X4.out.size (by have := HCL.out; simp [show (ord64 nn).length = 8 from rfl]; omega) ?_; intro v5 w5 ho5 hb5 hs5; have X5 := hide (show Ext w w5 from Below.trans X4.out hb5)))
            go_wp2
            exact ⟨⟨i + 1, by omega, by go_num, HA', hide (by rw [HNX.out, show rowV (1, nn, noS) = [b8 1] ++ ord64 nn from rfl, ← List.append_assoc]; exact ho5), X5⟩, by simp [intOf]; omega⟩
          · obtain B2 : Hid (Rw w2 wr.heap.size 26 [.int .u8 2, .int .i64 0, .string ss]) := hide B2.out
            have e0 := B2.out.cell (i := 0) rfl
            have e1 := B2.out.cell (i := 1) rfl
            have e2 := B2.out.cell (i := 2) rfl
            have hws : IntKind.u8.wrap (ss.size : Int) = (ss.size : Int) := by rw [IntKind.wrap_u8]; omega
            dsimp only
            go_upto_region 11 with (at_builtin; refine wpList_pushG rfl (.tmp 27) (.tmp 30) rfl w.heap.size _ cur rfl rfl O2.out (by decide) (by decide) X2.out.size (by have := HCL.out; omega) ?_; intro v3 w3 ho3 hb3 hs3; have B3 := hide (hs3 _ _ _ (by decide) B2.out); have d0 := B3.out.cell (i := 0) rfl; have d1 := B3.out.cell (i := 1) rfl; have d2 := B3.out.cell (i := 2) rfl; have O3 := hide ho3; have X3 := hide (show Ext w w3 from Below.trans X2.out hb3))
            clear e0 e1 e2
            go_upto_region 16 with (at_builtin; refine wpList_pushG rfl (.tmp 43) (.tmp 48) rfl w.heap.size _ _ rfl rfl O3.out (by omega) (by omega) X3.out.size (by have := HCL.out; simp; omega) ?_; intro v4 w4 ho4 hb4 hs4; have B4 := hide (hs4 _ _ _ (by decide) B3.out); have f0 := B4.out.cell (i := 0) rfl; have f1 := B4.out.cell (i := 1) rfl; have f2 := B4.out.cell (i := 2) rfl; have O4 := hide ho4; have X4 := hide (show Ext w w4 from Below.trans X3.out hb4))
            clear d0 d1 d2
            go_upto_region 6 with (at_builtin; refine wpList_catSG rfl (.tmp 50) (.tmp 52) rfl w.heap.size _ _ ss rfl rfl O4.out X4.out.size (by have := HCL.out; simp; omega) ?_; intro v5 w5 ho5 hb5 hs5; have X5 := hide (show Ext w w5 from Below.trans X4.out hb5))
            go_wp2
            exact ⟨⟨i + 1, by omega, by go_num, HA', hide (by rw [HNX.out, show rowV (2, 0, ss) = [b8 2] ++ [b8 (ss.size : Int)] ++ ss.data.toList from rfl, ← List.append_assoc, ← List.append_assoc]; exact ho5), X5⟩, by simp [intOf]; omega⟩
          · obtain B2 : Hid (Rw w2 wr.heap.size 26 [.int .u8 3, .int .i64 0, .string noS]) := hide B2.out
            have e0 := B2.out.cell (i := 0) rfl
            have e1 := B2.out.cell (i := 1) rfl
            have e2 := B2.out.cell (i := 2) rfl
            dsimp only
            go_upto_region 11 with (at_builtin; refine wpList_pushG rfl (.tmp 27) (.tmp 30) rfl w.heap.size _ cur rfl rfl O2.out (by decide) (by decide) X2.out.size (by have := HCL.out; omega) ?_; intro v3 w3 ho3 hb3 hs3; have B3 := hide (hs3 _ _ _ (by decide) B2.out); have d0 := B3.out.cell (i := 0) rfl; have d1 := B3.out.cell (i := 1) rfl; have d2 := B3.out.cell (i := 2) rfl; have O3 := hide ho3; have X3 := hide (show Ext w w3 from Below.trans X2.out hb3))
            clear e0 e1 e2
            have hw0 : IntKind.u8.wrap (0 : Int) = 0 := rfl
            go_upto_region 6 with (at_builtin; refine wpList_pushG rfl (.tmp 56) (.tmp 60) rfl w.heap.size _ _ rfl rfl O3.out (by decide) (by decide) X3.out.size (by have := HCL.out; simp; omega) ?_; intro v4 w4 ho4 hb4 hs4; have X4 := hide (show Ext w w4 from Below.trans X3.out hb4))
            go_wp2
            exact ⟨⟨i + 1, by omega, by go_num, HA', hide (by rw [HNX.out, show rowV (3, 0, noS) = [b8 3] ++ [b8 0] from rfl, ← List.append_assoc]; exact ho4), X4⟩, by simp [intOf]; omega⟩
          · obtain B2 : Hid (Rw w2 wr.heap.size 26 [.int .u8 3, .int .i64 1, .string noS]) := hide B2.out
            have e0 := B2.out.cell (i := 0) rfl
            have e1 := B2.out.cell (i := 1) rfl
            have e2 := B2.out.cell (i := 2) rfl
            dsimp only
            go_upto_region 11 with (at_builtin; refine wpList_pushG rfl (.tmp 27) (.tmp 30) rfl w.heap.size _ cur rfl rfl O2.out (by decide) (by decide) X2.out.size (by have := HCL.out; omega) ?_; intro v3 w3 ho3 hb3 hs3; have B3 := hide (hs3 _ _ _ (by decide) B2.out); have d0 := B3.out.cell (i := 0) rfl; have d1 := B3.out.cell (i := 1) rfl; have d2 := B3.out.cell (i := 2) rfl; have O3 := hide ho3; have X3 := hide (show Ext w w3 from Below.trans X2.out hb3))
            clear e0 e1 e2
            have hw0 : IntKind.u8.wrap (1 : Int) = 1 := rfl
            go_upto_region 6 with (at_builtin; refine wpList_pushG rfl (.tmp 56) (.tmp 60) rfl w.heap.size _ _ rfl rfl O3.out (by decide) (by decide) X3.out.size (by have := HCL.out; simp; omega) ?_; intro v4 w4 ho4 hb4 hs4; have X4 := hide (show Ext w w4 from Below.trans X3.out hb4))
            go_wp2
            exact ⟨⟨i + 1, by omega, by go_num, HA', hide (by rw [HNX.out, show rowV (3, 1, noS) = [b8 3] ++ [b8 1] from rfl, ← List.append_assoc]; exact ho4), X4⟩, by simp [intOf]; omega⟩
      · obtain rfl : i = n := by omega
        have hii : ¬ (i : Int) < (i : Int) := by omega
        have HE : Hid (encT L = (0, some (b8 (i : Int) :: rowsV L))) := hide (by
          have hall := HA.out
          rw [List.take_of_length_le (by rw [HN.out]; exact Nat.le_refl _)] at hall
          unfold encT
          rw [if_neg (by rw [HN.out]; exact h12), if_pos hall, HN.out])
        obtain rfl : z = (0, some (b8 (i : Int) :: rowsV L)) := by rw [← HZ.out, HE.out]
        go_wp2
        go_ret2
        have ho := HO.out
        rw [List.take_of_length_le (by rw [HN.out]; exact Nat.le_refl _)] at ho
        exact ⟨HX.out, _, rfl, ho⟩
end Go.Proofs.YtpdikmcaihlbaaaDoor
namespace Go.Proofs.YtpdikmcaihlbaaaDoor
open Go.RowKit

theorem veq_split (x y : Vl) : (decide (x = y)) = (if x.1 = y.1 then if x.2.1 = y.2.1 then x.2.2.toList == y.2.2.toList else false else false) := by
  obtain ⟨k, n, s⟩ := x
  obtain ⟨k', n', s'⟩ := y
  simp only [Prod.mk.injEq]
  by_cases hk : k = k'
  · by_cases hn : n = n'
    · by_cases hs : s = s'
      · simp [hk, hn, hs]
      · have h : (s.toList == s'.toList) = false := by
          rw [ByteArray.toList_eq, ByteArray.toList_eq]
          exact beq_eq_false_iff_ne.2 (fun e => hs (by cases s; cases s'; have e := Array.toList_inj.1 e; simp only at e; rw [e]))
        simp [hk, hn, hs, h]
    · simp [hn]
  · simp [hk]
theorem veql (x y : Vl) (W : World) : (binOp .eql 26 (.agg #[.int .u8 x.1, .int .i64 x.2.1, .string x.2.2]) (.agg #[.int .u8 y.1, .int .i64 y.2.1, .string y.2.2])).run Tryd.prog W = .ok (.bool (decide (x = y))) W := by
  rw [veq_split]
  simp [go_sem, Tryd.underlying26]
  by_cases h1 : x.1 = y.1 <;> by_cases h2 : x.2.1 = y.2.1 <;> by_cases h3 : x.2.2.toList = y.2.2.toList <;> simp [h1, h2, h3]
def keysV (L : List Vl) : List UInt8 := L.flatMap keyV
theorem keysV_app (a b : List Vl) : keysV (a ++ b) = keysV a ++ keysV b := List.flatMap_append
theorem keysV_one (x : Vl) : keysV [x] = keyV x := by simp [keysV]
theorem keysV_next {L : List Vl} {i : Nat} {x : Vl} (h : L[i]? = some x) : keysV (L.take (i + 1)) = keysV (L.take i) ++ keyV x := by
  rw [List.take_add_one, h, keysV_app]
  simp [keysV]
theorem keysV_split {L : List Vl} {i : Nat} {x : Vl} (h : L[i]? = some x) : keysV L = keysV (L.take i) ++ keyV x ++ keysV (L.drop (i + 1)) := by
  obtain ⟨hk, he⟩ := List.getElem?_eq_some_iff.1 h
  have h2 : L = L.take i ++ x :: L.drop (i + 1) := by rw [← he, List.getElem_cons_drop, List.take_append_drop]
  have h3 : keysV L = keysV (L.take i ++ x :: L.drop (i + 1)) := by rw [← h2]
  rw [h3, keysV_app]
  simp [keysV]
theorem runs_read {L : List Vl} {i : Nat} {x : Vl} (h : L[i]? = some x) (hv : vOk x = true) (hb : VlIn x) : rdKey (keysV L) ((keysV (L.take i)).length : Int) = (x, ((keysV (L.take (i + 1))).length : Int), 0) := by
  rw [keysV_split h, rdKey_key _ _ x hv hb, keysV_next h, List.length_append]
theorem keysV_len : ∀ (L : List Vl), L.all vOk = true → (∀ x ∈ L, VlIn x) → (keysV L).length ≤ 123 * L.length
  | [], _, _ => Nat.le_refl _
  | x :: L, h, hb => by
    simp only [List.all_cons, Bool.and_eq_true] at h
    obtain ⟨_, _, _, h1, _⟩ := meant_key x (hb x (List.mem_cons_self ..)) h.1
    have ih := keysV_len L h.2 (fun y hy => hb y (List.mem_cons_of_mem _ hy))
    have e : keysV (x :: L) = keyV x ++ keysV L := rfl
    rw [e, List.length_append, List.length_cons]
    omega
theorem less_pre : ∀ (p x y : List UInt8), Op.bytesLess (p ++ x) (p ++ y) = Op.bytesLess x y
  | [], _, _ => rfl
  | b :: p, x, y => by rw [List.cons_append, List.cons_append, less_cons, if_pos rfl, less_pre p x y]
theorem runs_pre {L M : List Vl} {i : Nat} (h : L.take i = M.take i) : Op.bytesLess (keysV L) (keysV M) = Op.bytesLess (keysV (L.drop i)) (keysV (M.drop i)) := by
  have e1 : keysV L = keysV (L.take i) ++ keysV (L.drop i) := by rw [← keysV_app, List.take_append_drop]
  have e2 : keysV M = keysV (L.take i) ++ keysV (M.drop i) := by rw [h, ← keysV_app, List.take_append_drop]
  rw [e1, e2, less_pre]
theorem less_nil (l : List UInt8) : Op.bytesLess l [] = false := by cases l <;> rfl
/-- The second list is at its end. -/
theorem runs_end {L M : List Vl} (h : L.take M.length = M) : Op.bytesLess (keysV L) (keysV M) = false := by
  rw [runs_pre (i := M.length) (by rw [h, List.take_length]), List.drop_length]
  exact less_nil _
theorem keyV_cons (x : Vl) : ∃ b l, keyV x = b :: l := by
  unfold keyV rowV
  repeat' split
  all_goals exact ⟨_, _, rfl⟩
/-- The first list is at its end, the second one isn't. -/
theorem runs_more {L M : List Vl} (h : M.take L.length = L) (hl : L.length < M.length) : Op.bytesLess (keysV L) (keysV M) = true := by
  rw [runs_pre (i := L.length) (by rw [h, List.take_length]), List.drop_length]
  obtain ⟨y, hy⟩ : ∃ y, M[L.length]? = some y := ⟨_, List.getElem?_eq_getElem hl⟩
  obtain ⟨hk, he⟩ := List.getElem?_eq_some_iff.1 hy
  have e : M.drop L.length = y :: M.drop (L.length + 1) := by rw [← he]; exact List.drop_eq_getElem_cons hk
  rw [e, show keysV (y :: M.drop (L.length + 1)) = keyV y ++ keysV (M.drop (L.length + 1)) from rfl]
  obtain ⟨b, l, hb⟩ := keyV_cons y
  rw [hb]
  rfl
/-- Two values that are unlike, behind what is alike. -/
theorem runs_less {L M : List Vl} {i : Nat} {x y : Vl} (h : L.take i = M.take i) (hx : L[i]? = some x) (hy : M[i]? = some y) (hvx : vOk x = true) (hvy : vOk y = true) (ix : VlIn x) (iy : VlIn y) (hne : x ≠ y) : Op.bytesLess (keysV L) (keysV M) = lessV x y := by
  rw [runs_pre h]
  have cut : ∀ {N : List Vl} {z : Vl}, N[i]? = some z → N.drop i = z :: N.drop (i + 1) := fun {N z} hz => by
    obtain ⟨hk, he⟩ := List.getElem?_eq_some_iff.1 hz
    rw [← he]
    exact List.drop_eq_getElem_cons hk
  rw [cut hx, cut hy]
  show Op.bytesLess (keyV x ++ keysV _) (keyV y ++ keysV _) = _
  exact key_order x y _ _ hvx hvy ix iy hne
end Go.Proofs.YtpdikmcaihlbaaaDoor
