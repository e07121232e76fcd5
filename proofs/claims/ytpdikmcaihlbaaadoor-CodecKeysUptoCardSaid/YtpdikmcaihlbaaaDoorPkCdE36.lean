/-
  The document's Encode.
  Values of many cells read within a region that draws its order.
  The document's Same, of lists that are alike.
  Decode of any bytes.
  The walk of CodecCuts.
  A REGION THAT DRAWS ITS ORDER AND WHOSE LAST OPERATION (a store, a copy) WAITS FOR ALL THE OTHERS: all but the last only make memory or read; the last may write.
-/
import Derived.RegionTactic
import Derived.BigQuiet
import Derived.Test.YtpdikmcaihlbaaaDoorPkCdE30
import Derived.Test.YtpdikmcaihlbaaaDoorPkCdE31
import Derived.Test.YtpdikmcaihlbaaaDoorPkCdE32
import Derived.Test.YtpdikmcaihlbaaaDoorPkCdE35
set_option linter.unusedVariables false
set_option linter.unusedSimpArgs false

namespace Go.Proofs.YtpdikmcaihlbaaaDoor
open Go.RowKit

set_option maxRecDepth 20000 in
set_option maxHeartbeats 6400000 in
theorem rencode_any (A : Option Addr) (L : List Vl) (n c : Nat) (w : World) (hr : RdV w A L) (hn : L.length = n) (hnc : n ≤ c) (hl : n ≤ 140737488355328) (hb : ∀ x ∈ L, VlIn x) (ht : Tabs w) :
    Calls Tryd.prog 15 #[.slice A n c] w (EncP w (encT L)) := by
  by_cases h12 : 12 < n
  · have hi : (12 : Int) < (n : Int) := by omega
    have HE : Hid (encT L = (2, none)) := hide (by unfold encT; rw [if_pos (by omega)])
    clear hr hn hb ht
    rw [HE.out]
    go_enter Tryd.func15, Tryd.ntmps15
    go_wp2
    go_ret2
    exact ⟨Ext.refl _, rfl⟩
  · have hi : ¬ (12 : Int) < (n : Int) := by omega
    have hnI : (n : Int) ≤ 12 := by omega
    have HR := hide hr
    have HN := hide hn
    have HB := hide hb
    have HT := hide ht
    have hwn : IntKind.u8.wrap (n : Int) = (n : Int) := by rw [IntKind.wrap_u8]; omega
    obtain ⟨z, HZ⟩ : ∃ z, Hid (encT L = z) := ⟨_, hide rfl⟩
    rw [HZ.out]
    clear hr hn hb ht
    go_enter Tryd.func15, Tryd.ntmps15
    go_upto_region 5 with fail
    have hown0 := own_one w w.heap.size (Nat.le_refl _) (n : Int) (by omega) (by omega)
    go_loopw [4, 5] (fun ov iv wr => ∃ i : Nat, i ≤ n ∧ iv = .int .i64 (i : Int) ∧ Hid ((L.take i).all vOk = true) ∧ Hid (Own wr w.heap.size ov (b8 (n : Int) :: rowsV (L.take i))) ∧ Hid (Ext w wr)) (fun _ iv _ => n - (intOf iv).toNat)
    case atStart => exact ⟨0, Nat.zero_le _, rfl, hide rfl, hide hown0, hide (Ext.alloc _ _)⟩
    case round =>
      obtain ⟨i, hi, rfl, HA, HO, HX⟩ := hrel
      by_cases hlt : i < n
      · have hii : (i : Int) < (n : Int) := by omega
        obtain ⟨x, hx⟩ : ∃ x, L[i]? = some x := ⟨_, List.getElem?_eq_getElem (by rw [HN.out]; exact hlt)⟩
        obtain ⟨b, off, hA, hc⟩ := HR.out (by intro h; rw [h] at hx; cases hx)
        subst hA
        obtain ⟨wr, HWR⟩ := worldOf HX
        subst HWR
        have c0 := HX.out.keeps.cell (hc i x hx).1
        have c1 := HX.out.keeps.cell (hc i x hx).2.1
        have c2 := HX.out.keeps.cell (hc i x hx).2.2
        clear hc
        have HXX := hide hx
        have VI := HB.out x (List.mem_of_getElem? hx)
        have hbd : (rowsV (L.take i)).length ≤ 62 * 12 := Nat.le_trans (rowsV_len _ HA.out (fun y hy => HB.out y (List.mem_of_mem_take hy))) (Nat.mul_le_mul_left 62 (by rw [List.length_take]; omega))
        go_upto_region 8 with fail
        obtain ⟨W1, hX1, hB1, hgg⟩ : ∃ W, Ext wr W ∧ Rw W wr.heap.size 26 [.int .u8 x.1, .int .i64 x.2.1, .string x.2.2] ∧ wr.alloc (.cells #[.int .u8 x.1, .int .i64 x.2.1, .string x.2.2] 26) = W := ⟨_, Ext.alloc _ _, Rw.new _ _ _, rfl⟩
        rw [hgg]
        clear hgg c0 c1 c2
        have X1 := hide (HX.out.trans hX1)
        have B1 := hide hB1
        have O1 := hide (HO.out.ext hX1)
        clear hX1 hB1
        obtain ⟨cur, HCUR⟩ : ∃ cur, Hid (b8 (n : Int) :: rowsV (L.take i) = cur) := ⟨_, hide rfl⟩
        have HCL := hide (show cur.length ≤ 800 from by rw [← HCUR.out, List.length_cons]; omega)
        rw [HCUR.out] at O1
        have KF := hide (rform_any x W1 VI (HT.out.ext X1.out))
        have b0 := B1.out.cell (i := 0) rfl
        have b1 := B1.out.cell (i := 1) rfl
        have b2 := B1.out.cell (i := 2) rfl
        cases hv : vOk x with
        | false =>
          rw [hv] at KF
          obtain rfl : z = (3, none) := by
            rw [← HZ.out]
            unfold encT
            rw [if_neg (by rw [HN.out]; exact h12), if_neg]
            intro hall
            rw [List.all_eq_true] at hall
            rw [hall x (List.mem_of_getElem? HXX.out)] at hv
            cases hv
          go_wp2_with (go_at_call 13; (with_reducible refine KF.out.mono ?_); rintro e w2 ⟨rfl, hx2⟩; have X2 := hide (X1.out.trans hx2))
          go_ret2
          exact ⟨X2.out, rfl⟩
        | true =>
          rw [hv] at KF
          have HA' : Hid ((L.take (i + 1)).all vOk = true) := hide (by
            rw [List.take_add_one, HXX.out]
            simp [HA.out, hv])
          have HNX : Hid (b8 (n : Int) :: rowsV (L.take (i + 1)) = cur ++ rowV x) := hide (by
            rw [List.take_add_one, HXX.out, ← HCUR.out]
            simp [rowsV])
          go_upto_region 10 with (go_at_call 13; (with_reducible refine KF.out.mono ?_); rintro e w2 ⟨rfl, hx2⟩; have X2 := hide (X1.out.trans hx2); have B2 := hide (B1.out.ext hx2); have O2 := hide (O1.out.ext hx2))
          clear b0 b1 b2 KF O1 X1 B1
          rcases vl_cases x hv VI with rfl | ⟨nn, rfl, h0, h1⟩ | ⟨ss, rfl, hss, hok⟩ | rfl | rfl
          · obtain B2 : Hid (Rw w2 wr.heap.size 26 [.int .u8 0, .int .i64 0, .string noS]) := hide B2.out
            have e0 := B2.out.cell (i := 0) rfl
            have e1 := B2.out.cell (i := 1) rfl
            have e2 := B2.out.cell (i := 2) rfl
            dsimp only
            go_upto_region 11 with (at_builtin; refine wpList_pushG rfl (.tmp 27) (.tmp 30) rfl w.heap.size _ cur rfl rfl O2.out (by decide) (by decide) X2.out.size (by have := HCL.out; omega) ?_; intro v3 w3 ho3 hb3 hs3; have B3 := hide (hs3 _ _ _ (by decide) B2.out); have d0 := B3.out.cell (i := 0) rfl; have d1 := B3.out.cell (i := 1) rfl; have d2 := B3.out.cell (i := 2) rfl; have O3 := hide ho3; have X3 := hide (show Ext w w3 from Below.trans X2.out hb3))
            clear e0 e1 e2
            go_wp2
            exact ⟨⟨i + 1, by omega, by go_num, HA', hide (by rw [HNX.out, show rowV (0, 0, noS) = [b8 0] from rfl]; exact O3.out), X3⟩, by simp [intOf]; omega⟩
          · obtain B2 : Hid (Rw w2 wr.heap.size 26 [.int .u8 1, .int .i64 nn, .string noS]) := hide B2.out
            have e0 := B2.out.cell (i := 0) rfl
            have e1 := B2.out.cell (i := 1) rfl
            have e2 := B2.out.cell (i := 2) rfl
            dsimp only
            go_upto_region 11 with (at_builtin; refine wpList_pushG rfl (.tmp 27) (.tmp 30) rfl w.heap.size _ cur rfl rfl O2.out (by decide) (by decide) X2.out.size (by have := HCL.out; omega) ?_; intro v3 w3 ho3 hb3 hs3; have B3 := hide (hs3 _ _ _ (by decide) B2.out); have d0 := B3.out.cell (i := 0) rfl; have d1 := B3.out.cell (i := 1) rfl; have d2 := B3.out.cell (i := 2) rfl; have O3 := hide ho3; have X3 := hide (show Ext w w3 from Below.trans X2.out hb3))
            clear e0 e1 e2
            go_upto_region 6 with (first
              | (go_at_call 31; (with_reducible refine (rint_any nn _ h0 h1).mono ?_); rintro e w4 ⟨v4, rfl, hx4, A4, c4, hv4, hc4, hr4⟩; subst hv4; have X4 := hide (X3.out.trans hx4); have O4 := hide (O3.out.ext hx4))
              | (at_builtin; refine wpList_catG rfl (.tmp 36) (.tmp 39) rfl w.heap.size _ _ (ord64 nn) A4 _ c4 rfl rfl rfl O4.out hr4 X4.out.size (by have := HCL.out; simp [show (ord64 nn).length = 8 from rfl]; omega) ?_; intro v5 w5 ho5 hb5 hs5; have X5 := hide (show Ext w w5 from Below.trans X4.out hb5)))
            go_wp2
            exact ⟨⟨i + 1, by omega, by go_num, HA', hide (by rw [HNX.out, show rowV (1, nn, noS) = [b8 1] ++ ord64 nn from rfl, ← List.append_assoc]; exact ho5), X5⟩, by simp [intOf]; omega⟩
          · obtain B2 : Hid (Rw w2 wr.heap.size 26 [.int .u8 2, .int .i64 0, .string ss]) := hide B2.out
            have e0 := B2.out.cell (i := 0) rfl
            have e1 := B2.out.cell (i := 1) rfl
            have e2 := B2.out.cell (i := 2) rfl
            have hws : IntKind.u8.wrap (ss.size : Int) = (ss.size : Int) := by rw [IntKind.wrap_u8]; omega
            dsimp only
            go_upto_region 11 with (at_builtin; refine wpList_pushG rfl (.tmp 27) (.tmp 30) rfl w.heap.size _ cur rfl rfl O2.out (by decide) (by decide) X2.out.size (by have := HCL.out; omega) ?_; intro v3 w3 ho3 hb3 hs3; have B3 := hide (hs3 _ _ _ (by decide) B2.out); have d0 := B3.out.cell (i := 0) rfl; have d1 := B3.out.cell (i := 1) rfl; have d2 := B3.out.cell (i := 2) rfl; have O3 := hide ho3; have X3 := hide (show Ext w w3 from Below.trans X2.out hb3))
            clear e0 e1 e2
            go_upto_region 16 with (at_builtin; refine wpList_pushG rfl (.tmp 43) (.tmp 48) rfl w.heap.size _ _ rfl rfl O3.out (by omega) (by omega) X3.out.size (by have := HCL.out; simp; omega) ?_; intro v4 w4 ho4 hb4 hs4; have B4 := hide (hs4 _ _ _ (by decide) B3.out); have f0 := B4.out.cell (i := 0) rfl; have f1 := B4.out.cell (i := 1) rfl; have f2 := B4.out.cell (i := 2) rfl; have O4 := hide ho4; have X4 := hide (show Ext w w4 from Below.trans X3.out hb4))
            clear d0 d1 d2
            go_upto_region 6 with (at_builtin; refine wpList_catSG rfl (.tmp 50) (.tmp 52) rfl w.heap.size _ _ ss rfl rfl O4.out X4.out.size (by have := HCL.out; simp; omega) ?_; intro v5 w5 ho5 hb5 hs5; have X5 := hide (show Ext w w5 from Below.trans X4.out hb5))
            go_wp2
            exact ⟨⟨i + 1, by omega, by go_num, HA', hide (by rw [HNX.out, show rowV (2, 0, ss) = [b8 2] ++ [b8 (ss.size : Int)] ++ ss.data.toList from rfl, ← List.append_assoc, ← List.append_assoc]; exact ho5), X5⟩, by simp [intOf]; omega⟩
          · obtain B2 : Hid (Rw w2 wr.heap.size 26 [.int .u8 3, .int .i64 0, .string noS]) := hide B2.out
            have e0 := B2.out.cell (i := 0) rfl
            have e1 := B2.out.cell (i := 1) rfl
            have e2 := B2.out.cell (i := 2) rfl
            dsimp only
            go_upto_region 11 with (at_builtin; refine wpList_pushG rfl (.tmp 27) (.tmp 30) rfl w.heap.size _ cur rfl rfl O2.out (by decide) (by decide) X2.out.size (by have := HCL.out; omega) ?_; intro v3 w3 ho3 hb3 hs3; have B3 := hide (hs3 _ _ _ (by decide) B2.out); have d0 := B3.out.cell (i := 0) rfl; have d1 := B3.out.cell (i := 1) rfl; have d2 := B3.out.cell (i := 2) rfl; have O3 := hide ho3; have X3 := hide (show Ext w w3 from Below.trans X2.out hb3))
            clear e0 e1 e2
            have hw0 : IntKind.u8.wrap (0 : Int) = 0 := rfl
            go_upto_region 6 with (at_builtin; refine wpList_pushG rfl (.tmp 56) (.tmp 60) rfl w.heap.size _ _ rfl rfl O3.out (by decide) (by decide) X3.out.size (by have := HCL.out; simp; omega) ?_; intro v4 w4 ho4 hb4 hs4; have X4 := hide (show Ext w w4 from Below.trans X3.out hb4))
            go_wp2
            exact ⟨⟨i + 1, by omega, by go_num, HA', hide (by rw [HNX.out, show rowV (3, 0, noS) = [b8 3] ++ [b8 0] from rfl, ← List.append_assoc]; exact ho4), X4⟩, by simp [intOf]; omega⟩
          · obtain B2 : Hid (Rw w2 wr.heap.size 26 [.int .u8 3, .int .i64 1, .string noS]) := hide B2.out
            have e0 := B2.out.cell (i := 0) rfl
            have e1 := B2.out.cell (i := 1) rfl
            have e2 := B2.out.cell (i := 2) rfl
            dsimp only
            go_upto_region 11 with (at_builtin; refine wpList_pushG rfl (.tmp 27) (.tmp 30) rfl w.heap.size _ cur rfl rfl O2.out (by decide) (by decide) X2.out.size (by have := HCL.out; omega) ?_; intro v3 w3 ho3 hb3 hs3; have B3 := hide (hs3 _ _ _ (by decide) B2.out); have d0 := B3.out.cell (i := 0) rfl; have d1 := B3.out.cell (i := 1) rfl; have d2 := B3.out.cell (i := 2) rfl; have O3 := hide ho3; have X3 := hide (show Ext w w3 from Below.trans X2.out hb3))
            clear e0 e1 e2
            have hw0 : IntKind.u8.wrap (1 : Int) = 1 := rfl
            go_upto_region 6 with (at_builtin; refine wpList_pushG rfl (.tmp 56) (.tmp 60) rfl w.heap.size _ _ rfl rfl O3.out (by decide) (by decide) X3.out.size (by have := HCL.out; simp; omega) ?_; intro v4 w4 ho4 hb4 hs4; have X4 := hide (show Ext w w4 from Below.trans X3.out hb4))
            go_wp2
            exact ⟨⟨i + 1, by omega, by go_num, HA', hide (by rw [HNX.out, show rowV (3, 1, noS) = [b8 3] ++ [b8 1] from rfl, ← List.append_assoc]; exact ho4), X4⟩, by simp [intOf]; omega⟩
      · obtain rfl : i = n := by omega
        have hii : ¬ (i : Int) < (i : Int) := by omega
        have HE : Hid (encT L = (0, some (b8 (i : Int) :: rowsV L))) := hide (by
          have hall := HA.out
          rw [List.take_of_length_le (by rw [HN.out]; exact Nat.le_refl _)] at hall
          unfold encT
          rw [if_neg (by rw [HN.out]; exact h12), if_pos hall, HN.out])
        obtain rfl : z = (0, some (b8 (i : Int) :: rowsV L)) := by rw [← HZ.out, HE.out]
        go_wp2
        go_ret2
        have ho := HO.out
        rw [List.take_of_length_le (by rw [HN.out]; exact Nat.le_refl _)] at ho
        exact ⟨HX.out, _, rfl, ho⟩
end Go.Proofs.YtpdikmcaihlbaaaDoor
namespace Go.Proofs.YtpdikmcaihlbaaaDoor
open Go.RowKit

theorem run_loadVar_at {P : Program} (w : World) (g off : Nat) (ty : TypeId) (vs : List Value) (n : Nat) (ha : (isAgg ty).run P w = .ok true w) (hi : (P.info? ty).map (·.size) = some n) (hn : n = vs.length)
    (hc : ∀ j v, vs[j]? = some v → w.cell? ⟨g, off + j, none⟩ = some v) : (loadVar ty ⟨g, off, none⟩).run P w = .ok (.agg vs.toArray) w := by
  have hl : (loadCells ⟨g, off, none⟩ vs.length).run P w = .ok vs.toArray w :=
    run_loadCells_list (P := P) w ⟨g, off, none⟩ vs (fun j v hv => by rw [add_flat]; exact hc j v hv)
  cases hq : P.info? ty with
  | none => simp [hq] at hi
  | some i =>
    have hs : i.size = vs.length := by simp [hq] at hi; omega
    simp [loadVar, Sem.run_bind, ha, sizeOf, typeInfo, hq, hs, hl]
theorem agg_struct {P : Program} {ty : Nat} {fs : Array Field} (hu : P.underlying ty = some (.struct fs)) (w : World) : (isAgg ty).run P w = .ok true w := by
  unfold isAgg
  rw [Sem.run_bind, run_underlying hu w]
  simp
theorem gives_load_at {P : Program} {o : Oper} {a : Act} {w : World} {R : Value → World → Prop} (ty : TypeId) (x : Operand) (ho : o.op = .load ty x) (g off : Nat) (hx : a.eval x = .pointer (some ⟨g, off, none⟩)) (vs : List Value) (n : Nat) (ha : (isAgg ty).run P w = .ok true w) (hi : (P.info? ty).map (·.size) = some n) (hn : n = vs.length)
    (hc : ∀ j v, vs[j]? = some v → w.cell? ⟨g, off + j, none⟩ = some v) (hR : R (.agg vs.toArray) w) : gives P o a w R := by
  unfold gives execOp
  simp only [ho, hx, Instr.loadAt, Instr.sureAddr, Sem.run_bind, Sem.run_pure, Result.andThen_ok, run_loadVar_at w g off ty vs n ha hi hn hc]
  exact hR
end Go.Proofs.YtpdikmcaihlbaaaDoor
namespace Go.Proofs.YtpdikmcaihlbaaaDoor
open Go.RowKit

set_option maxRecDepth 20000 in
set_option maxHeartbeats 3200000 in
theorem same_yes (A B : Option Addr) (L : List Vl) (n c d : Nat) (w : World) (hA : RdV w A L) (hB : RdV w B L) (hn : L.length = n) (hl : n ≤ 140737488355328) :
    Calls Tryd.prog 17 #[.slice A n c, .slice B n d] w (RetB w true) := by
  have hnI : (n : Int) ≤ 140737488355328 := by omega
  have HA := hide hA
  have HB := hide hB
  have HN := hide hn
  clear hA hB hn hl
  go_enter Tryd.func17, Tryd.ntmps17
  go_upto_region 4 with fail
  go_loopw [5] (fun iv wr => ∃ i : Nat, i ≤ n ∧ iv = .int .i64 (i : Int) ∧ Hid (Ext w wr)) (fun iv _ => n - (intOf iv).toNat)
  case atStart => exact ⟨0, Nat.zero_le _, rfl, hide (Ext.refl _)⟩
  case round =>
    obtain ⟨i, hi, rfl, HX⟩ := hrel
    obtain ⟨wr, HWR⟩ := worldOf HX
    subst HWR
    by_cases hlt : i < n
    · have hii : (i : Int) < (n : Int) := by omega
      obtain ⟨x, hx⟩ : ∃ x, L[i]? = some x := ⟨_, List.getElem?_eq_getElem (by rw [HN.out]; exact hlt)⟩
      obtain ⟨b, off, hA, hc⟩ := HA.out (by intro h; rw [h] at hx; cases hx)
      obtain ⟨b', off', hB, hc'⟩ := HB.out (by intro h; rw [h] at hx; cases hx)
      subst hA hB
      have c0 := HX.out.keeps.cell (hc i x hx).1
      have c1 := HX.out.keeps.cell (hc i x hx).2.1
      have c2 := HX.out.keeps.cell (hc i x hx).2.2
      have d0 := HX.out.keeps.cell (hc' i x hx).1
      have d1 := HX.out.keeps.cell (hc' i x hx).2.1
      have d2 := HX.out.keeps.cell (hc' i x hx).2.2
      clear hc hc' hx
      go_upto_region 6 with fail
      go_quiet (fail)
      go_wp2
      exact ⟨⟨i + 1, by omega, by go_num, hide (HX.out.trans (Ext.drewn _ _))⟩, by simp [intOf]; omega⟩
    · obtain rfl : i = n := by omega
      have hii : ¬ (i : Int) < (i : Int) := by omega
      go_wp2
      go_ret
      exact ⟨rfl, HX.out⟩
end Go.Proofs.YtpdikmcaihlbaaaDoor
namespace Go.Proofs.YtpdikmcaihlbaaaDoor
open Go.RowKit

theorem OwnV.base {w : World} {B B' : Nat} {v : Value} {L : List Vl} (h : OwnV w B v L) (hB : B' ≤ B) : OwnV w B' v L := by
  refine ⟨h.1, ?_⟩
  rcases h.2 with hn | ⟨g, cap, cur, rfl, hb, rest⟩
  · exact .inl hn
  · exact .inr ⟨g, cap, cur, rfl, Nat.le_trans hB hb, rest⟩
theorem OwnV.set {w : World} {B b i : Nat} {v u : Value} {L : List Vl} (h : OwnV w B v L) (hb : b < B) : OwnV (w.setCell ⟨b, i, none⟩ u) B v L :=
  h.same fun k hk => Below.heap_setCell w ⟨b, i, none⟩ u k (fun e => by simp only at e; have := (h.at k hk).1; omega)
/-- What the reading leaves: what was there ahead of it stays, and the values, if there are any. -/
def ReadR (w0 : World) (B b0 : Nat) (r : Option (List Vl)) (w' : World) : Prop := Ext w0 w' ∧ match r with
  | none => True
  | some L => ∃ v, OwnV w' B v L ∧ Rw w' b0 22 [v]
set_option maxRecDepth 20000 in
set_option maxHeartbeats 1600000 in
theorem decode1 (g b2 b0 e4 : Nat) (A : Option Addr) (l : List UInt8) (n c : Nat) (w0 w : World) (hr0 : Rd w0 A l) (hx : Ext w0 w) (hg : w0.heap.size ≤ g) (hgw : g < w.heap.size) (hb0 : w0.heap.size ≤ b0) (hb0g : b0 ≠ g) (he : e4 < w.heap.size) (heg : e4 ≠ g) (heb : e4 ≠ b0) (hn : l.length = n) (hnc : n ≤ c) (hl : n ≤ 140737488351232) (hR : RdrC w g A n c 0) (hT : Tabs w0)
    (h2 : Rw w b2 60 [.pointer (some ⟨g, 0, none⟩)]) (h0 : Rw w b0 22 [.slice none 0 0]) (h4 : Rw w e4 28 [.int .i64 0]) :
    Calls Tryd.prog 33 #[.pointer (some ⟨b2, 0, none⟩), .pointer (some ⟨b0, 0, none⟩)] w (fun e w' => (e = if (rowAt l).isSome = true then .returned (.tuple #[]) else .panicked [{ v := gaveUp, recovered := false }]) ∧ Rw w' e4 28 [.int .i64 0] ∧ ReadR w0 w.heap.size b0 (rowAt l) w') := by
  have KR := hide (row_any g A l n c w0 w hr0 hx hg hgw hn hnc hl hR hT)
  obtain ⟨r, HR⟩ : ∃ r, Hid (rowAt l = r) := ⟨_, hide rfl⟩
  rw [HR.out] at KR ⊢
  have c2 := h2.cell (i := 0) rfl
  have H0 := hide h0
  have H4 := hide h4
  have HS := hide (show Ext w0 w ∧ w0.heap.size ≤ g ∧ w0.heap.size ≤ b0 ∧ b0 ≠ g ∧ e4 ≠ g ∧ e4 ≠ b0 ∧ e4 < w.heap.size ∧ b0 < w.heap.size from ⟨hx, hg, hb0, hb0g, heg, heb, he, h0.lt⟩)
  clear h0 h4 hx hg hb0 hb0g heg heb he hR hr0 hT h2
  cases r with
  | none =>
    go_enter Tryd.func33, Tryd.ntmps33
    go_wp2_with (go_at_call 34; (with_reducible refine KR.out.mono ?_); rintro e w2 ⟨hg2, rfl⟩)
    refine ⟨rfl, rfl, ?_, ext_of_grown HS.out.1 hg2 HS.out.2.1, trivial⟩
    exact (hg2.block e4 H4.out.lt (fun e => by injection e with e; exact HS.out.2.2.2.2.1 e)).trans H4.out
  | some L =>
    go_enter Tryd.func33, Tryd.ntmps33
    go_wp2_with (go_at_call 34; (with_reducible refine KR.out.mono ?_); rintro e w2 ⟨hg2, v, rfl, ho2⟩; obtain ⟨A5, c5, rfl, hc5, -⟩ := ho2.slice; have B2 := (show Rw w2 b0 22 [.slice none 0 0] from (hg2.block b0 H0.out.lt (fun e => HS.out.2.2.2.1 (by injection e))).trans H0.out); have d0 := B2.cell (i := 0) rfl; have f0 := B2.frozen 0)
    go_end0
    have hg3 : w.grownBy w2 (some g) := hg2
    refine ⟨rfl, (Rw.far ((hg3.block e4 H4.out.lt (fun e => by injection e with e; exact HS.out.2.2.2.2.1 e)).trans H4.out) (p := ⟨b0, 0, none⟩) HS.out.2.2.2.2.2.1 _), ?_, _, ho2.set HS.out.2.2.2.2.2.2.2, B2.set 0 _⟩
    have hx2 := ext_of_grown HS.out.1 hg3 HS.out.2.1
    exact ⟨hx2.os, hx2.tape, hx2.output, Nat.le_trans hx2.size (by simp [World.setCell]), fun j hj => (Below.heap_setCell w2 ⟨b0, 0, none⟩ _ j (fun e => by simp only at e; have := HS.out.2.2.1; omega)).trans (hx2.block j hj)⟩
/-- What Decode tells. -/
def DecC (w : World) (r : Option (List Vl)) (e : Ending) (w' : World) : Prop := Ext w w' ∧ match r with
  | none => e = .returned (.tuple #[.slice none 0 0, .int .i64 3])
  | some L => ∃ v, e = .returned (.tuple #[v, .int .i64 0]) ∧ OwnV w' w.heap.size v L
set_option maxRecDepth 20000 in
set_option maxHeartbeats 1600000 in
theorem decode_any (A : Option Addr) (l : List UInt8) (n c : Nat) (w : World) (hr : Rd w A l) (hn : l.length = n) (hnc : n ≤ c) (hl : n ≤ 140737488351232) (hT : Tabs w) :
    Calls Tryd.prog 16 #[.slice A n c] w (DecC w (rowAt l)) := by
  have hmf : ∀ (fn : Fn) (first cap : Array Value) (w : World), (Instr.makeFunc fn first cap).run Tryd.prog w = .ok (.func fn first cap) w := fun _ _ _ _ => rfl
  obtain ⟨r, HR⟩ : ∃ r, Hid (rowAt l = r) := ⟨_, hide rfl⟩
  rw [HR.out]
  go_enter Tryd.func16, Tryd.ntmps16
  go_upto_region 3 with fail
  obtain ⟨W3, hX3, h0, hg, h2, hsz, hgg⟩ : ∃ W3, Ext w W3 ∧ Rw W3 w.heap.size 22 [.slice none 0 0] ∧ RdrC W3 (w.heap.size + 1) A n c 0 ∧ Rw W3 (w.heap.size + 1 + 1) 60 [.pointer (some ⟨w.heap.size + 1, 0, none⟩)] ∧ W3.heap.size = w.heap.size + 3 ∧ ((w.alloc (.cells #[.slice none 0 0] 22)).alloc (.cells #[.slice A n c, .int .i64 0] 62)).alloc (.cells #[.pointer (some ⟨w.heap.size + 1, 0, none⟩)] 60) = W3 := by
    have e1 : (w.alloc (.cells #[.slice none 0 0] 22)).heap.size = w.heap.size + 1 := by simp
    have e2 : ((w.alloc (.cells #[.slice none 0 0] 22)).alloc (.cells #[.slice A n c, .int .i64 0] 62)).heap.size = w.heap.size + 1 + 1 := by simp
    refine ⟨_, ((Ext.alloc _ _).trans (Ext.alloc _ _)).trans (Ext.alloc _ _), ((Rw.new w 22 [.slice none 0 0]).alloc _).alloc _, ?_, ?_, by simp, rfl⟩
    · have h := Rw.new (w.alloc (.cells #[.slice none 0 0] 22)) 62 [.slice A n c, .int .i64 0]
      rw [e1] at h
      exact h.alloc _
    · have h := Rw.new ((w.alloc (.cells #[.slice none 0 0] 22)).alloc (.cells #[.slice A n c, .int .i64 0] 62)) 60 [.pointer (some ⟨w.heap.size + 1, 0, none⟩)]
      rw [e2] at h
      exact h
  rw [hgg]
  clear hgg
  have hX4 : Ext W3 (W3.alloc (.cells #[.int .i64 0] 28)) := Ext.alloc _ _
  have hz4 : (W3.alloc (.cells #[.int .i64 0] 28)).heap.size = w.heap.size + 4 := by simp [hsz]
  have K1 := decode1 (w.heap.size + 1) (w.heap.size + 1 + 1) w.heap.size W3.heap.size A l n c w (W3.alloc (.cells #[.int .i64 0] 28)) hr (hX3.trans hX4) (by omega) (by omega) (Nat.le_refl _) (by omega) (by omega) (by omega) (by omega) hn hnc hl (Rw.ext hg hX4) hT (h2.ext hX4) (h0.ext hX4) (Rw.new _ _ _)
  have KC := hide (caught_decode #[.pointer (some ⟨w.heap.size + 1 + 1, 0, none⟩), .pointer (some ⟨w.heap.size, 0, none⟩)] (rowAt l).isSome (ReadR w (w.heap.size + 4) w.heap.size (rowAt l)) W3 (by rw [hz4] at K1; exact K1))
  rw [HR.out] at KC
  have HSZ := hide hsz
  clear hr hT hX3 h0 hg h2 hsz hX4 hz4 K1
  have KE : Hid (Calls Tryd.prog 32 #[.func (.func 33) #[] #[.pointer (some ⟨w.heap.size + 1 + 1, 0, none⟩), .pointer (some ⟨w.heap.size, 0, none⟩)]] W3 (fun e w' => e = .returned (.int .i64 (if r.isSome = true then 0 else 3)) ∧ ReadR w (w.heap.size + 4) w.heap.size r w')) := hide (KC.out.mono fun e w' ⟨he, w1, hR1, hg1⟩ => ⟨he, by
    refine ⟨⟨hg1.os.trans hR1.1.os, hg1.tape.trans hR1.1.tape, hg1.output.trans hR1.1.output, Nat.le_trans hR1.1.size hg1.size, fun j hj => (hg1.block j (Nat.lt_of_lt_of_le hj hR1.1.size) (fun e => by injection e with e; have := HSZ.out; omega)).trans (hR1.1.block j hj)⟩, ?_⟩
    cases r with
    | none => trivial
    | some L =>
      obtain ⟨-, v, ho, hb⟩ := hR1
      exact ⟨v, ho.same fun k hk => hg1.block k (ho.at k hk).2 (fun e => by injection e with e; have := (ho.at k hk).1; have := HSZ.out; omega), (hg1.block w.heap.size hb.lt (fun e => by injection e with e; have := HSZ.out; omega)).trans hb⟩⟩)
  clear KC
  cases r with
  | none =>
    have KE2 := hide (show Calls Tryd.prog 32 #[.func (.func 33) #[] #[.pointer (some ⟨w.heap.size + 1 + 1, 0, none⟩), .pointer (some ⟨w.heap.size, 0, none⟩)]] W3 (fun e w' => e = .returned (.int .i64 3) ∧ ReadR w (w.heap.size + 4) w.heap.size none w') from KE.out)
    clear KE
    go_wp2_with (go_at_call 32; (with_reducible refine KE2.out.mono ?_); rintro e w5 ⟨rfl, hR5⟩)
    go_ret2
    exact ⟨hR5.1, rfl⟩
  | some L =>
    have KE2 := hide (show Calls Tryd.prog 32 #[.func (.func 33) #[] #[.pointer (some ⟨w.heap.size + 1 + 1, 0, none⟩), .pointer (some ⟨w.heap.size, 0, none⟩)]] W3 (fun e w' => e = .returned (.int .i64 0) ∧ ReadR w (w.heap.size + 4) w.heap.size (some L) w') from KE.out)
    clear KE
    go_wp2_with (go_at_call 32; (with_reducible refine KE2.out.mono ?_); rintro e w5 ⟨rfl, hx5, v, ho5, hb5⟩; have d5 := hb5.cell (i := 0) rfl)
    go_ret2
    exact ⟨hx5, v, rfl, ho5.base (by omega)⟩
end Go.Proofs.YtpdikmcaihlbaaaDoor
namespace Go.Proofs.YtpdikmcaihlbaaaDoor
open Go.RowKit

/-- What Decode tells where there is nothing to read. -/
def DecNo (w : World) (e : Ending) (w' : World) : Prop := Ext w w' ∧ e = .returned (.tuple #[.slice none 0 0, .int .i64 3])
theorem encT_cases (L : List Vl) : (∃ k : Int, encT L = (k, none) ∧ ((k == 0) = false) ∧ ((k != 0) = true)) ∨ (L.length ≤ 12 ∧ L.all vOk = true ∧ encT L = (0, some (encB L))) := by
  unfold encT
  by_cases h : 12 < L.length
  · rw [if_pos h]; exact .inl ⟨2, rfl, rfl, rfl⟩
  · rw [if_neg h]
    by_cases h2 : L.all vOk = true
    · rw [if_pos h2]; exact .inr ⟨by omega, h2, rfl⟩
    · rw [if_neg h2]; exact .inl ⟨3, rfl, rfl, rfl⟩
theorem encB_len (L : List Vl) (h12 : L.length ≤ 12) (hall : L.all vOk = true) (hb : ∀ x ∈ L, VlIn x) : 1 ≤ (encB L).length ∧ (encB L).length ≤ 800 := by
  have h := rowsV_len L hall hb
  unfold encB
  rw [List.length_cons]
  omega
set_option maxRecDepth 20000 in
set_option maxHeartbeats 3200000 in
theorem codecCuts_walk (A : Option Addr) (L : List Vl) (n c : Nat) (cut more : Nat) (w : World) (hr : RdV w A L) (hn : L.length = n) (hnc : n ≤ c) (hl : n ≤ 140737488355328) (hb : ∀ x ∈ L, VlIn x) (hcut : cut < 65536) (hmore : more < 256) (hT : Tabs w) :
    Calls Tryd.prog 5 #[.slice A n c, .int .u16 (cut : Int), .int .u8 (more : Int)] w (RetB w true) := by
  have KA := hide (fun (W : World) (hW : Ext w W) => awake_any W (hT.ext hW))
  have KE := hide (fun (W : World) (hW : Ext w W) => encode_any A L n c W (hr.ext hW) hn hnc hl hb (hT.ext hW))
  rcases encT_cases L with ⟨k, hk, hk0, hk1⟩ | ⟨h12, hall, hE⟩
  · rw [hk] at KE
    clear hr hn hnc hl hb hT hk
    go_enter Tryd.func5, Tryd.ntmps5
    go_wp2_with (first
      | (go_at_call 11; (with_reducible refine (KA.out _ (Ext.refl _)).mono ?_); rintro e w1 ⟨rfl, hx1⟩; have X1 := hide hx1)
      | (go_at_call 14; (with_reducible refine (KE.out _ X1.out).mono ?_); rintro e w2 ⟨hx2, rfl⟩; have X2 := hide (X1.out.trans hx2)))
    go_ret
    exact ⟨rfl, X2.out⟩
  · rw [hE] at KE
    have hlen := encB_len L h12 hall hb
    obtain ⟨FL, HFL⟩ : ∃ l, Hid (encB L = l) := ⟨_, hide rfl⟩
    obtain ⟨NL, HNL⟩ : ∃ n, Hid (FL.length = n) := ⟨_, hide rfl⟩
    rw [HFL.out, HNL.out] at hlen
    rw [HFL.out] at KE
    obtain ⟨J, HJ⟩ : ∃ j, Hid (cut % NL = j) := ⟨_, hide rfl⟩
    have hJ : J < NL := by have := HJ.out; have := Nat.mod_lt cut (show 0 < NL by omega); omega
    have hJI : (cut : Int) % (NL : Int) = (J : Int) := by rw [← Int.natCast_emod, HJ.out]
    have HC : Hid (rowAt (FL.take J) = none) := hide (by rw [← HFL.out]; exact row_cut L h12 hall hb J (by rw [HFL.out, HNL.out]; exact hJ))
    obtain ⟨FM, HFM⟩ : ∃ l, Hid (FL ++ [b8 (more : Int)] = l) := ⟨_, hide rfl⟩
    have HFMl : Hid (FM.length = NL + 1) := hide (by rw [← HFM.out, List.length_append, HNL.out]; rfl)
    have HM : Hid (rowAt FM = none) := hide (by rw [← HFM.out, ← HFL.out]; exact row_more L h12 hall hb _)
    have KD1 := hide (fun (W : World) (hW : Ext w W) (AP : Option Addr) (cp : Nat) (hR : Rd W AP FL) (hc : NL ≤ cp) => (show Calls Tryd.prog 16 #[.slice AP J cp] W (DecNo W) from (decode_any AP (FL.take J) J cp W (hR.take _) (by rw [List.length_take, HNL.out]; omega) (by omega) (by omega) (hT.ext hW)).mono (fun e w' h => by rw [HC.out] at h; exact h)))
    have KD2 := hide (fun (W : World) (hW : Ext w W) (AP : Option Addr) (cp : Nat) (hR : Rd W AP FM) (hc : NL + 1 ≤ cp) => (show Calls Tryd.prog 16 #[.slice AP (NL + 1) cp] W (DecNo W) from (decode_any AP FM (NL + 1) cp W hR HFMl.out hc (by omega) (hT.ext hW)).mono (fun e w' h => by rw [HM.out] at h; exact h)))
    have hcw : IntKind.i64.wrap (cut : Int) = (cut : Int) := by rw [IntKind.wrap_i64]; omega
    have hNz : ((NL : Int) == 0) = false := by simp; omega
    clear hr hn hnc hl hb hT hE hall h12 hJ
    have hJ0 : (0 : Int) ≤ (J : Int) := by omega
    have hJ : J < NL := by have := HJ.out; have := Nat.mod_lt cut (show 0 < NL by omega); omega
    go_enter Tryd.func5, Tryd.ntmps5
    go_upto_region 6 with (first
      | (go_at_call 11; (with_reducible refine (KA.out _ (Ext.refl _)).mono ?_); rintro e w1 ⟨rfl, hx1⟩; have X1 := hide hx1)
      | (go_at_call 14; (with_reducible refine (KE.out _ X1.out).mono ?_); rintro e w2 ⟨hx2, v2, rfl, ho2⟩; obtain ⟨AP, cp, hv2, hcp, hrp⟩ := ho2.bytes; rw [HNL.out] at hv2 hcp; subst hv2; have RP := hide hrp; have HCP := hide hcp; have X2 := hide (X1.out.trans hx2); clear hx2 ho2 hrp hcp))
    have hJc : J ≤ cp := by have := HCP.out; omega
    have hJcI : (J : Int) ≤ (cp : Int) := by omega
    have hnJ : ¬ cp < J := by omega
    have hJT : IntKind.i64.wrap ((cut : Int).tmod (NL : Int)) = (J : Int) := by
      rw [Int.tmod_eq_emod_of_nonneg (by omega), hJI, IntKind.wrap_i64]; omega
    go_upto_region 8 with (go_at_call 16; go_loud (with_reducible refine (KD1.out _ X2.out _ _ RP.out HCP.out).mono ?_); rintro e w3 ⟨hx3, rfl⟩; have X3 := hide (X2.out.trans hx3); have RP3 := hide (RP.out.ext hx3); clear hx3)
    go_upto_region 9 with
      (at_builtin; refine wpList_cat rfl (.tmp 34) (.tmp 35) rfl w3.heap.size (.slice none 0 0) [] FL AP NL cp rfl rfl HNL.out.symm (Own.nil _ _) RP3.out (Nat.le_refl _) (by rw [HNL.out]; simp; omega) ?_; intro vq wq hoq hxq)
    rw [List.nil_append] at hoq
    have OQ := hide hoq
    have XQ : Hid (Ext w3 wq) := hide hxq
    clear hoq hxq KD1 RP3 RP X1
    go_upto_region 10 with
      (at_builtin; refine wpList_push rfl (.tmp 37) (.tmp 39) rfl w3.heap.size _ FL rfl rfl OQ.out (by omega) (by omega) XQ.out.size (by rw [HNL.out]; omega) ?_; intro v5 w5 ho5 hx5; rw [HFM.out] at ho5; obtain ⟨A5, c5, hv5, hc5, hr5⟩ := ho5.bytes; rw [HFMl.out] at hv5 hc5; subst hv5; have R5 := hide hr5; have HC5 := hide hc5; have X5 := hide (X3.out.trans (Below.trans XQ.out hx5)); clear hr5 hc5 ho5)
    go_wp2_with (go_at_call 16; (with_reducible refine (KD2.out _ X5.out _ _ R5.out HC5.out).mono ?_); rintro e w6 ⟨hx6, rfl⟩; have X6 := hide (X5.out.trans hx6))
    go_ret
    exact ⟨rfl, X6.out⟩
theorem codecCuts_walk' (A : Option Addr) (L : List Vl) (n c : Nat) (cut more : Int) (w : World) (hr : RdV w A L) (hn : L.length = n) (hnc : n ≤ c) (hl : n ≤ 140737488355328) (hb : ∀ x ∈ L, VlIn x) (hcut : 0 ≤ cut ∧ cut ≤ 65535) (hmore : 0 ≤ more ∧ more ≤ 255) (hT : Tabs w) :
    Calls Tryd.prog 5 #[.slice A n c, .int .u16 cut, .int .u8 more] w (RetB w true) := by
  obtain ⟨a, rfl⟩ : ∃ a : Nat, cut = (a : Int) := ⟨cut.toNat, by omega⟩
  obtain ⟨b, rfl⟩ : ∃ b : Nat, more = (b : Int) := ⟨more.toNat, by omega⟩
  exact codecCuts_walk A L n c a b w hr hn hnc hl hb (by omega) (by omega) hT
end Go.Proofs.YtpdikmcaihlbaaaDoor
namespace Go.Proofs.YtpdikmcaihlbaaaDoor
open Go.RowKit

/-- Operation k waits, directly, for every other. -/
def lastOk (ops : Array Oper) (k : Nat) : Bool :=
  match ops[k]? with
  | some o => (List.range ops.size).all fun i => i == k || o.after.toList.any fun e => e.on == i && Region.binds .any e
  | none => false
theorem lastOk_edge {ops : Array Oper} {k : Nat} {last : Oper} (h : lastOk ops k = true) (hk : ops[k]? = some last) {i : Nat} (hi : i < ops.size) (hne : i ≠ k) : ∃ e ∈ last.after, Region.binds .any e = true ∧ e.on = i := by
  unfold lastOk at h
  rw [hk] at h
  simp only [List.all_eq_true, List.mem_range] at h
  have := h i hi
  simp only [Bool.or_eq_true, beq_iff_eq, hne, false_or, List.any_eq_true, Array.mem_toList_iff, Bool.and_eq_true] at this
  obtain ⟨e, he, h1, h2⟩ := this
  exact ⟨e, he, h2, h1⟩

section
variable {P : Program} {ops : Array Oper} {Q : Exit → Act → World → Prop} {S : Nat → World → Value → Prop} {a0 : Act} {w0 : World} {B : Nat}
theorem wpAny_last {k : Nat} {last : Oper} (hk : ops[k]? = some last) (hlast : lastOk ops k = true) (hok : regOk ops a0.tmps.size = true) (hup : ∀ i w w' v, S i w v → Grw B w w' → S i w' v)
    (hstep : ∀ (i : Nat) (o : Oper), i ≠ k → ops[i]? = some o → StepOk B P ops S a0 w0 i o)
    (hend : ∀ (a : Act) (w : World), Grw B w0 w → a.defers = a0.defers → a.tmps.size = a0.tmps.size → (∀ (i : Nat) (o : Oper) (d : Nat), i ≠ k → ops[i]? = some o → o.dst = some d → ∃ v, a.tmps[d]? = some v ∧ S i w v) →
      (∀ t, (∀ (i : Nat) (o : Oper), i ≠ k → ops[i]? = some o → o.dst ≠ some t) → a.tmps[t]? = a0.tmps[t]?) → Region.wanted last (yielded ops a.tmps) = true ∧ gives P last a w fun v w' => Q .normal (a.put last.dst v) w') :
    ∀ (fuel : Nat) (listed : Array Bool) (a : Act) (w : World), RInv B ops S a0 w0 listed a w → listed[k]? = some false → listed.toList.count true + fuel = ops.size → wpAny P .any ops Q fuel listed a w := by
  have getb : ∀ (l : Array Bool) (i : Nat) (b : Bool), l.getD i b = (l[i]?).getD b := fun l i b => by simp
  have allTrue : ∀ (l : Array Bool), l.toList.count true = l.size → ∀ i, i < l.size → l[i]? = some true := fun l h i hi => by
    have : ∀ x ∈ l.toList, true = x := by
      rw [← List.count_eq_length]; simpa using h
    rw [Array.getElem?_eq_getElem hi]
    congr 1
    exact (this _ (by simp)).symm
  have hklt : k < ops.size := by
    rcases Nat.lt_or_ge k ops.size with hlt | hge
    · exact hlt
    · rw [Array.getElem?_eq_none hge] at hk; cases hk
  have step : ∀ (listed : Array Bool) (a : Act) (w : World) (i : Nat) (K : Act → World → Prop), i ≠ k → RInv B ops S a0 w0 listed a w → i ∈ Region.ready .any ops listed →
      (∀ a' w', RInv B ops S a0 w0 (listed.setIfInBounds i true) a' w' → K a' w') → wpOp P ops Q i K a w := by
    intro listed a w i K hik I hr hK
    obtain ⟨hun, o, ho, hall⟩ := mem_ready.1 hr
    have hi : i < listed.size := by
      rw [I.size]
      rcases Nat.lt_or_ge i ops.size with hlt | hge
      · exact hlt
      · rw [Array.getElem?_eq_none hge] at ho; cases ho
    have hfalse : listed[i]? = some false := by
      rw [getb, Array.getElem?_eq_getElem hi] at hun
      rw [Array.getElem?_eq_getElem hi]; simpa using hun
    have hpre : ∀ e ∈ o.after, Region.binds .any e = true → listed[e.on]? = some true := fun e he hb => by
      have h1 := hall e he hb
      rw [getb] at h1
      cases h2 : listed[e.on]? with
      | none => rw [h2] at h1; simp at h1
      | some b => rw [h2] at h1; simp at h1; rw [h1]
    have hset : ∀ (k : Nat), (listed.setIfInBounds i true)[k]? = if i = k then some true else listed[k]? := fun k => by
      rw [Array.getElem?_setIfInBounds]
      by_cases h : i = k
      · subst h; simp [hi]
      · simp [h]
    have next : ∀ v w', Grw B w w' → S i w' v → RInv B ops S a0 w0 (listed.setIfInBounds i true) (a.put o.dst v) w' := by
      intro v w' hx hS
      refine ⟨by simpa using I.size, I.ext.trans hx, ?_, ?_, ?_, ?_, ?_⟩
      · cases hd : o.dst <;> simpa [Act.put] using I.defers
      · cases hd : o.dst <;> simpa [Act.put] using I.tmps
      · intro k ok hk hl e he hb
        rw [hset] at hl ⊢
        by_cases hki : i = k
        · subst hki
          rw [ho] at hk; cases hk
          split
          · rfl
          · exact hpre e he hb
        · rw [if_neg hki] at hl
          split
          · rfl
          · exact I.closed k ok hk hl e he hb
      · intro k ok d hk hl hd
        rw [hset] at hl
        by_cases hki : i = k
        · subst hki
          rw [ho] at hk; cases hk
          refine ⟨v, ?_, hS⟩
          rw [hd]
          have := regOk_lt hok ho hd
          simp only [Act.put, Array.getElem?_setIfInBounds]
          simp [I.tmps, this]
        · rw [if_neg hki] at hl
          obtain ⟨u, hu, hSu⟩ := I.vals k ok d hk hl hd
          refine ⟨u, ?_, hup _ _ _ _ hSu hx⟩
          cases hod : o.dst with
          | none => simpa [Act.put] using hu
          | some d' =>
            have hne : d' ≠ d := fun e => hki (regOk_one hok ho hk (by rw [hod, e]) hd)
            simp only [Act.put, Array.getElem?_setIfInBounds_ne hne]
            exact hu
      · intro t ht
        have hit : o.dst ≠ some t := fun hd => by
          have := ht i o ho hd
          rw [hset, if_pos rfl] at this; cases this
        have := I.same t fun k ok hk hd => by
          have h2 := ht k ok hk hd
          rw [hset] at h2
          split at h2
          · cases h2
          · exact h2
        rw [← this]
        cases hod : o.dst with
        | none => rfl
        | some d' =>
          have hne : d' ≠ t := fun e => hit (by rw [hod, e])
          simp only [Act.put, Array.getElem?_setIfInBounds_ne hne]
    have hs := hstep i o hik ho a w I.ext I.defers ?_ ?_
    · unfold wpOp
      simp only [ho]
      rcases hs with ⟨hw, hg⟩ | ⟨hw, hS⟩
      · rw [if_pos hw]
        exact .inl (wp_of_gives hg fun v w' ⟨hx, hS⟩ => hK _ _ (next v w' hx hS))
      · rw [if_neg (by rw [hw]; exact Bool.false_ne_true)]
        exact hK _ _ (next _ _ (Grw.refl _ _) hS)
    · intro t ht
      refine I.same t fun k ok hk hd => ?_
      simp only [keepsB, List.all_eq_true] at ht
      have hm : ok ∈ ops.toList := by simpa using Array.mem_of_getElem? hk
      have := ht ok hm
      simp only [hd, bne_self_eq_false, Bool.false_or, List.any_eq_true, Array.mem_toList_iff] at this
      obtain ⟨e, he, hb⟩ := this
      simp only [Bool.and_eq_true, beq_iff_eq] at hb
      have hkl : k < listed.size := by
        rw [I.size]
        rcases Nat.lt_or_ge k ops.size with hlt | hge
        · exact hlt
        · rw [Array.getElem?_eq_none hge] at hk; cases hk
      cases hv : listed[k]? with
      | none => rw [Array.getElem?_eq_getElem hkl] at hv; cases hv
      | some b =>
        cases b with
        | false => rfl
        | true =>
          have := I.closed k ok hk hv e he hb.2
          rw [hb.1, hfalse] at this; cases this
    · intro e he hb o' ho' d hd
      exact I.vals e.on o' d ho' (hpre e he hb) hd
  have full : ∀ (listed : Array Bool) (a : Act) (w : World), RInv B ops S a0 w0 listed a w → Region.ready .any ops listed = [] → ∀ i, i < ops.size → listed[i]? = some true := by
    intro listed a w I hr i
    induction i using Nat.strongRecOn with
    | ind i ih =>
      intro hi
      cases hv : listed[i]? with
      | none => rw [Array.getElem?_eq_none_iff, I.size] at hv; omega
      | some b =>
        cases b with
        | true => rfl
        | false =>
          exfalso
          have hmem : i ∈ Region.ready .any ops listed := by
            refine mem_ready.2 ⟨by rw [getb, hv]; rfl, ops[i], Array.getElem?_eq_getElem hi, fun e he hb => ?_⟩
            have hlt := regOk_back hok (Array.getElem?_eq_getElem hi) he hb
            rw [getb, ih e.on hlt (by omega)]; rfl
          rw [hr] at hmem; cases hmem
  have step_k : ∀ (listed : Array Bool) (a : Act) (w : World) (K : Act → World → Prop), RInv B ops S a0 w0 listed a w → listed[k]? = some false → k ∈ Region.ready .any ops listed →
      (∀ i, i < ops.size → i ≠ k → listed[i]? = some true) ∧ ((∀ v w', Q .normal (a.put last.dst v) w' → K (a.put last.dst v) w') → wpOp P ops Q k K a w) := by
    intro listed a w K I hkf hr
    obtain ⟨hun, o, ho, hall⟩ := mem_ready.1 hr
    rw [hk] at ho
    cases ho
    have hothers : ∀ i, i < ops.size → i ≠ k → listed[i]? = some true := by
      intro i hi hne
      have h1 := lastOk_edge hlast hk hi hne
      obtain ⟨e, he, hb, rfl⟩ := h1
      have h2 := hall e he hb
      rw [getb] at h2
      cases h3 : listed[e.on]? with
      | none => rw [h3] at h2; simp at h2
      | some b => rw [h3] at h2; simp at h2; rw [h2]
    refine ⟨hothers, fun hK => ?_⟩
    have hlt : ∀ {i : Nat} {o : Oper}, ops[i]? = some o → i < ops.size := fun {i o} ho => by
      rcases Nat.lt_or_ge i ops.size with hlt | hge
      · exact hlt
      · rw [Array.getElem?_eq_none hge] at ho; cases ho
    obtain ⟨hw, hg⟩ := hend a w I.ext I.defers I.tmps (fun i o d hne ho hd => I.vals i o d ho (hothers i (hlt ho) hne) hd) (fun t ht => I.same t fun i o ho hd => by
      by_cases hne : i = k
      · subst hne; exact hkf
      · exact absurd hd (ht i o hne ho))
    unfold wpOp
    simp only [hk]
    rw [if_pos hw]
    exact .inl (wp_of_gives hg fun v w' h => hK v w' h)
  intro fuel
  induction fuel with
  | zero =>
    intro listed a w I hkf hc
    have hall := allTrue listed (by rw [I.size]; omega)
    rw [I.size] at hall
    rw [hall k hklt] at hkf
    cases hkf
  | succ fuel ih =>
    intro listed a w I hkf hc
    refine ⟨fun hr => ?_, fun i hi => ?_⟩
    · have := full listed a w I hr k hklt
      rw [hkf] at this; cases this
    · have hcount : ∀ (l : Array Bool), True := fun _ => trivial
      obtain ⟨hun, o, ho, _⟩ := mem_ready.1 hi
      have hlt : i < listed.size := by
        rw [I.size]
        rcases Nat.lt_or_ge i ops.size with hlt | hge
        · exact hlt
        · rw [Array.getElem?_eq_none hge] at ho; cases ho
      have hif : listed[i]? = some false := by rw [getb, Array.getElem?_eq_getElem hlt] at hun; rw [Array.getElem?_eq_getElem hlt]; simpa using hun
      have hcs := count_set hif
      by_cases hik : i = k
      · subst hik
        rw [hk] at ho
        cases ho
        have hothers := (step_k listed a w (fun _ _ => True) I hkf hi).1
        refine (step_k listed a w _ I hkf hi).2 fun v w' hQ => ?_
        have hall2 : ∀ j, j < ops.size → (listed.setIfInBounds i true)[j]? = some true := fun j hj => by
          rw [Array.getElem?_setIfInBounds]
          by_cases h : i = j
          · subst h; simp [hlt]
          · simp only [h, if_false]; exact hothers j hj (fun e => h e.symm)
        have hfu : fuel = 0 := by
          have : (listed.setIfInBounds i true).toList.count true = ops.size := by
            have hsz : (listed.setIfInBounds i true).toList.length = ops.size := by simpa using I.size
            rw [← hsz, List.count_eq_length]
            intro x hx
            obtain ⟨j, hj, rfl⟩ := List.mem_iff_getElem.1 hx
            have h1 := hall2 j (by rw [← hsz]; exact hj)
            rw [Array.getElem?_eq_getElem (by simpa using hj)] at h1
            simp only [Option.some.injEq] at h1
            rw [Array.getElem_toList]
            exact h1.symm
          omega
        subst hfu
        refine ⟨?_, hQ⟩
        cases hr : Region.ready .any ops (listed.setIfInBounds i true) with
        | nil => rfl
        | cons j rest =>
          exfalso
          have hm : j ∈ Region.ready .any ops (listed.setIfInBounds i true) := by rw [hr]; simp
          obtain ⟨hun2, o2, ho2, _⟩ := mem_ready.1 hm
          have hj2 : j < ops.size := by
            rcases Nat.lt_or_ge j ops.size with hlt | hge
            · exact hlt
            · rw [Array.getElem?_eq_none hge] at ho2; cases ho2
          rw [getb, hall2 j hj2] at hun2; cases hun2
      · refine step listed a w i _ hik I hi fun a' w' I' => ih _ a' w' I' ?_ (by omega)
        rw [Array.getElem?_setIfInBounds]
        simp only [hik, if_false]
        exact hkf

end

/-- THE REGION, its last operation at place k. -/
theorem wp_region_last {B : Nat} {P : Program} {ops : List Oper} {Q : Exit → Act → World → Prop} {a0 : Act} {w0 : World} {id : Nat} (hB : B ≤ w0.heap.size) (L : List Sp) (k : Nat) (last : Oper) (hk : ops.toArray[k]? = some last) (hlast : lastOk ops.toArray k = true)
    (hm : P.follows .mixedOrders = true) (hok : regOk ops.toArray a0.tmps.size = true)
    (hstep : PaysFrom (fun i o => i = k ∨ Pays B P ops.toArray L a0 w0 i o) 0 ops)
    (hend : ∀ (a : Act) (w : World), Grw B w0 w → a.defers = a0.defers → a.tmps.size = a0.tmps.size → (∀ (i : Nat) (o : Oper) (d : Nat), i ≠ k → ops.toArray[i]? = some o → o.dst = some d → ∃ v, a.tmps[d]? = some v ∧ (L.getD i Sp.any).p w v) →
      (∀ t, (∀ (i : Nat) (o : Oper), i ≠ k → ops.toArray[i]? = some o → o.dst ≠ some t) → a.tmps[t]? = a0.tmps[t]?) → Region.wanted last (yielded ops.toArray a.tmps) = true ∧ gives P last a w fun v w' => Q .normal (a.put last.dst v) w') :
    (Code.region id ops.toArray true).wp P Q a0 w0 := by
  refine wp_region_any hm (wpAny_last (S := fun i => (L.getD i Sp.any).p) (w0 := w0) (a0 := a0) (B := B) hk hlast hok (fun i w w' v h hx => (L.getD i Sp.any).up w w' v h hx.keeps) ?_ hend _ _ a0 _ ?_ ?_ ?_)
  · intro i o hne ho a w hx hd hk' H
    have h := paysFrom_all ops 0 hstep i o (by simpa using ho)
    rw [Nat.zero_add] at h
    rcases h with h | h
    · exact absurd h hne
    refine h a w hx (Nat.le_trans hB hx.size) hk' fun j hj o' ho' d hd' => ?_
    simp only [List.any_eq_true, Array.mem_toList_iff] at hj
    obtain ⟨e, he, hb⟩ := hj
    simp only [Bool.and_eq_true, beq_iff_eq] at hb
    obtain ⟨rfl, hb⟩ := hb
    exact H e he hb o' ho' d hd'
  · refine ⟨by simp, Grw.drewn _ _ _, rfl, rfl, ?_, ?_, fun _ _ => rfl⟩
    · intro i o ho hl
      rw [Array.getElem?_replicate] at hl
      split at hl <;> simp at hl
    · intro i o d ho hl
      rw [Array.getElem?_replicate] at hl
      split at hl <;> simp at hl
  · have hklt : k < ops.toArray.size := by
      rcases Nat.lt_or_ge k ops.toArray.size with hlt | hge
      · exact hlt
      · rw [Array.getElem?_eq_none hge] at hk; cases hk
    rw [Array.getElem?_replicate, if_pos hklt]
  · have : (Array.replicate ops.toArray.size false).toList.count true = 0 := by simp [List.count_replicate]
    omega

/-- A frame, told slot by slot. -/
theorem tmps_sets {t : Array Value} : ∀ (ps : List (Nat × Value)) (a0 : Array Value), t.size = a0.size → (∀ p ∈ ps, t[p.1]? = some p.2) → (∀ i, (∀ p ∈ ps, p.1 ≠ i) → t[i]? = a0[i]?) → t = ps.foldl (fun t p => t.setIfInBounds p.1 p.2) a0
  | [], a0, hs, _, h => Array.ext_getElem? (fun i => h i (fun _ h => by cases h))
  | p :: ps, a0, hs, hp, h => by
    refine tmps_sets ps (a0.setIfInBounds p.1 p.2) (by simpa using hs) (fun q hq => hp q (List.mem_cons_of_mem _ hq)) (fun i hi => ?_)
    rw [Array.getElem?_setIfInBounds]
    by_cases he : p.1 = i
    · subst he
      have h1 := hp p (List.mem_cons_self)
      have hlt : p.1 < t.size := by
        rcases Nat.lt_or_ge p.1 t.size with h' | h'
        · exact h'
        · rw [Array.getElem?_eq_none h'] at h1; cases h1
      rw [if_pos rfl, if_pos (by omega), h1]
    · rw [if_neg he]
      exact h i (fun q hq => by
        rcases List.mem_cons.1 hq with rfl | hq
        · exact he
        · exact hi q hq)
/-- The slots that the operations other than k write are these. -/
def dstsIn (ops : List Oper) (k : Nat) (ds : List Nat) : Bool := ops.zipIdx.all fun x => x.2 == k || (match x.1.dst with | some d => ds.contains d | none => true)
theorem frame_last {ops : List Oper} {k : Nat} {a0 t : Array Value} (ps : List (Nat × Value)) (hs : t.size = a0.size) (hd : dstsIn ops k (ps.map (·.1)) = true) (hp : ∀ p ∈ ps, t[p.1]? = some p.2)
    (hsame : ∀ t', (∀ (i : Nat) (o : Oper), i ≠ k → ops.toArray[i]? = some o → o.dst ≠ some t') → t[t']? = a0[t']?) : t = ps.foldl (fun t p => t.setIfInBounds p.1 p.2) a0 := by
  refine tmps_sets ps a0 hs hp fun i hi => hsame i fun j o hj ho hdst => ?_
  have hm : (o, j) ∈ ops.zipIdx := by rw [List.mem_zipIdx_iff_getElem?]; simpa using ho
  have := List.all_eq_true.1 hd (o, j) hm
  simp only [hdst, Bool.or_eq_true, beq_iff_eq, hj, false_or, List.contains_iff_mem] at this
  obtain ⟨p, hp1, hp2⟩ := List.mem_map.1 this
  exact hi p hp1 hp2
end Go.Proofs.YtpdikmcaihlbaaaDoor
