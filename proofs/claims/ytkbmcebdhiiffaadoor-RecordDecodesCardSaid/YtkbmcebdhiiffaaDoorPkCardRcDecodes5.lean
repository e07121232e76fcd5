/-
  The reader of records: the dirty pages.
  The reader of records: check.
  The reader of records: record, plain.
  The reader of records: record, kind 1.
-/
import Derived.Deep.RegionHeld3
import Derived.Deep.RegionLaw
import Derived.Test.YtkbmcebdhiiffaaDoorPkCardRcDecodes4
set_option linter.unusedVariables false
set_option linter.unusedSimpArgs false

namespace Go.Proofs.YtkbmcebdhiiffaaDoor
open Go.RowKit

def dvs (L : List (Int × Int)) : List Value := L.flatMap fun d => [.int .i64 d.1, .int .u64 d.2]
theorem dvs_append (a b : List (Int × Int)) : dvs (a ++ b) = dvs a ++ dvs b := List.flatMap_append
theorem dvs_get : ∀ (L : List (Int × Int)) (j : Nat) (d : Int × Int), L[j]? = some d → (dvs L)[j * 2]? = some (.int .i64 d.1) ∧ (dvs L)[j * 2 + 1]? = some (.int .u64 d.2)
  | [], _, _, h => by cases h
  | x :: L, 0, d, h => by injection h with h; subst h; exact ⟨rfl, rfl⟩
  | x :: L, j + 1, d, h => by
    have ih := dvs_get L j d h
    have e : dvs (x :: L) = .int .i64 x.1 :: .int .u64 x.2 :: dvs L := rfl
    rw [e, show (j + 1) * 2 = j * 2 + 1 + 1 by omega]
    exact ih
/-- Dirty pages of the call's own. -/
def OwnD (w : World) (B : Nat) (v : Value) (L : List (Int × Int)) : Prop := w.ownsRow B 47 2 v L.length (dvs L)
theorem OwnD.nil (w : World) (B : Nat) : OwnD w B (.slice none 0 0) [] := World.ownsRow_nil _ _ _ _
theorem OwnD.same {w w' : World} {B : Nat} {v : Value} {L : List (Int × Int)} (h : OwnD w B v L) (hx : ∀ k, v.ownBlock = some k → w'.heap[k]? = w.heap[k]?) : OwnD w' B v L := by
  refine ⟨h.1, ?_⟩
  rcases h.2 with hn | ⟨g, cap, cur, rfl, hb, hg, rest⟩
  · exact .inl hn
  · exact .inr ⟨g, cap, cur, rfl, hb, (hx g rfl).trans hg, rest⟩
theorem OwnD.at {w : World} {B : Nat} {v : Value} {L : List (Int × Int)} (h : OwnD w B v L) (k : Nat) (hk : v.ownBlock = some k) : B ≤ k ∧ k < w.heap.size := by
  rcases h.2 with ⟨rfl, _⟩ | ⟨g, cap, cur, rfl, hb, hg, _⟩
  · cases hk
  · injection hk with hk
    subst hk
    exact ⟨hb, (Array.getElem?_eq_some_iff.1 hg).1⟩
theorem OwnD.slice {w : World} {B : Nat} {v : Value} {L : List (Int × Int)} (h : OwnD w B v L) : ∃ A c, v = .slice A L.length c ∧ L.length ≤ c ∧ RdD w A L := by
  rcases h.2 with ⟨rfl, h0⟩ | ⟨g, cap, cur, rfl, hb, hg, hnc, _⟩
  · exact ⟨none, 0, by rw [h0], by rw [h0]; exact Nat.le_refl _, fun hn => absurd (List.length_eq_zero_iff.1 h0) hn⟩
  · refine ⟨_, cap, rfl, hnc, fun _ => ⟨g, 0, rfl, fun j d hj => ?_⟩⟩
    obtain ⟨e1, e2⟩ := dvs_get L j d hj
    have c1 := h.cells (g := g) rfl (j * 2) _ e1
    have c2 := h.cells (g := g) rfl (j * 2 + 1) _ e2
    rw [add_flat] at c1 c2
    exact ⟨c1, c2⟩
theorem info_dirty : (Tryd.prog.info? 47).map (fun i => (i.zero, i.size, i.bytes)) = some (some (.agg #[.int .i64 0, .int .u64 0]), 2, 16) := by kernel_rfl
theorem info_partsD : ∃ i0, Tryd.prog.info? 47 = some i0 ∧ i0.zero = some (.agg #[.int .i64 0, .int .u64 0]) ∧ i0.size = 2 ∧ i0.bytes = 16 := by
  have h := info_dirty
  cases hq : Tryd.prog.info? 47 with
  | none => rw [hq] at h; cases h
  | some i =>
    rw [hq] at h
    simp only [Option.map_some, Option.some.injEq, Prod.mk.injEq] at h
    exact ⟨i, rfl, h.1, h.2.1, h.2.2⟩
theorem append_dr {W : World} {B : Nat} {v : Value} {L : List (Int × Int)} (d : Int × Int) (hown : OwnD W B v L) (hk : L.length ≤ 1000) (hB : B ≤ W.heap.size) (ty : Nat) :
    ∃ A' c' W2, (Builtin.append_ #[24, 24] ty #[v, .slice (some ⟨W.heap.size, 0, none⟩) 1 1]).run Tryd.prog (W.alloc (.cells #[.int .i64 d.1, .int .u64 d.2] 47)) = .ok (.slice A' (L.length + 1) c') W2 ∧
      OwnD W2 B (.slice A' (L.length + 1) c') (L ++ [d]) ∧ (W.alloc (.cells #[.int .i64 d.1, .int .u64 d.2] 47)).grownBy W2 v.ownBlock := by
  obtain ⟨i0, hi, hz, hsz, hby⟩ := info_partsD
  have R := Rw.new W 47 [.int .i64 d.1, .int .u64 d.2]
  have hX := Ext.alloc W (.cells #[.int .i64 d.1, .int .u64 d.2] 47)
  have hown' : OwnD (W.alloc (.cells #[.int .i64 d.1, .int .u64 d.2] 47)) B v L := hown.same fun k hk => hX.block k (hown.at k hk).2
  have hone : ∀ u ∈ [Value.int .i64 d.1, .int .u64 d.2], u.oneCell' = true := by
    intro u hu
    rcases List.mem_cons.1 hu with rfl | hu
    · rfl
    · rw [List.mem_singleton.1 hu]; rfl
  obtain ⟨v', w', hrun, h3, h4, -, -⟩ := run_append_own_at (P := Tryd.prog) (w := W.alloc (.cells #[.int .i64 d.1, .int .u64 d.2] 47)) B 24 ty 47 i0 _ 2 16 Tryd.underlying24 hi hz hsz hby rfl (by decide) v L.length (dvs L) hown' ⟨W.heap.size, 0, none⟩ 1 1 [.int .i64 d.1, .int .u64 d.2] rfl (fun j u hu => by rw [add_flat, Nat.zero_add]; exact R.cell hu) hone (by unfold maxLen; omega) (by omega) (Nat.le_trans hB hX.size)
  obtain ⟨A', c', rfl⟩ : ∃ A' c', v' = .slice A' (L.length + 1) c' := by
    rcases h3.2 with ⟨_, h0⟩ | ⟨g', cap, _, hv, _⟩
    · omega
    · exact ⟨_, _, hv⟩
  refine ⟨A', c', w', hrun, ?_, h4⟩
  unfold OwnD
  rw [dvs_append, List.length_append]
  exact h3
/-- The dirty pages that stand in front. -/
def dirR : Nat → List UInt8 × Bool → List (Int × Int) × (List UInt8 × Bool)
  | 0, st => ([], st)
  | m + 1, st => ((num (tk 2 st).1, num (tk 8 (tk 2 st).2).1) :: (dirR m (tk 8 (tk 2 st).2).2).1, (dirR m (tk 8 (tk 2 st).2).2).2)
theorem build_dr (y z : Int) (W : World) : (Instr.buildSlice 24 1 #[(0, .agg #[.int .i64 y, .int .u64 z])]).run Tryd.prog W = .ok (.slice (some ⟨W.heap.size, 0, none⟩) 1 1) (W.alloc (.cells #[.int .i64 y, .int .u64 z] 47)) := by kernel_rfl
theorem gives_buildSlice {P : Program} {o : Oper} {a : Act} {w : World} {R : Value → World → Prop} {t : TypeId} {n : Nat} {parts : Array (Nat × Operand)} {v : Value} {w' : World} (h : o.op = .buildSlice t n parts) (vs : List (Nat × Value)) (hv : parts.toList.map (fun x => (x.1, a.eval x.2)) = vs)
    (hrun : (Instr.buildSlice t n vs.toArray).run P w = .ok v w') (hR : R v w') : gives P o a w R := by
  refine gives_of_run (w' := w') (v := v) ?_ hR
  have e : (parts.map fun (i, x) => (i, a.eval x)) = vs.toArray := by
    apply Array.ext'
    rw [Array.toList_map]
    exact hv
  unfold execOp
  simp only [h, e, Sem.run_bind, hrun, Result.andThen_ok, Sem.run_pure]
theorem gives_append {P : Program} {o : Oper} {a : Act} {w : World} {R : Value → World → Prop} {s x : Operand} {t : TypeId} {u y v : Value} {w' : World} (h : o.op = .call { callee := .builtin .append, args := #[s, x], argTypes := #[t, t] }) (hs : a.eval s = u) (hx : a.eval x = y)
    (hrun : (Builtin.append_ #[t, t] o.type #[u, y]).run P w = .ok v w') (hR : R v w') : gives P o a w R := by
  refine gives_of_run (w' := w') (v := v) ?_ hR
  unfold execOp
  simp only [h, resolve, invoke, builtin, Sem.run_bind, Sem.run_pure, Result.andThen_ok, List.map_toArray, List.map_cons, List.map_nil, hs, hx, hrun]
theorem step_gives {P : Program} {ops : Array Oper} {o : Oper} {a : Act} {w w' : World} {x : Value} {K : Act → World → Prop} {Q : Exit → Act → World → Prop} {E : Prop} (h : gives P o a w fun v w2 => v = x ∧ w2 = w') (hgd : o.guard = none) (hK : K (a.put o.dst x) w') :
    if Region.wanted o (yielded ops a.tmps) = true then o.wp P a w K Q else E := by
  rw [if_pos (by simp [Region.wanted, hgd])]
  exact wp_of_gives h fun v w2 ⟨hv, hw⟩ => by subst hv hw; exact hK
/-- All blocks but two stay. -/
structure Only2 (g h : Nat) (w w' : World) : Prop where
  os : w'.os = w.os
  tape : w'.tape = w.tape
  output : w'.output = w.output
  size : w.heap.size ≤ w'.heap.size
  block : ∀ k, k < w.heap.size → k ≠ g → k ≠ h → w'.heap[k]? = w.heap[k]?
theorem Only2.refl (g h : Nat) (w : World) : Only2 g h w w := ⟨rfl, rfl, rfl, Nat.le_refl _, fun _ _ _ _ => rfl⟩
theorem Only2.grown {g h : Nat} {w w1 w2 : World} {r : Option Nat} (k : Only2 g h w w1) (hg : w1.grownBy w2 r) (hr : ∀ b, r = some b → b = g ∨ b = h ∨ w.heap.size ≤ b) : Only2 g h w w2 :=
  ⟨hg.os.trans k.os, hg.tape.trans k.tape, hg.output.trans k.output, Nat.le_trans k.size hg.size, fun b hb h1 h2 => (hg.block b (Nat.lt_of_lt_of_le hb k.size) (fun e => by rcases hr b e.symm with h3 | h3 | h3 <;> omega)).trans (k.block b hb h1 h2)⟩
theorem Only2.ext {g h : Nat} {w w1 w2 : World} (k : Only2 g h w w1) (hx : Ext w1 w2) : Only2 g h w w2 := k.grown (grown_of_ext hx none) (fun b h => by cases h)
theorem Only2.set {g h : Nat} {w w1 : World} (k : Only2 g h w w1) (i : Nat) (v : Value) : Only2 g h w (w1.setCell ⟨h, i, none⟩ v) :=
  ⟨k.os, k.tape, k.output, Nat.le_trans k.size (by simp [World.setCell]), fun b hb h1 h2 => (Below.heap_setCell w1 ⟨h, i, none⟩ v b h2).trans (k.block b hb h1 h2)⟩
theorem Only2.ofExt {g h : Nat} {w0 w w' : World} (k : Only2 g h w w') (hx : Ext w0 w) (hg : w0.heap.size ≤ g) (hh : w0.heap.size ≤ h) : Ext w0 w' :=
  ⟨k.os.trans hx.os, k.tape.trans hx.tape, k.output.trans hx.output, Nat.le_trans hx.size k.size, fun b hb => (k.block b (Nat.lt_of_lt_of_le hb hx.size) (by omega) (by omega)).trans (hx.block b hb)⟩
theorem rdr_ne {w0 w : World} {g h : Nat} {st : List UInt8 × Bool} {t : TypeId} {vs : List Value} (hr : RdrAt w0 w g st) (hR : Rw w h t vs) (ht : t ≠ 54) : h ≠ g := fun e => by
  subst e
  obtain ⟨A, c, h1, _⟩ := hr.out
  unfold Rw at h1 hR
  rw [h1] at hR
  injection hR with hR
  injection hR with _ h2
  exact ht h2.symm
theorem num_lt (n : Nat) (st : List UInt8 × Bool) : 0 ≤ num (tk n st).1 ∧ num (tk n st).1 < 256 ^ n := by
  have h := num_bound (tk n st).1
  refine ⟨h.1, Int.lt_of_lt_of_le h.2 ?_⟩
  have h3 : 256 ^ (tk n st).1.length ≤ 256 ^ n := Nat.pow_le_pow_right (by omega) (tk_le n st)
  have h2 : ((256 ^ (tk n st).1.length : Nat) : Int) ≤ ((256 ^ n : Nat) : Int) := Int.ofNat_le.2 h3
  rw [Int.natCast_pow, Int.natCast_pow] at h2
  exact h2
theorem dirR_len : ∀ (m : Nat) (st : List UInt8 × Bool), (dirR m st).1.length = m
  | 0, _ => rfl
  | m + 1, st => by simp only [dirR, List.length_cons, dirR_len m]
theorem number_1 (g : Nat) (st : List UInt8 × Bool) (w0 w : World) (hx : Ext w0 w) (h : RdrAt w0 w g st) (hl : st.1.length ≤ 140737488351232) :
    Calls Tryd.prog 32 #[.pointer (some ⟨g, 0, none⟩), .int .i64 1] w (RdrP w0 w g (tk 1 st).2 (fun _ v => v = .int .u64 (num (tk 1 st).1))) := number_any g 1 st w0 w hx h hl (by decide)
theorem number_2 (g : Nat) (st : List UInt8 × Bool) (w0 w : World) (hx : Ext w0 w) (h : RdrAt w0 w g st) (hl : st.1.length ≤ 140737488351232) :
    Calls Tryd.prog 32 #[.pointer (some ⟨g, 0, none⟩), .int .i64 2] w (RdrP w0 w g (tk 2 st).2 (fun _ v => v = .int .u64 (num (tk 2 st).1))) := number_any g 2 st w0 w hx h hl (by decide)
theorem number_8 (g : Nat) (st : List UInt8 × Bool) (w0 w : World) (hx : Ext w0 w) (h : RdrAt w0 w g st) (hl : st.1.length ≤ 140737488351232) :
    Calls Tryd.prog 32 #[.pointer (some ⟨g, 0, none⟩), .int .i64 8] w (RdrP w0 w g (tk 8 st).2 (fun _ v => v = .int .u64 (num (tk 8 st).1))) := number_any g 8 st w0 w hx h hl (by decide)
end Go.Proofs.YtkbmcebdhiiffaaDoor
namespace Go.Proofs.YtkbmcebdhiiffaaDoor
open Go.RowKit

set_option maxRecDepth 20000 in
set_option maxHeartbeats 6400000 in
theorem check_any (g h : Nat) (st : List UInt8 × Bool) (k tx pv pg off nx : Int) (v5 v6 : Value) (o0 : Bool) (w0 w : World) (hx : Ext w0 w) (hg0 : w0.heap.size ≤ g) (hh0 : w0.heap.size ≤ h) (hr : RdrAt w0 w g st) (hl : st.1.length ≤ 140737488351232) (hR : Rw w h 26 [.int .u8 k, .int .u64 tx, .int .u64 pv, .int .i64 pg, .int .i64 off, v5, v6, .int .u64 nx, .slice none 0 0, .bool o0])
    (q : Nat) (hq : num (tk 1 st).1 = (q : Int)) :
    Calls Tryd.prog 34 #[.pointer (some ⟨g, 0, none⟩), .pointer (some ⟨h, 0, none⟩)] w (fun e w' => e = .returned (.tuple #[]) ∧ ∃ v8, Rw w' h 26 [.int .u8 k, .int .u64 tx, .int .u64 pv, .int .i64 pg, .int .i64 off, v5, v6, .int .u64 nx, v8, .bool ((q : Int) % 2 == 1)] ∧ OwnD w' w.heap.size v8 (dirR (q / 2) (tk 1 st).2).1 ∧ RdrAt w0 w' g (dirR (q / 2) (tk 1 st).2).2 ∧ Only2 g h w w') := by
  have HX := hide hx
  have HG0 := hide hg0
  have HH0 := hide hh0
  have HRR := hide hr
  have HRW := hide hR
  have hne := rdr_ne hr hR (by decide)
  have HNE := hide hne
  have KN := hide (number_1 g st w0 w hx hr hl)
  have hqb : (q : Int) ≤ 255 := by have := (num_lt 1 st).2; rw [hq] at this; omega
  obtain ⟨s1, HS1⟩ : ∃ s, Hid ((tk 1 st).2 = s) := ⟨_, hide rfl⟩
  have HL1 : Hid (s1.1.length ≤ 140737488351232) := hide (by rw [← HS1.out]; exact Nat.le_trans (tk_left 1 st) hl)
  rw [hq, HS1.out] at KN
  rw [HS1.out]
  have HGW0 : Hid (g < w.heap.size ∧ h < w.heap.size) := hide ⟨hr.lt, hR.lt⟩
  clear hx hg0 hh0 hr hR hl hq hne
  have hwq : IntKind.i64.wrap (q : Int) = (q : Int) := by rw [IntKind.wrap_i64]; omega
  go_enter Tryd.func34, Tryd.ntmps34
  go_upto_region 1 with (go_at_call 32; (with_reducible refine KN.out.mono ?_); rintro e w2 ⟨v2, rfl, rfl, hr2, hg2⟩; have R2 := hide hr2; have G2 := hide hg2; have RW2 := hide ((hg2.block h HRW.out.lt (fun e => HNE.out (by injection e))).trans HRW.out); have Y2 : Hid (Only2 g h w w2) := hide ((Only2.refl g h w).grown hg2 (fun b e => .inl (by injection e with e; exact e.symm))); clear hr2 hg2)
  have RW2 : Hid (Rw w2 h 26 [.int .u8 k, .int .u64 tx, .int .u64 pv, .int .i64 pg, .int .i64 off, v5, v6, .int .u64 nx, .slice none 0 0, .bool o0]) := RW2
  have f9 := RW2.out.frozen 9
  have c9 := RW2.out.cell (i := 9) rfl
  go_upto_region 3 with fail
  obtain ⟨op, HOP⟩ : ∃ op, Hid (((q : Int) % 2 == 1) = op) := ⟨_, hide rfl⟩
  obtain ⟨m, HMM⟩ : ∃ m : Nat, Hid (q / 2 = m) := ⟨_, hide rfl⟩
  rw [show (q : Int) / 2 = ((q / 2 : Nat) : Int) by omega, HMM.out]
  rw [HOP.out]

  obtain ⟨w3, hR3, hY3, hr3, hgg⟩ : ∃ w3, Rw w3 h 26 [.int .u8 k, .int .u64 tx, .int .u64 pv, .int .i64 pg, .int .i64 off, v5, v6, .int .u64 nx, .slice none 0 0, .bool op] ∧ Only2 g h w w3 ∧ RdrAt w0 w3 g s1 ∧ w2.setCell ⟨h, 9, none⟩ (.bool op) = w3 := ⟨_, RW2.out.set 9 _, Y2.out.set 9 _, R2.out.same (Below.heap_setCell w2 ⟨h, 9, none⟩ _ g (fun e => HNE.out e.symm)), rfl⟩
  rw [hgg]
  have RW3 := hide hR3
  have Y3 := hide hY3
  have R3 := hide hr3
  clear hgg hR3 hY3 hr3 R2 G2 RW2 Y2 f9 c9 KN HRR
  have hmb : (m : Int) ≤ 127 := by have := HMM.out; omega
  have HGW : Hid (g < w.heap.size ∧ h < w.heap.size) := HGW0
  go_loopw [17] (fun iv wr => ∃ (i : Nat) (acc : List (Int × Int)) (sti : List UInt8 × Bool) (v8 : Value), i ≤ m ∧ iv = .int .i64 (i : Int) ∧ Hid (dirR m s1 = (acc ++ (dirR (m - i) sti).1, (dirR (m - i) sti).2)) ∧ Hid (acc.length = i) ∧ Hid (sti.1.length ≤ 140737488351232) ∧ Hid (Rw wr h 26 [.int .u8 k, .int .u64 tx, .int .u64 pv, .int .i64 pg, .int .i64 off, v5, v6, .int .u64 nx, v8, .bool op]) ∧ Hid (OwnD wr w.heap.size v8 acc) ∧ Hid (RdrAt w0 wr g sti) ∧ Hid (Only2 g h w wr)) (fun iv _ => m - (intOf iv).toNat)
  case atStart => exact ⟨0, [], s1, .slice none 0 0, Nat.zero_le _, rfl, hide rfl, hide rfl, HL1, RW3, hide (OwnD.nil _ _), R3, Y3⟩
  case round =>
    obtain ⟨i, acc, sti, v8, hi, rfl, HDR, HAL, HLI, RWI, DI, RI, YI⟩ := hrel
    clear RW3 Y3 R3
    by_cases hlt : i < m
    · have hii : (i : Int) < (m : Int) := by omega
      have hi0 : (0 : Int) ≤ (i : Int) := by omega
      have KN2 := hide (number_2 g sti w0 _ (YI.out.ofExt HX.out HG0.out HH0.out) RI.out HLI.out)
      obtain ⟨y, HY⟩ : ∃ y, Hid (num (tk 2 sti).1 = y) := ⟨_, hide rfl⟩
      obtain ⟨sj, HSJ⟩ : ∃ s, Hid ((tk 2 sti).2 = s) := ⟨_, hide rfl⟩
      have hyb : 0 ≤ y ∧ y < 65536 := by have h := num_lt 2 sti; rw [HY.out] at h; exact ⟨h.1, by have := h.2; omega⟩
      have hwy : IntKind.i64.wrap y = y := by rw [IntKind.wrap_i64]; omega
      have HLJ : Hid (sj.1.length ≤ 140737488351232) := hide (by rw [← HSJ.out]; exact Nat.le_trans (tk_left 2 sti) HLI.out)
      rw [HY.out, HSJ.out] at KN2
      go_upto_region 5 with (go_at_call 32; (with_reducible refine KN2.out.mono ?_); rintro e w4 ⟨v4, rfl, rfl, hr4, hg4⟩; have R4 := hide hr4; have RW4 := hide ((hg4.block h RWI.out.lt (fun e => HNE.out (by injection e))).trans RWI.out); have D4 := hide (DI.out.same (fun b hb => hg4.block b (DI.out.at b hb).2 (fun e => by injection e with e; have := (DI.out.at b hb).1; have := HGW.out.1; omega))); have Y4 : Hid (Only2 g h w w4) := hide (YI.out.grown hg4 (fun b e => .inl (by injection e with e; exact e.symm))); clear hr4 hg4)
      have RW4 : Hid (Rw w4 h 26 [.int .u8 k, .int .u64 tx, .int .u64 pv, .int .i64 pg, .int .i64 off, v5, v6, .int .u64 nx, v8, .bool op]) := RW4
      obtain ⟨A8, cc8, hv8, -, -⟩ := D4.out.slice
      rw [HAL.out] at hv8
      subst hv8
      have f8 := RW4.out.frozen 8
      have c8 := RW4.out.cell (i := 8) rfl
      have KN8 := hide (number_8 g sj w0 w4.drew ((Y4.out.ofExt HX.out HG0.out HH0.out).trans (Ext.drew _)) (R4.out.ext (Ext.drew _)) HLJ.out)
      obtain ⟨z, HZ⟩ : ∃ y, Hid (num (tk 8 sj).1 = y) := ⟨_, hide rfl⟩
      obtain ⟨sk, HSK⟩ : ∃ s, Hid ((tk 8 sj).2 = s) := ⟨_, hide rfl⟩
      rw [HZ.out, HSK.out] at KN8
      clear KN2 RI RWI DI YI
      go_region_law (first
          | (go_simp; go_at_call 32; refine KN8.out.mono ?_; rintro e w5 ⟨v5q, rfl, rfl, hr5, hg5⟩; have c8b : w5.cell? ⟨h, 8, none⟩ = some (.slice A8 i cc8) := (World.cell?_of_block (a := ⟨h, 8, none⟩) (hg5.block h RW4.out.lt (fun e => HNE.out (by injection e)))).trans c8; have RW5 : Rw w5 h 26 [.int .u8 k, .int .u64 tx, .int .u64 pv, .int .i64 pg, .int .i64 off, v5, v6, .int .u64 nx, .slice A8 i cc8, .bool op] := (hg5.block h RW4.out.lt (fun e => HNE.out (by injection e))).trans RW4.out; have c8d := (RW5.ext (Ext.alloc w5 (.cells #[.int .i64 y, .int .u64 z] 47))).cell (i := 8) rfl; have D5 : OwnD w5 w.heap.size (.slice A8 i cc8) acc := D4.out.same (fun b hb => hg5.block b (D4.out.at b hb).2 (fun e => by injection e with e; have := (D4.out.at b hb).1; have := HGW.out.1; omega)); have Y5 : Only2 g h w w5 := (Y4.out.ext (Ext.drew _)).grown hg5 (fun b e => .inl (by injection e with e; exact e.symm)))
          | (obtain ⟨A9, cc9, w9, hrun, ho9, hg9⟩ := append_dr (W := w5) (y, z) D5 (by rw [HAL.out]; omega) Y5.size 24; refine step_gives (gives_append (s := .tmp 26) (x := .tmp 31) rfl (by rfl) (by rfl) hrun ⟨rfl, rfl⟩) rfl ?_; have RW9 : Rw w9 h 26 [.int .u8 k, .int .u64 tx, .int .u64 pv, .int .i64 pg, .int .i64 off, v5, v6, .int .u64 nx, .slice A8 i cc8, .bool op] := (hg9.block h (RW5.ext (Ext.alloc _ _)).lt (fun e => by have := (D5.at h e.symm).1; have := HGW.out.2; omega)).trans (RW5.ext (Ext.alloc _ _)); have c8c := RW9.cell (i := 8) rfl; have f8c := RW9.frozen 8))
      all_goals
        have Y9 : Only2 g h w w9 := (Y5.ext (Ext.alloc _ _)).grown hg9 (fun b e => .inr (.inr (D5.at b e).1))
        have RW9b : Rw w9 h 26 [.int .u8 k, .int .u64 tx, .int .u64 pv, .int .i64 pg, .int .i64 off, v5, v6, .int .u64 nx, .slice A8 i cc8, .bool op] := RW9
        have R9 : RdrAt w0 w9 g sk := (hr5.ext (Ext.alloc _ _)).same (hg9.block g (hr5.ext (Ext.alloc _ _)).lt (fun e => by have := (D5.at g e.symm).1; have := HGW.out.1; omega))
        obtain ⟨wx, hwx⟩ : ∃ wx, w9.setCell ⟨h, 8, none⟩ (.slice A9 (acc.length + 1) cc9) = wx := ⟨_, rfl⟩
        have YX : Hid (Only2 g h w wx) := hide (by rw [← hwx]; exact Y9.set 8 _)
        have RWX : Hid (Rw wx h 26 [.int .u8 k, .int .u64 tx, .int .u64 pv, .int .i64 pg, .int .i64 off, v5, v6, .int .u64 nx, .slice A9 (acc.length + 1) cc9, .bool op]) := hide (by rw [← hwx]; exact RW9b.set 8 _)
        have RX : Hid (RdrAt w0 wx g sk) := hide (R9.same (by rw [← hwx]; exact Below.heap_setCell w9 ⟨h, 8, none⟩ _ g (fun e => HNE.out e.symm)))
        have DX : Hid (OwnD wx w.heap.size (.slice A9 (acc.length + 1) cc9) (acc ++ [(y, z)])) := hide (ho9.same (fun b hb => by rw [← hwx]; exact Below.heap_setCell w9 ⟨h, 8, none⟩ _ b (fun e => by have := (ho9.at b hb).1; have := HGW.out.2; simp only at e; omega)))
        have HLK : Hid (sk.1.length ≤ 140737488351232) := hide (by rw [← HSK.out]; exact Nat.le_trans (tk_left 8 sj) HLJ.out)
        have HDN : Hid (dirR m s1 = ((acc ++ [(y, z)]) ++ (dirR (m - (i + 1)) sk).1, (dirR (m - (i + 1)) sk).2)) := hide (by
          rw [HDR.out, show m - i = (m - (i + 1)) + 1 by omega]
          simp only [dirR, HY.out, HSJ.out, HZ.out, HSK.out, List.append_assoc, List.singleton_append])
        rw [hwx]
        clear hwx Y9 RW9b R9 hr5 hg5 D5 Y5 hrun ho9 hg9 c8b c8c c8d f8c c8 f8 RW9 RW5
        go_wp2
        exact ⟨⟨i + 1, acc ++ [(y, z)], sk, _, by omega, by go_num, HDN, hide (by rw [List.length_append, HAL.out]; rfl), HLK, RWX, DX, RX, YX⟩, by simp [intOf]; omega⟩
    · have hii : ¬ (i : Int) < (m : Int) := by omega
      obtain rfl : i = m := by omega
      have HE : Hid (dirR i s1 = (acc, sti)) := hide (by rw [HDR.out, Nat.sub_self]; simp [dirR])
      go_wp2
      go_end0
      refine ⟨rfl, v8, ?_, ?_, ?_, YI.out⟩
      · rw [HOP.out]; exact RWI.out
      · rw [HMM.out, HE.out]; exact DI.out
      · rw [HMM.out, HE.out]; exact RI.out
end Go.Proofs.YtkbmcebdhiiffaaDoor
namespace Go.Proofs.YtkbmcebdhiiffaaDoor
open Go.RowKit

def rdN (b : Bool) (n : Nat) (st : List UInt8 × Bool) : Int × (List UInt8 × Bool) := if b then (num (tk n st).1, (tk n st).2) else (0, st)
def rdB (b : Bool) (n : Nat) (st : List UInt8 × Bool) : List UInt8 × (List UInt8 × Bool) := if b then tk n st else ([], st)
def rdD (b : Bool) (q : Nat) (st : List UInt8 × Bool) : List (Int × Int) × (List UInt8 × Bool) := if b then dirR (q / 2) st else ([], st)
/-- The record that stands in front, and what is left. -/
def rdRec (st : List UInt8 × Bool) : Rec × (List UInt8 × Bool) :=
  let a0 := tk 1 st
  let k := num a0.1
  let a1 := tk 8 a0.2
  let a2 := rdN (hpv k) 8 a1.2
  let a3 := rdN (hch k) 2 a2.2
  let a4 := rdN (hch k) 2 a3.2
  let a5 := rdN (hch k) 2 a4.2
  let a6 := rdB (hbf k) a5.1.toNat a5.2
  let a7 := rdB (hch k) a5.1.toNat a6.2
  let a8 := rdN (hnx k) 8 a7.2
  let a9 := rdN (hck k) 1 a8.2
  let b := rdD (hck k) a9.1.toNat a9.2
  (⟨k, num a1.1, a2.1, a3.1, a4.1, a6.1, a7.1, a8.1, b.1, a9.1 % 2 == 1⟩, b.2)
/-- What record hands back. -/
def RecP (w0 w : World) (g : Nat) (R : Rec × (List UInt8 × Bool)) (e : Ending) (w' : World) : Prop :=
  ∃ v5 v6 v8, e = .returned (.agg #[.int .u8 R.1.k, .int .u64 R.1.tx, .int .u64 R.1.pv, .int .i64 R.1.pg, .int .i64 R.1.off, v5, v6, .int .u64 R.1.nx, v8, .bool R.1.op]) ∧ Own w' w.heap.size v5 R.1.bf ∧ Own w' w.heap.size v6 R.1.af ∧ OwnD w' w.heap.size v8 R.1.dl ∧ RdrAt w0 w' g R.2 ∧ w.grownBy w' (some g) ∧ ∀ b, v5.ownBlock = some b → v6.ownBlock ≠ some b
theorem Own.sameB {w w' : World} {B : Nat} {v : Value} {l : List UInt8} (h : Own w B v l) (hx : ∀ k, B ≤ k → k < w.heap.size → w'.heap[k]? = w.heap[k]?) : Own w' B v l := by
  refine ⟨h.1, ?_⟩
  rcases h.2 with hn | ⟨g, cap, cur, rfl, hb, hg, rest⟩
  · exact .inl hn
  · exact .inr ⟨g, cap, cur, rfl, hb, (hx g hb (Array.getElem?_eq_some_iff.1 hg).1).trans hg, rest⟩
theorem Own.atB {w : World} {B : Nat} {v : Value} {l : List UInt8} (h : Own w B v l) (k : Nat) (hk : v.ownBlock = some k) : B ≤ k ∧ k < w.heap.size := by
  rcases h.2 with ⟨rfl, _⟩ | ⟨g, cap, cur, rfl, hb, hg, _⟩
  · cases hk
  · injection hk with hk
    subst hk
    exact ⟨hb, (Array.getElem?_eq_some_iff.1 hg).1⟩
theorem Only2.to1 {g h : Nat} {w w' : World} (k : Only2 g h w w') (hh : w.heap.size ≤ h) : w.grownBy w' (some g) :=
  ⟨k.os, k.tape, k.output, k.size, fun b hb hne => k.block b hb (fun e => hne (by rw [e])) (by omega)⟩
theorem own_mono2 {w : World} {B B' : Nat} {v : Value} {l : List UInt8} (h : Own w B v l) (hB : B' ≤ B) : Own w B' v l := by
  refine ⟨h.1, ?_⟩
  rcases h.2 with hn | ⟨g, cap, cur, rfl, hb, rest⟩
  · exact .inl hn
  · exact .inr ⟨g, cap, cur, rfl, Nat.le_trans hB hb, rest⟩
theorem sets_only (g : Nat) : ∀ (l : List (Nat × Value)) (w : World), (l.foldl (fun w p => w.setCell ⟨g, p.1, none⟩ p.2) w).os = w.os ∧ (l.foldl (fun w p => w.setCell ⟨g, p.1, none⟩ p.2) w).tape = w.tape ∧ (l.foldl (fun w p => w.setCell ⟨g, p.1, none⟩ p.2) w).output = w.output ∧ (l.foldl (fun w p => w.setCell ⟨g, p.1, none⟩ p.2) w).heap.size = w.heap.size ∧ ∀ b, b ≠ g → (l.foldl (fun w p => w.setCell ⟨g, p.1, none⟩ p.2) w).heap[b]? = w.heap[b]?
  | [], w => ⟨rfl, rfl, rfl, rfl, fun _ _ => rfl⟩
  | p :: l, w => by
    obtain ⟨h1, h2, h3, h4, h5⟩ := sets_only g l (w.setCell ⟨g, p.1, none⟩ p.2)
    rw [List.foldl_cons]
    exact ⟨h1, h2, h3, h4.trans (by simp [World.setCell]), fun b hb => (h5 b hb).trans (Below.heap_setCell w ⟨g, p.1, none⟩ p.2 b hb)⟩
theorem ownD_mono {w : World} {B B' : Nat} {v : Value} {l : List (Int × Int)} (h : OwnD w B v l) (hB : B' ≤ B) : OwnD w B' v l := by
  refine ⟨h.1, ?_⟩
  rcases h.2 with hn | ⟨g, cap, cur, rfl, hb, rest⟩
  · exact .inl hn
  · exact .inr ⟨g, cap, cur, rfl, Nat.le_trans hB hb, rest⟩
end Go.Proofs.YtkbmcebdhiiffaaDoor
namespace Go.Proofs.YtkbmcebdhiiffaaDoor
open Go.RowKit

set_option maxRecDepth 20000 in
set_option maxHeartbeats 1600000 in
theorem record_1 (g : Nat) (st : List UInt8 × Bool) (w0 w : World) (hx : Ext w0 w) (hg0 : w0.heap.size ≤ g) (hr : RdrAt w0 w g st) (hl : st.1.length ≤ 140737488351232) (hk : num (tk 1 st).1 = 1) :
    Calls Tryd.prog 23 #[.pointer (some ⟨g, 0, none⟩)] w (RecP w0 w g (rdRec st)) := by
  have HX := hide hx
  have HG0 := hide hg0
  have HGL := hide hr.lt
  have HK := hide hk
  have HL0 := hide hl
  have R0 := hide hr
  have KP := hide (fun (W : World) => (show Calls Tryd.prog 16 #[.int .u8 1] W (fun e w' => e = .returned (.tuple #[.agg #[.bool false, .bool false, .bool false, .bool false, .bool false], .bool true]) ∧ Ext W w') from partsOf_any 1 W))
  clear hx hg0 hr hl hk
  go_enter Tryd.func23, Tryd.ntmps23
  go_upto_region 2 with fail
  obtain ⟨W1, hX1, hRz, hRh, hgg⟩ : ∃ W1, Ext w W1 ∧ Rw W1 w.heap.size 26 [.int .u8 0, .int .u64 0, .int .u64 0, .int .i64 0, .int .i64 0, .slice none 0 0, .slice none 0 0, .int .u64 0, .slice none 0 0, .bool false] ∧ Rw W1 (w.heap.size + 1) 26 [.int .u8 0, .int .u64 0, .int .u64 0, .int .i64 0, .int .i64 0, .slice none 0 0, .slice none 0 0, .int .u64 0, .slice none 0 0, .bool false] ∧ (w.alloc (.cells #[.int .u8 0, .int .u64 0, .int .u64 0, .int .i64 0, .int .i64 0, .slice none 0 0, .slice none 0 0, .int .u64 0, .slice none 0 0, .bool false] 26)).alloc (.cells #[.int .u8 0, .int .u64 0, .int .u64 0, .int .i64 0, .int .i64 0, .slice none 0 0, .slice none 0 0, .int .u64 0, .slice none 0 0, .bool false] 26) = W1 := ⟨_, (Ext.alloc _ _).trans (Ext.alloc _ _), (Rw.new w 26 [.int .u8 0, .int .u64 0, .int .u64 0, .int .i64 0, .int .i64 0, .slice none 0 0, .slice none 0 0, .int .u64 0, .slice none 0 0, .bool false]).ext (Ext.alloc _ _), (by have h := Rw.new (w.alloc (.cells #[.int .u8 0, .int .u64 0, .int .u64 0, .int .i64 0, .int .i64 0, .slice none 0 0, .slice none 0 0, .int .u64 0, .slice none 0 0, .bool false] 26)) 26 [.int .u8 0, .int .u64 0, .int .u64 0, .int .i64 0, .int .i64 0, .slice none 0 0, .slice none 0 0, .int .u64 0, .slice none 0 0, .bool false]; rwa [show (w.alloc (.cells #[.int .u8 0, .int .u64 0, .int .u64 0, .int .i64 0, .int .i64 0, .slice none 0 0, .slice none 0 0, .int .u64 0, .slice none 0 0, .bool false] 26)).heap.size = w.heap.size + 1 by simp] at h), rfl⟩
  rw [hgg]
  obtain ⟨hz, HHZ⟩ : ∃ hz, Hid (w.heap.size = hz) := ⟨_, hide rfl⟩
  rw [HHZ.out] at hRz hRh ⊢
  obtain ⟨h, HHH⟩ : ∃ h, Hid (hz + 1 = h) := ⟨_, hide rfl⟩
  rw [HHH.out] at hRh
  try rw [HHH.out]
  have BX1 := hide hRh
  have ZX1 := hide hRz
  have R1 := hide (R0.out.ext hX1)
  have Y1 : Hid (Only2 g h w W1) := hide ((Only2.refl g h w).ext hX1)
  have HNE : Hid (h ≠ g ∧ hz ≠ g ∧ h ≠ hz ∧ hz < h) := hide (by have := HGL.out; have := HHZ.out; have := HHH.out; omega)
  have HHW : Hid (w0.heap.size ≤ h ∧ w.heap.size ≤ h ∧ w.heap.size ≤ hz) := hide (by have := HX.out.size; have := HHZ.out; have := HHH.out; omega)
  obtain ⟨BB, HBB⟩ : ∃ BB, Hid (W1.heap.size = BB) := ⟨_, hide rfl⟩
  have HBL : Hid (h < BB ∧ hz < BB ∧ g < BB ∧ w.heap.size ≤ BB) := hide (by rw [← HBB.out]; exact ⟨BX1.out.lt, ZX1.out.lt, R1.out.lt, hX1.size⟩)
  have S1 : Hid (BB ≤ W1.heap.size) := hide (by rw [HBB.out]; exact Nat.le_refl _)
  clear hgg hX1 hRz hRh R0
  have KN := hide (number_1 g st w0 W1 (Y1.out.ofExt HX.out HG0.out HHW.out.1) R1.out HL0.out)
  rw [HK.out] at KN
  obtain ⟨s2, HS2⟩ : ∃ s, Hid ((tk 1 st).2 = s) := ⟨_, hide rfl⟩
  rw [HS2.out] at KN
  have HL2 : Hid (s2.1.length ≤ 140737488351232) := hide (by rw [← HS2.out]; exact Nat.le_trans (tk_left 1 st) HL0.out)
  go_upto_region 3 with (go_at_call 32; (with_reducible refine KN.out.mono ?_); rintro e x2 ⟨_, rfl, rfl, hr2, hg2⟩; have R2 := hide hr2; have BX2 : Hid (Rw x2 h 26 [.int .u8 0, .int .u64 0, .int .u64 0, .int .i64 0, .int .i64 0, .slice none 0 0, .slice none 0 0, .int .u64 0, .slice none 0 0, .bool false]) := hide ((hg2.block h BX1.out.lt (fun e => HNE.out.1 (by injection e))).trans BX1.out); have ZX2 : Hid (Rw x2 hz 26 [.int .u8 0, .int .u64 0, .int .u64 0, .int .i64 0, .int .i64 0, .slice none 0 0, .slice none 0 0, .int .u64 0, .slice none 0 0, .bool false]) := hide ((hg2.block hz ZX1.out.lt (fun e => HNE.out.2.1 (by injection e))).trans ZX1.out); have Y2 : Hid (Only2 g h w x2) := hide (Y1.out.grown hg2 (fun b e => .inl (by injection e with e; exact e.symm))); have S2 : Hid (BB ≤ x2.heap.size) := hide (Nat.le_trans S1.out hg2.size); have cc := BX2.out.cell (i := 0) rfl; have ff := BX2.out.frozen 0; clear hr2 hg2)
  obtain ⟨w2, hgg, hB, hZ, hR, hY, hS⟩ : ∃ W, x2.setCell ⟨h, 0, none⟩ (.int .u8 1) = W ∧ Rw W h 26 [.int .u8 1, .int .u64 0, .int .u64 0, .int .i64 0, .int .i64 0, .slice none 0 0, .slice none 0 0, .int .u64 0, .slice none 0 0, .bool false] ∧ Rw W hz 26 [.int .u8 0, .int .u64 0, .int .u64 0, .int .i64 0, .int .i64 0, .slice none 0 0, .slice none 0 0, .int .u64 0, .slice none 0 0, .bool false] ∧ RdrAt w0 W g s2 ∧ Only2 g h w W ∧ BB ≤ W.heap.size := ⟨_, rfl, BX2.out.set 0 _, ZX2.out.far (fun e => HNE.out.2.2.1 e.symm) _, R2.out.same (Below.heap_setCell x2 ⟨h, 0, none⟩ _ g (fun e => HNE.out.1 e.symm)), Y2.out.set 0 _, Nat.le_trans S2.out (by simp [World.setCell])⟩
  rw [hgg]
  have BX2 := hide hB
  have ZX2 := hide hZ
  have R2 := hide hR
  have Y2 := hide hY
  have S2 := hide hS
  clear hgg hB hZ hR hY hS cc ff
  clear KN
  have KN := hide (number_8 g s2 w0 w2 (Y2.out.ofExt HX.out HG0.out HHW.out.1) R2.out HL2.out)
  obtain ⟨tx, HU3⟩ : ∃ u, Hid (num (tk 8 s2).1 = u) := ⟨_, hide rfl⟩
  rw [HU3.out] at KN
  obtain ⟨s3, HS3⟩ : ∃ s, Hid ((tk 8 s2).2 = s) := ⟨_, hide rfl⟩
  rw [HS3.out] at KN
  have HL3 : Hid (s3.1.length ≤ 140737488351232) := hide (by rw [← HS3.out]; exact Nat.le_trans (tk_left 8 s2) HL2.out)
  go_upto_region 4 with (go_at_call 32; (with_reducible refine KN.out.mono ?_); rintro e x3 ⟨_, rfl, rfl, hr2, hg2⟩; have R3 := hide hr2; have BX3 : Hid (Rw x3 h 26 [.int .u8 1, .int .u64 0, .int .u64 0, .int .i64 0, .int .i64 0, .slice none 0 0, .slice none 0 0, .int .u64 0, .slice none 0 0, .bool false]) := hide ((hg2.block h BX2.out.lt (fun e => HNE.out.1 (by injection e))).trans BX2.out); have ZX3 : Hid (Rw x3 hz 26 [.int .u8 0, .int .u64 0, .int .u64 0, .int .i64 0, .int .i64 0, .slice none 0 0, .slice none 0 0, .int .u64 0, .slice none 0 0, .bool false]) := hide ((hg2.block hz ZX2.out.lt (fun e => HNE.out.2.1 (by injection e))).trans ZX2.out); have Y3 : Hid (Only2 g h w x3) := hide (Y2.out.grown hg2 (fun b e => .inl (by injection e with e; exact e.symm))); have S3 : Hid (BB ≤ x3.heap.size) := hide (Nat.le_trans S2.out hg2.size); have cc := BX3.out.cell (i := 1) rfl; have ff := BX3.out.frozen 1; clear hr2 hg2)
  obtain ⟨w3, hgg, hB, hZ, hR, hY, hS⟩ : ∃ W, x3.setCell ⟨h, 1, none⟩ (.int .u64 tx) = W ∧ Rw W h 26 [.int .u8 1, .int .u64 tx, .int .u64 0, .int .i64 0, .int .i64 0, .slice none 0 0, .slice none 0 0, .int .u64 0, .slice none 0 0, .bool false] ∧ Rw W hz 26 [.int .u8 0, .int .u64 0, .int .u64 0, .int .i64 0, .int .i64 0, .slice none 0 0, .slice none 0 0, .int .u64 0, .slice none 0 0, .bool false] ∧ RdrAt w0 W g s3 ∧ Only2 g h w W ∧ BB ≤ W.heap.size := ⟨_, rfl, BX3.out.set 1 _, ZX3.out.far (fun e => HNE.out.2.2.1 e.symm) _, R3.out.same (Below.heap_setCell x3 ⟨h, 1, none⟩ _ g (fun e => HNE.out.1 e.symm)), Y3.out.set 1 _, Nat.le_trans S3.out (by simp [World.setCell])⟩
  rw [hgg]
  have BX3 := hide hB
  have ZX3 := hide hZ
  have R3 := hide hR
  have Y3 := hide hY
  have S3 := hide hS
  clear hgg hB hZ hR hY hS cc ff
  clear KN
  have cc := BX3.out.cell (i := 0) rfl
  go_upto_region 5 with (go_at_call 16; (with_reducible refine (KP.out _).mono ?_); rintro e xp ⟨rfl, hxp⟩; have XP := hide hxp; clear hxp)
  clear cc KP
  obtain ⟨w4, hXQ, hQ, hgg⟩ : ∃ W, Ext w3 W ∧ Rw W xp.heap.size 42 [.bool false, .bool false, .bool false, .bool false, .bool false] ∧ xp.alloc (.cells #[.bool false, .bool false, .bool false, .bool false, .bool false] 42) = W := ⟨_, XP.out.trans (Ext.alloc _ _), Rw.new _ _ _, rfl⟩
  rw [hgg]
  obtain ⟨hq, HHQ⟩ : ∃ hq, Hid (xp.heap.size = hq) := ⟨_, hide rfl⟩
  rw [HHQ.out] at hQ ⊢
  have BX4 := hide (BX3.out.ext hXQ)
  have ZX4 := hide (ZX3.out.ext hXQ)
  have R4 := hide (R3.out.ext hXQ)
  have Y4 := hide (Y3.out.ext hXQ)
  have S4 : Hid (BB ≤ w4.heap.size) := hide (Nat.le_trans S3.out hXQ.size)
  have QX4 := hide hQ
  have HQN : Hid (hq ≠ g ∧ hq ≠ h) := hide (by have h1 : BB ≤ xp.heap.size := Nat.le_trans S3.out XP.out.size; have := HHQ.out; have := HBL.out; omega)
  clear hgg hXQ hQ
  have q0 := QX4.out.cell (i := 0) rfl
  have q1 := QX4.out.cell (i := 1) rfl
  have q2 := QX4.out.cell (i := 2) rfl
  have q3 := QX4.out.cell (i := 3) rfl
  have q4 := QX4.out.cell (i := 4) rfl
  have z0 := ZX4.out.cell (i := 0) rfl
  have z1 := ZX4.out.cell (i := 1) rfl
  have z2 := ZX4.out.cell (i := 2) rfl
  have z3 := ZX4.out.cell (i := 3) rfl
  have z4 := ZX4.out.cell (i := 4) rfl
  have z5 := ZX4.out.cell (i := 5) rfl
  have z6 := ZX4.out.cell (i := 6) rfl
  have z7 := ZX4.out.cell (i := 7) rfl
  have z8 := ZX4.out.cell (i := 8) rfl
  have z9 := ZX4.out.cell (i := 9) rfl
  have y0 := BX4.out.cell (i := 0) rfl
  have y1 := BX4.out.cell (i := 1) rfl
  have y2 := BX4.out.cell (i := 2) rfl
  have y3 := BX4.out.cell (i := 3) rfl
  have y4 := BX4.out.cell (i := 4) rfl
  have y5 := BX4.out.cell (i := 5) rfl
  have y6 := BX4.out.cell (i := 6) rfl
  have y7 := BX4.out.cell (i := 7) rfl
  have y8 := BX4.out.cell (i := 8) rfl
  have y9 := BX4.out.cell (i := 9) rfl
  have f0 := ZX4.out.frozen 0
  have f1 := ZX4.out.frozen 1
  have f2 := ZX4.out.frozen 2
  have f3 := ZX4.out.frozen 3
  have f4 := ZX4.out.frozen 4
  have f5 := ZX4.out.frozen 5
  have f6 := ZX4.out.frozen 6
  have f7 := ZX4.out.frozen 7
  have f8 := ZX4.out.frozen 8
  have f9 := ZX4.out.frozen 9
  go_wp2
  have ZZ := ((((((((((ZX4.out.set 0 (.int .u8 1)).set 1 (.int .u64 tx)).set 2 (.int .u64 0)).set 3 (.int .i64 0)).set 4 (.int .i64 0)).set 5 (.slice none 0 0)).set 6 (.slice none 0 0)).set 7 (.int .u64 0)).set 8 (.slice none 0 0)).set 9 (.bool false))
  have HS10 := sets_only hz [(0, .int .u8 1), (1, .int .u64 tx), (2, .int .u64 0), (3, .int .i64 0), (4, .int .i64 0), (5, .slice none 0 0), (6, .slice none 0 0), (7, .int .u64 0), (8, .slice none 0 0), (9, .bool false)] w4
  simp only [List.foldl_cons, List.foldl_nil] at HS10
  obtain ⟨wz, hwz⟩ : ∃ wz, ((((((((((w4).setCell ⟨hz, 0, none⟩ (.int .u8 1)).setCell ⟨hz, 1, none⟩ (.int .u64 tx)).setCell ⟨hz, 2, none⟩ (.int .u64 0)).setCell ⟨hz, 3, none⟩ (.int .i64 0)).setCell ⟨hz, 4, none⟩ (.int .i64 0)).setCell ⟨hz, 5, none⟩ (.slice none 0 0)).setCell ⟨hz, 6, none⟩ (.slice none 0 0)).setCell ⟨hz, 7, none⟩ (.int .u64 0)).setCell ⟨hz, 8, none⟩ (.slice none 0 0)).setCell ⟨hz, 9, none⟩ (.bool false) = wz := ⟨_, rfl⟩
  rw [hwz] at HS10 ZZ ⊢
  obtain ⟨q1, q2, q3, q4, hsame⟩ := HS10
  clear hwz
  have e0 := ZZ.cell (i := 0) rfl
  have e1 := ZZ.cell (i := 1) rfl
  have e2 := ZZ.cell (i := 2) rfl
  have e3 := ZZ.cell (i := 3) rfl
  have e4 := ZZ.cell (i := 4) rfl
  have e5 := ZZ.cell (i := 5) rfl
  have e6 := ZZ.cell (i := 6) rfl
  have e7 := ZZ.cell (i := 7) rfl
  have e8 := ZZ.cell (i := 8) rfl
  have e9 := ZZ.cell (i := 9) rfl
  have HRD : rdRec st = (⟨1, tx, 0, 0, 0, [], [], 0, [], false⟩, s3) := by
    simp [rdRec, rdN, rdB, rdD, HK.out, HS2.out, HU3.out, HS3.out, hpv, hch, hbf, hnx, hck]
  rw [HRD]
  have YG : w.grownBy wz (some g) := by
    have h1 := Y4.out.to1 HHW.out.2.1
    exact ⟨q1.trans h1.os, q2.trans h1.tape, q3.trans h1.output, Nat.le_trans h1.size (Nat.le_of_eq q4.symm), fun b hb hne => (hsame b (by have := HHW.out; omega)).trans (h1.block b hb hne)⟩
  refine bodyPost_ret (v := .agg #[.int .u8 1, .int .u64 tx, .int .u64 0, .int .i64 0, .int .i64 0, .slice none 0 0, .slice none 0 0, .int .u64 0, .slice none 0 0, .bool false]) (by simp [results, Tryd.results23, go_sem, e0, e1, e2, e3, e4, e5, e6, e7, e8, e9]; try rfl) rfl ?_
  exact ⟨_, _, _, rfl, Own.nil _ _, Own.nil _ _, OwnD.nil _ _, R4.out.same (hsame g (fun e => HNE.out.2.1 e.symm)), YG, fun b hb => by cases hb⟩
end Go.Proofs.YtkbmcebdhiiffaaDoor
