/-
  Lines: verbs by their words and by their numbers: contracts of the program's look-ups.
-/
import Derived.Test.YtmanflfanoddgabDoorChr
import Derived.Test.YtmanflfanoddgabDoorTvs
import Derived.Test.YtmanflfanoddgabDoorWds
namespace Go.Proofs.YtmanflfanoddgabDoor
open Go.RowKit

/-- A whole array read, of which the cells are known. -/
theorem run_loadVar_cells {P : Program} (w : World) (g : Nat) (ty : TypeId) (vs : List Value) (n m : Nat) (e : TypeId) (hu : P.underlying ty = some (.array m e)) (hi : (P.info? ty).map (·.size) = some n) (hn : n = vs.length)
    (hc : ∀ j v, vs[j]? = some v → w.cell? ⟨g, j, none⟩ = some v) : (loadVar ty ⟨g, 0, none⟩).run P w = .ok (.agg vs.toArray) w := by
  have hl : (loadCells ⟨g, 0, none⟩ vs.length).run P w = .ok vs.toArray w :=
    run_loadCells_list (P := P) w ⟨g, 0, none⟩ vs (fun j v hv => by rw [add_flat, Nat.zero_add]; exact hc j v hv)
  cases hq : P.info? ty with
  | none => simp [hq] at hi
  | some i =>
    have hs : i.size = vs.length := by simp [hq] at hi; omega
    have hagg : (isAgg ty).run P w = .ok true w := by
      unfold isAgg
      rw [Sem.run_bind, run_underlying hu w]
      simp
    simp [loadVar, Sem.run_bind, hagg, sizeOf, typeInfo, hq, hs, hl]
theorem gives_load_cells {P : Program} {o : Oper} {a : Act} {w : World} {R : Value → World → Prop} (ty : TypeId) (x : Operand) (ho : o.op = .load ty x) (g : Nat) (hx : a.eval x = .pointer (some ⟨g, 0, none⟩)) (vs : List Value)
    (n m : Nat) (e : TypeId) (hu : P.underlying ty = some (.array m e)) (hi : (P.info? ty).map (·.size) = some n) (hn : n = vs.length) (hc : ∀ j v, vs[j]? = some v → w.cell? ⟨g, j, none⟩ = some v) (hR : R (.agg vs.toArray) w) : gives P o a w R := by
  unfold gives execOp
  simp only [ho, hx, Instr.loadAt, Instr.sureAddr, Sem.run_bind, Sem.run_pure, Result.andThen_ok, run_loadVar_cells w g ty vs n m e hu hi hn hc]
  exact hR
theorem wpList_load_cells {P : Program} {ops : Array Oper} {rest : List Oper} {o : Oper} {a : Act} {w : World} {Q : Exit → Act → World → Prop} (hgd : o.guard = none) (ty : TypeId) (x : Operand) (ho : o.op = .load ty x) (g : Nat) (hx : a.eval x = .pointer (some ⟨g, 0, none⟩)) (vs : List Value)
    (n m : Nat) (e : TypeId) (hu : P.underlying ty = some (.array m e)) (hi : (P.info? ty).map (·.size) = some n) (hn : n = vs.length) (hc : ∀ j v, vs[j]? = some v → w.cell? ⟨g, j, none⟩ = some v)
    (h : wpList P ops Q rest (a.put o.dst (.agg vs.toArray)) w) : wpList P ops Q (o :: rest) a w :=
  wpList_plain hgd fun _ hK => wp_of_gives (R := fun v w' => v = .agg vs.toArray ∧ w' = w) (gives_load_cells ty x ho g hx vs n m e hu hi hn hc ⟨rfl, rfl⟩) (fun v w' ⟨hv, hw⟩ => by subst hv hw; exact hK _ _ h)

/-- The verbs: number, word, how many words come behind it. -/
def vtab : List (Int × List UInt8 × Int) := [(1, [99, 114, 101, 97, 116, 101], 4), (2, [100, 114, 111, 112], 2), (3, [108, 111, 103, 105, 110], 2), (4, [99, 104, 101, 99, 107], 1), (5, [114, 101, 118, 111, 107, 101], 1), (6, [112, 97, 115, 115], 3), (7, [114, 111, 108, 101], 3), (8, [117, 110, 108, 111, 99, 107], 2), (9, [119, 104, 111], 2), (10, [108, 105, 115, 116], 1), (11, [97, 117, 100, 105, 116], 2)]
def verbS (l : List UInt8) : Option (Int × List UInt8 × Int) := vtab.find? fun x => x.2.1 == l
def verbN (n : Int) : Option (Int × List UInt8 × Int) := vtab.find? fun x => x.1 == n
/-- A verb as a value; none. -/
def verbV : Option (Int × List UInt8 × Int) → Value
  | some (n, w, a) => .tuple #[.agg #[.int .u8 n, .string ⟨w.toArray⟩, .int .i64 a], .bool true]
  | none => .tuple #[.agg #[.int .u8 0, .string ⟨#[]⟩, .int .i64 0], .bool false]
def arrL : List Value := vtab.flatMap fun x => [.int .u8 x.1, .string ⟨x.2.1.toArray⟩, .int .i64 x.2.2]
/-- 'line.verbs' holds what the program's text lays. -/
def TabV (w : World) : Prop := ∀ j v, arrL[j]? = some v → w.cell? ⟨0, j, none⟩ = some v
theorem TabV.ext {w w' : World} (h : TabV w) (hx : Ext w w') : TabV w' := fun j v hv => (Ext.keeps hx).cell (h j v hv)
theorem idv0 (W : World) : (Instr.index 84 (.agg arrL.toArray) (.int .i64 ((0 : Nat) : Int))).run Tryd.prog W = .ok (.agg #[.int .u8 1, .string ⟨#[99, 114, 101, 97, 116, 101]⟩, .int .i64 4]) W := by kernel_rfl
theorem idv1 (W : World) : (Instr.index 84 (.agg arrL.toArray) (.int .i64 ((1 : Nat) : Int))).run Tryd.prog W = .ok (.agg #[.int .u8 2, .string ⟨#[100, 114, 111, 112]⟩, .int .i64 2]) W := by kernel_rfl
theorem idv2 (W : World) : (Instr.index 84 (.agg arrL.toArray) (.int .i64 ((2 : Nat) : Int))).run Tryd.prog W = .ok (.agg #[.int .u8 3, .string ⟨#[108, 111, 103, 105, 110]⟩, .int .i64 2]) W := by kernel_rfl
theorem idv3 (W : World) : (Instr.index 84 (.agg arrL.toArray) (.int .i64 ((3 : Nat) : Int))).run Tryd.prog W = .ok (.agg #[.int .u8 4, .string ⟨#[99, 104, 101, 99, 107]⟩, .int .i64 1]) W := by kernel_rfl
theorem idv4 (W : World) : (Instr.index 84 (.agg arrL.toArray) (.int .i64 ((4 : Nat) : Int))).run Tryd.prog W = .ok (.agg #[.int .u8 5, .string ⟨#[114, 101, 118, 111, 107, 101]⟩, .int .i64 1]) W := by kernel_rfl
theorem idv5 (W : World) : (Instr.index 84 (.agg arrL.toArray) (.int .i64 ((5 : Nat) : Int))).run Tryd.prog W = .ok (.agg #[.int .u8 6, .string ⟨#[112, 97, 115, 115]⟩, .int .i64 3]) W := by kernel_rfl
theorem idv6 (W : World) : (Instr.index 84 (.agg arrL.toArray) (.int .i64 ((6 : Nat) : Int))).run Tryd.prog W = .ok (.agg #[.int .u8 7, .string ⟨#[114, 111, 108, 101]⟩, .int .i64 3]) W := by kernel_rfl
theorem idv7 (W : World) : (Instr.index 84 (.agg arrL.toArray) (.int .i64 ((7 : Nat) : Int))).run Tryd.prog W = .ok (.agg #[.int .u8 8, .string ⟨#[117, 110, 108, 111, 99, 107]⟩, .int .i64 2]) W := by kernel_rfl
theorem idv8 (W : World) : (Instr.index 84 (.agg arrL.toArray) (.int .i64 ((8 : Nat) : Int))).run Tryd.prog W = .ok (.agg #[.int .u8 9, .string ⟨#[119, 104, 111]⟩, .int .i64 2]) W := by kernel_rfl
theorem idv9 (W : World) : (Instr.index 84 (.agg arrL.toArray) (.int .i64 ((9 : Nat) : Int))).run Tryd.prog W = .ok (.agg #[.int .u8 10, .string ⟨#[108, 105, 115, 116]⟩, .int .i64 1]) W := by kernel_rfl
theorem idv10 (W : World) : (Instr.index 84 (.agg arrL.toArray) (.int .i64 ((10 : Nat) : Int))).run Tryd.prog W = .ok (.agg #[.int .u8 11, .string ⟨#[97, 117, 100, 105, 116]⟩, .int .i64 2]) W := by kernel_rfl
set_option maxRecDepth 20000 in
theorem idv (k : Nat) (n : Int) (wd : List UInt8) (a : Int) (h : vtab[k]? = some (n, wd, a)) (W : World) : (Instr.index 84 (.agg arrL.toArray) (.int .i64 (k : Int))).run Tryd.prog W = .ok (.agg #[.int .u8 n, .string ⟨wd.toArray⟩, .int .i64 a]) W := by
  match k, h with
  | 0, h => injection h with h; injection h with h1 h2; injection h2 with h2 h3; subst h1 h2 h3; exact idv0 W
  | 1, h => injection h with h; injection h with h1 h2; injection h2 with h2 h3; subst h1 h2 h3; exact idv1 W
  | 2, h => injection h with h; injection h with h1 h2; injection h2 with h2 h3; subst h1 h2 h3; exact idv2 W
  | 3, h => injection h with h; injection h with h1 h2; injection h2 with h2 h3; subst h1 h2 h3; exact idv3 W
  | 4, h => injection h with h; injection h with h1 h2; injection h2 with h2 h3; subst h1 h2 h3; exact idv4 W
  | 5, h => injection h with h; injection h with h1 h2; injection h2 with h2 h3; subst h1 h2 h3; exact idv5 W
  | 6, h => injection h with h; injection h with h1 h2; injection h2 with h2 h3; subst h1 h2 h3; exact idv6 W
  | 7, h => injection h with h; injection h with h1 h2; injection h2 with h2 h3; subst h1 h2 h3; exact idv7 W
  | 8, h => injection h with h; injection h with h1 h2; injection h2 with h2 h3; subst h1 h2 h3; exact idv8 W
  | 9, h => injection h with h; injection h with h1 h2; injection h2 with h2 h3; subst h1 h2 h3; exact idv9 W
  | 10, h => injection h with h; injection h with h1 h2; injection h2 with h2 h3; subst h1 h2 h3; exact idv10 W
  | k + 11, h => simp [vtab] at h
theorem find_drop (f : Int × List UInt8 × Int → Bool) (k : Nat) (r : Int × List UInt8 × Int) (h : vtab[k]? = some r) : (vtab.drop k).find? f = if f r then some r else (vtab.drop (k + 1)).find? f := by
  obtain ⟨hk, rfl⟩ := List.getElem?_eq_some_iff.1 h
  rw [List.drop_eq_getElem_cons hk, List.find?_cons]
  cases f vtab[k] <;> rfl

set_option maxRecDepth 20000 in
set_option maxHeartbeats 4000000 in
theorem verbOfWord_any (s : ByteArray) (w : World) (hT : TabV w) : Calls Tryd.prog 22 #[.string s] w (Ret w (Is (verbV (verbS s.toList)))) := by
  have HT := hide fun o => TabV.ext hT (Ext.alloc w o)
  obtain ⟨F, HF⟩ : ∃ F, Hid (verbV (verbS s.toList) = F) := ⟨_, rfl⟩
  rw [HF.out]
  have HRW := hide (Rw.new w 54 [.int .u8 0, .string ⟨#[]⟩, .int .i64 0])
  go_enter Tryd.func22, Tryd.ntmps22
  go_wp2_with ((with_reducible show wpList _ _ _ (⟨some 6, .load _ _, _, _, _, _⟩ :: _) _ _); refine wpList_load_cells rfl 84 (.global 0) rfl 0 rfl arrL 33 _ _ Tryd.underlying84 (by kernel_rfl) (by kernel_rfl) (HT.out _) ?_)
  go_loopw [7] (fun i wr => ∃ k : Nat, k ≤ 11 ∧ i = .int .i64 k ∧ Hid (verbV ((vtab.drop k).find? (fun x => x.2.1 == s.toList)) = F) ∧ Rw wr w.heap.size 54 [.int .u8 0, .string ⟨#[]⟩, .int .i64 0] ∧ Ext w wr) (fun i _ => 11 - (intOf i).toNat)
  case atStart => exact ⟨0, by omega, rfl, HF, HRW.out, Ext.alloc _ _⟩
  case round =>
    obtain ⟨k, hk, rfl, HK, hrw, hx⟩ := hrel
    have hlt' := hrw.lt
    by_cases hlt : k < 11
    · have hki : (k : Int) < 11 := by omega
      obtain ⟨n, wd, a, hr⟩ : ∃ n wd a, vtab[k]? = some (n, wd, a) := ⟨_, _, _, List.getElem?_eq_getElem (show k < vtab.length from hlt)⟩
      have hi := fun W => idv k n wd a hr W
      have HFD := hide (find_drop (fun x => x.2.1 == s.toList) k _ hr)
      have r1 := hrw.set 0 (.int .u8 n)
      have r2 := r1.set 1 (.string ⟨wd.toArray⟩)
      have r3 := r2.set 2 (.int .i64 a)
      have c0 := (hrw.alloc (.cells #[.int .u8 n, .string ⟨wd.toArray⟩, .int .i64 a] 54)).cell (i := 0) rfl
      have f0 := (hrw.alloc (.cells #[.int .u8 n, .string ⟨wd.toArray⟩, .int .i64 a] 54)).frozen 0
      have c1 := (r1.alloc (.cells #[.int .u8 n, .string ⟨wd.toArray⟩, .int .i64 a] 54)).cell (i := 1) rfl
      have f1 := (r1.alloc (.cells #[.int .u8 n, .string ⟨wd.toArray⟩, .int .i64 a] 54)).frozen 1
      have c2 := (r2.alloc (.cells #[.int .u8 n, .string ⟨wd.toArray⟩, .int .i64 a] 54)).cell (i := 2) rfl
      have f2 := (r2.alloc (.cells #[.int .u8 n, .string ⟨wd.toArray⟩, .int .i64 a] 54)).frozen 2
      have d0 := (r3.alloc (.cells #[.int .u8 n, .string ⟨wd.toArray⟩, .int .i64 a] 54)).cell (i := 0) rfl
      have d1 := (r3.alloc (.cells #[.int .u8 n, .string ⟨wd.toArray⟩, .int .i64 a] 54)).cell (i := 1) rfl
      have d2 := (r3.alloc (.cells #[.int .u8 n, .string ⟨wd.toArray⟩, .int .i64 a] 54)).cell (i := 2) rfl
      have hxb : Ext w (((((wr.setCell ⟨w.heap.size, 0, none⟩ (.int .u8 n)).setCell ⟨w.heap.size, 1, none⟩ (.string ⟨wd.toArray⟩)).setCell ⟨w.heap.size, 2, none⟩ (.int .i64 a))).alloc (.cells #[.int .u8 n, .string ⟨wd.toArray⟩, .int .i64 a] 54)) :=
        Below.trans (Below.set (Below.set (Below.set hx (Nat.le_refl _) _) (Nat.le_refl _) _) (Nat.le_refl _) _) (Below.mono (Ext.alloc _ _) (by simp; omega))
      have hra := hide (hrw.alloc (.cells #[.int .u8 n, .string ⟨wd.toArray⟩, .int .i64 a] 54))
      have hxa : Ext w (wr.alloc (.cells #[.int .u8 n, .string ⟨wd.toArray⟩, .int .i64 a] 54)) := hx.trans (Ext.alloc _ _)
      clear r1 r2 r3
      have hne : ¬ w.heap.size = wr.heap.size := by omega
      have hne' : ¬ wr.heap.size = w.heap.size := by omega
      clear hr
      cases hb : (wd == s.toList) with
      | true =>
        have HL : Hid (F = .tuple #[.agg #[.int .u8 n, .string ⟨wd.toArray⟩, .int .i64 a], .bool true]) := by
          rw [← HK.out, HFD.out]
          simp only [hb]
          exact hide rfl
        skip
        go_wp2
        refine bodyPost_ret (by simp [results, Tryd.results22, go_sem, d0, d1, d2]; try rfl) rfl ?_
        refine Ret.mk hxb ?_
        rw [HL.out]
        rfl
      | false =>
        have HL : Hid (verbV ((vtab.drop (k + 1)).find? (fun x => x.2.1 == s.toList)) = F) := by
          rw [← HK.out, HFD.out]
          simp only [hb]
          exact hide rfl
        skip
        go_wp2
        refine ⟨⟨k + 1, by omega, by go_num, HL, hra.out, hxa⟩, by simp [intOf]; omega⟩
    · obtain rfl : k = 11 := by omega
      have HL : Hid (F = .tuple #[.agg #[.int .u8 0, .string ⟨#[]⟩, .int .i64 0], .bool false]) := by
        rw [← HK.out]
        exact hide rfl
      have c0 := hrw.cell (i := 0) rfl
      have f0 := hrw.frozen 0
      have r1 := hrw.set 0 (.int .u8 0)
      have c1 := r1.cell (i := 1) rfl
      have f1 := r1.frozen 1
      have r2 := r1.set 1 (.string ⟨#[]⟩)
      have c2 := r2.cell (i := 2) rfl
      have f2 := r2.frozen 2
      have r3 := r2.set 2 (.int .i64 0)
      have d0 := r1.cell (i := 0) rfl
      have d1 := r2.cell (i := 1) rfl
      have d2 := r3.cell (i := 2) rfl
      have hxb : Ext w ((((wr.setCell ⟨w.heap.size, 0, none⟩ (.int .u8 0)).setCell ⟨w.heap.size, 1, none⟩ (.string ⟨#[]⟩)).setCell ⟨w.heap.size, 2, none⟩ (.int .i64 0))) :=
        Below.set (Below.set (Below.set hx (Nat.le_refl _) _) (Nat.le_refl _) _) (Nat.le_refl _) _
      clear r1 r2 r3
      go_wp2
      refine bodyPost_ret (by simp [results, Tryd.results22, go_sem, d0, d1, d2]; try rfl) rfl ?_
      refine Ret.mk hxb ?_
      rw [HL.out]
      rfl

set_option maxRecDepth 20000 in
set_option maxHeartbeats 4000000 in
theorem verbOfNumber_any (v : Int) (w : World) (hT : TabV w) : Calls Tryd.prog 23 #[.int .u8 v] w (Ret w (Is (verbV (verbN v)))) := by
  have HT := hide fun o => TabV.ext hT (Ext.alloc w o)
  obtain ⟨F, HF⟩ : ∃ F, Hid (verbV (verbN v) = F) := ⟨_, rfl⟩
  rw [HF.out]
  have HRW := hide (Rw.new w 54 [.int .u8 0, .string ⟨#[]⟩, .int .i64 0])
  go_enter Tryd.func23, Tryd.ntmps23
  go_wp2_with ((with_reducible show wpList _ _ _ (⟨some 6, .load _ _, _, _, _, _⟩ :: _) _ _); refine wpList_load_cells rfl 84 (.global 0) rfl 0 rfl arrL 33 _ _ Tryd.underlying84 (by kernel_rfl) (by kernel_rfl) (HT.out _) ?_)
  go_loopw [7] (fun i wr => ∃ k : Nat, k ≤ 11 ∧ i = .int .i64 k ∧ Hid (verbV ((vtab.drop k).find? (fun x => x.1 == v)) = F) ∧ Rw wr w.heap.size 54 [.int .u8 0, .string ⟨#[]⟩, .int .i64 0] ∧ Ext w wr) (fun i _ => 11 - (intOf i).toNat)
  case atStart => exact ⟨0, by omega, rfl, HF, HRW.out, Ext.alloc _ _⟩
  case round =>
    obtain ⟨k, hk, rfl, HK, hrw, hx⟩ := hrel
    have hlt' := hrw.lt
    by_cases hlt : k < 11
    · have hki : (k : Int) < 11 := by omega
      obtain ⟨n, wd, a, hr⟩ : ∃ n wd a, vtab[k]? = some (n, wd, a) := ⟨_, _, _, List.getElem?_eq_getElem (show k < vtab.length from hlt)⟩
      have hi := fun W => idv k n wd a hr W
      have HFD := hide (find_drop (fun x => x.1 == v) k _ hr)
      have r1 := hrw.set 0 (.int .u8 n)
      have r2 := r1.set 1 (.string ⟨wd.toArray⟩)
      have r3 := r2.set 2 (.int .i64 a)
      have c0 := (hrw.alloc (.cells #[.int .u8 n, .string ⟨wd.toArray⟩, .int .i64 a] 54)).cell (i := 0) rfl
      have f0 := (hrw.alloc (.cells #[.int .u8 n, .string ⟨wd.toArray⟩, .int .i64 a] 54)).frozen 0
      have c1 := (r1.alloc (.cells #[.int .u8 n, .string ⟨wd.toArray⟩, .int .i64 a] 54)).cell (i := 1) rfl
      have f1 := (r1.alloc (.cells #[.int .u8 n, .string ⟨wd.toArray⟩, .int .i64 a] 54)).frozen 1
      have c2 := (r2.alloc (.cells #[.int .u8 n, .string ⟨wd.toArray⟩, .int .i64 a] 54)).cell (i := 2) rfl
      have f2 := (r2.alloc (.cells #[.int .u8 n, .string ⟨wd.toArray⟩, .int .i64 a] 54)).frozen 2
      have d0 := (r3.alloc (.cells #[.int .u8 n, .string ⟨wd.toArray⟩, .int .i64 a] 54)).cell (i := 0) rfl
      have d1 := (r3.alloc (.cells #[.int .u8 n, .string ⟨wd.toArray⟩, .int .i64 a] 54)).cell (i := 1) rfl
      have d2 := (r3.alloc (.cells #[.int .u8 n, .string ⟨wd.toArray⟩, .int .i64 a] 54)).cell (i := 2) rfl
      have hxb : Ext w (((((wr.setCell ⟨w.heap.size, 0, none⟩ (.int .u8 n)).setCell ⟨w.heap.size, 1, none⟩ (.string ⟨wd.toArray⟩)).setCell ⟨w.heap.size, 2, none⟩ (.int .i64 a))).alloc (.cells #[.int .u8 n, .string ⟨wd.toArray⟩, .int .i64 a] 54)) :=
        Below.trans (Below.set (Below.set (Below.set hx (Nat.le_refl _) _) (Nat.le_refl _) _) (Nat.le_refl _) _) (Below.mono (Ext.alloc _ _) (by simp; omega))
      have hra := hide (hrw.alloc (.cells #[.int .u8 n, .string ⟨wd.toArray⟩, .int .i64 a] 54))
      have hxa : Ext w (wr.alloc (.cells #[.int .u8 n, .string ⟨wd.toArray⟩, .int .i64 a] 54)) := hx.trans (Ext.alloc _ _)
      clear r1 r2 r3
      have hne : ¬ w.heap.size = wr.heap.size := by omega
      have hne' : ¬ wr.heap.size = w.heap.size := by omega
      clear hr
      cases hb : (n == v) with
      | true =>
        have HL : Hid (F = .tuple #[.agg #[.int .u8 n, .string ⟨wd.toArray⟩, .int .i64 a], .bool true]) := by
          rw [← HK.out, HFD.out]
          simp only [hb]
          exact hide rfl
        skip
        go_wp2
        refine bodyPost_ret (by simp [results, Tryd.results23, go_sem, d0, d1, d2]; try rfl) rfl ?_
        refine Ret.mk hxb ?_
        rw [HL.out]
        rfl
      | false =>
        have HL : Hid (verbV ((vtab.drop (k + 1)).find? (fun x => x.1 == v)) = F) := by
          rw [← HK.out, HFD.out]
          simp only [hb]
          exact hide rfl
        skip
        go_wp2
        refine ⟨⟨k + 1, by omega, by go_num, HL, hra.out, hxa⟩, by simp [intOf]; omega⟩
    · obtain rfl : k = 11 := by omega
      have HL : Hid (F = .tuple #[.agg #[.int .u8 0, .string ⟨#[]⟩, .int .i64 0], .bool false]) := by
        rw [← HK.out]
        exact hide rfl
      have c0 := hrw.cell (i := 0) rfl
      have f0 := hrw.frozen 0
      have r1 := hrw.set 0 (.int .u8 0)
      have c1 := r1.cell (i := 1) rfl
      have f1 := r1.frozen 1
      have r2 := r1.set 1 (.string ⟨#[]⟩)
      have c2 := r2.cell (i := 2) rfl
      have f2 := r2.frozen 2
      have r3 := r2.set 2 (.int .i64 0)
      have d0 := r1.cell (i := 0) rfl
      have d1 := r2.cell (i := 1) rfl
      have d2 := r3.cell (i := 2) rfl
      have hxb : Ext w ((((wr.setCell ⟨w.heap.size, 0, none⟩ (.int .u8 0)).setCell ⟨w.heap.size, 1, none⟩ (.string ⟨#[]⟩)).setCell ⟨w.heap.size, 2, none⟩ (.int .i64 0))) :=
        Below.set (Below.set (Below.set hx (Nat.le_refl _) _) (Nat.le_refl _) _) (Nat.le_refl _) _
      clear r1 r2 r3
      go_wp2
      refine bodyPost_ret (by simp [results, Tryd.results23, go_sem, d0, d1, d2]; try rfl) rfl ?_
      refine Ret.mk hxb ?_
      rw [HL.out]
      rfl
end Go.Proofs.YtmanflfanoddgabDoor
