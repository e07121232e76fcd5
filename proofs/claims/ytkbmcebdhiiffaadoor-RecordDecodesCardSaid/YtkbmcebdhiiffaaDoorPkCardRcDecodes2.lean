/-
  A block of bytes that the call itself made and writes into in place.
  More of what single operations give in a region that draws its order.
  A block of cells that the call itself made: read and written whole and cell by cell; words in such a block.
  Records of the log: plain, and how they lie in memory.
  Which records there are: the program's Form.
-/
import Derived.Laws.CopyOwn
import Derived.WalkLawsBesides
import Derived.Deep.WholeRow
import Derived.IntWalk
import Derived.Deep.Cut
import Derived.Deep.CutRange
import Derived.Great.BuildSlice
import Derived.Laws.OwnMore
import Derived.Maps.AppendAt
import Derived.BigQuiet
import Derived.Deep.QuietTactic
import Derived.Test.YtkbmcebdhiiffaaDoorPkCardRcDecodes0
import Derived.Test.YtkbmcebdhiiffaaDoorPkCardRcDecodes1
set_option linter.unusedVariables false
set_option linter.unusedSimpArgs false

namespace Go.Proofs.YtkbmcebdhiiffaaDoor
open Go.RowKit

/-- Block g is just the bytes l. -/
def Blk (w : World) (g : Nat) (l : List UInt8) : Prop := w.heap[g]? = some (.cells (bs l).toArray 5 (0, 0))

theorem madeCells_zero (n : Nat) : madeCells #[.int .u8 0] n = (bs (List.replicate n 0)).toArray := by
  apply Array.ext'
  apply List.ext_getElem?
  intro i
  simp [madeCells, bs]
  by_cases h : i < n
  · simp [h, Nat.mod_one]
  · simp [h]
theorem info_size : (Tryd.prog.info? 5).map (·.size) = some 1 := by kernel_rfl

section
variable {w w' : World} {g : Nat} {l : List UInt8}
theorem Blk.made (w : World) (n : Nat) : Blk (w.alloc (.cells (madeCells #[.int .u8 0] n) 5)) w.heap.size (List.replicate n 0) := by
  unfold Blk
  rw [madeCells_zero]
  exact heap_alloc_new w _
theorem Blk.lt (h : Blk w g l) : g < w.heap.size := by
  rcases Nat.lt_or_ge g w.heap.size with h' | h'
  · exact h'
  · unfold Blk at h; rw [Array.getElem?_eq_none h'] at h; cases h
theorem Blk.cell (h : Blk w g l) {i : Nat} {x : UInt8} (hx : l[i]? = some x) : w.cell? ⟨g, i, none⟩ = some (.int .u8 (x.toNat : Int)) := by
  rw [cell_of_row w g i _ _ (0, 0) h, List.getElem?_toArray, bs_get, hx]
  rfl
theorem Blk.frozen (h : Blk w g l) (i : Nat) : w.frozen? ⟨g, i, none⟩ = false := by
  unfold Blk at h
  simp [World.frozen?, h]
theorem Blk.set (h : Blk w g l) (i : Nat) (n : Int) (h0 : 0 ≤ n) (h1 : n < 256) : Blk (w.setCell ⟨g, i, none⟩ (.int .u8 n)) g (l.set i (b8 n)) := by
  unfold Blk at h ⊢
  have e : (bs (l.set i (b8 n))).toArray = (bs l).toArray.setIfInBounds i (.int .u8 n) := by
    rw [List.setIfInBounds_toArray]
    congr 1
    unfold bs
    rw [List.map_set, b8_toNat h0 h1]
  rw [e]
  simp [World.setCell, Array.getElem?_modify, h]
theorem Blk.alloc (h : Blk w g l) (o : Obj) : Blk (w.alloc o) g l := (Below.heap_alloc w o g h.lt).trans h
theorem Blk.ext (h : Blk w g l) (hx : Ext w w') : Blk w' g l := (Below.block hx g h.lt).trans h
theorem Blk.below {B : Nat} (h : Blk w g l) (hb : Below B w w') (hg : g < B) : Blk w' g l := (hb.block g hg).trans h
theorem Blk.far (h : Blk w g l) {p : Addr} (hp : g ≠ p.block) (u : Value) : Blk (w.setCell p u) g l := (Below.heap_setCell w p u g hp).trans h
theorem Blk.rd (h : Blk w g l) : Rd w (some ⟨g, 0, none⟩) l := fun _ => ⟨g, 0, rfl, fun j u hu => by rw [Nat.zero_add]; exact h.cell hu⟩
theorem Blk.bytes (h : Blk w g l) {n c : Nat} (hn : n = l.length) (hc : n ≤ c) : Bytes l w (.slice (some ⟨g, 0, none⟩) n c) := by
  subst hn
  exact ⟨_, _, rfl, hc, h.rd⟩
/-- What stands at the block's cells, from a place on. -/
theorem Blk.rdAt (h : Blk w g l) (k : Nat) : Rd w (some ⟨g, k, none⟩) (l.drop k) := fun _ => ⟨g, k, rfl, fun j u hu => by rw [List.getElem?_drop] at hu; exact h.cell hu⟩
end

theorem run_make_bytes (n : Nat) (hn : n ≤ 281474976710656) (W : World) : (Instr.makeSlice 23 (.int .i64 (n : Int)) (.int .i64 (n : Int))).run Tryd.prog W =
    .ok (.slice (some ⟨W.heap.size, 0, none⟩) n n) (W.alloc (.cells (madeCells #[.int .u8 0] n) 5)) := by
  obtain ⟨i0, hi, hz0, hz1, hz2⟩ := info_parts info_u8
  have h := run_make (P := Tryd.prog) W 23 5 i0 (.int .u8 0) Tryd.underlying23 hi hz0 .i64 .i64 (n : Int) (n : Int) (by omega) (by omega) (by rw [hz2]; omega) (by omega)
  simpa [hz1, Value.cells] using h

/-- m laid over l from a place on. -/
def over (l : List UInt8) (off : Nat) (m : List UInt8) : List UInt8 := l.take off ++ (m ++ l.drop (off + m.length))
theorem over_length (l : List UInt8) (off : Nat) (m : List UInt8) (h : off + m.length ≤ l.length) : (over l off m).length = l.length := by simp [over]; omega

/-- 'copy(d, s)', d within a block of the call's own. -/
theorem wpList_copy {w : World} {ops : Array Oper} {rest : List Oper} {o : Oper} {a : Act} {Q : Exit → Act → World → Prop} (hgd : o.guard = none) (d s : Operand)
    (ho : o.op = .call { callee := .builtin .copy, args := #[d, s], argTypes := #[23, 23] })
    (g off dLen dCap : Nat) (A : Option Addr) (n c : Nat) (hd : a.eval d = .slice (some ⟨g, off, none⟩) dLen dCap) (hs : a.eval s = .slice A n c) (l m : List UInt8) (hn : n = m.length)
    (hg : Blk w g l) (hr : Rd w A m) (hfit : off + min m.length dLen ≤ l.length) (B : Nat) (hBg : B ≤ g)
    (h : ∀ w', Blk w' g (over l off (m.take dLen)) → Below B w w' → wpList Tryd.prog ops Q rest (a.put o.dst (goInt ((min m.length dLen : Nat) : Int))) w') : wpList Tryd.prog ops Q (o :: rest) a w := by
  subst hn
  have hlen : (bs (m.take dLen)).length = Nat.min m.length dLen := by rw [bs_length, List.length_take, Nat.min_comm]
  have e : goInt (bs (m.take dLen)).length = goInt ((min m.length dLen : Nat) : Int) := by rw [hlen]
  refine wpList_copy_splice hgd d s 23 23 ho 5 Tryd.underlying23 info_size (some ⟨g, off, none⟩) A dLen dCap m.length c hd hs g off (bs l) 5 hg (bs (m.take dLen)) hlen ?_ ?_ (bs_one _) B w (Below.refl _ _) hBg ?_
  · intro hp
    refine ⟨rfl, ?_⟩
    have hne : m.take dLen ≠ [] := by intro e; rw [e] at hp; simp [bs] at hp
    obtain ⟨b, o2, hA, hc⟩ := (hr.take dLen) hne
    exact ⟨_, hA, (hr.take dLen).cells hA hne⟩
  · rw [hlen, bs_length]; exact hfit
  · intro w' hw' hb'
    rw [e]
    refine h w' ?_ hb'
    have hw := hw'.out
    have e2 : splice (bs l) off (bs (m.take dLen)) = bs (over l off (m.take dLen)) := by
      unfold splice over bs
      simp only [List.map_append, List.map_take, List.map_drop, List.length_map, List.length_take]
    rw [e2] at hw
    exact hw
end Go.Proofs.YtkbmcebdhiiffaaDoor
namespace Go.Proofs.YtkbmcebdhiiffaaDoor
open Go.RowKit

theorem Ext.drewN {w W : World} (h : Ext w W) (n : Nat) : Ext w (W.drewN n) := ⟨h.os, h.tape, h.output, h.size, h.block⟩

theorem Rd.drewN {w : World} {A : Option Addr} {l : List UInt8} (h : Rd w A l) (n : Nat) : Rd (w.drewN n) A l := h.ext ((Ext.refl w).drewN n)

section
variable {P : Program} {ops : Array Oper} {o : Oper} {a : Act} {w : World} {R : Value → World → Prop}
theorem gives_lss_int {xt yt : Nat} {x y : Operand} {k : IntKind} (m n : Int) (h : o.op = .binOp .lss xt x y yt) (hx : a.eval x = .int k m) (hy : a.eval y = .int k n) (hR : R (.bool (decide (m < n))) w) : gives P o a w R :=
  gives_bin h hx hy (by simp [go_sem]) (by simp [go_sem]) hR
theorem gives_lss_str {xt yt : Nat} {x y : Operand} (l m : List UInt8) (h : o.op = .binOp .lss xt x y yt) (hx : a.eval x = .string ⟨l.toArray⟩) (hy : a.eval y = .string ⟨m.toArray⟩) (hR : R (.bool (Op.bytesLess l m)) w) : gives P o a w R :=
  gives_bin h hx hy (by simp [go_sem]) (by simp [go_sem]) hR
theorem gives_geq_int {xt yt : Nat} {x y : Operand} {k : IntKind} (m n : Int) (h : o.op = .binOp .geq xt x y yt) (hx : a.eval x = .int k m) (hy : a.eval y = .int k n) (hR : R (.bool (decide (n ≤ m))) w) : gives P o a w R :=
  gives_bin h hx hy (by simp [go_sem]) (by simp [go_sem]) hR
theorem gives_gtr_int {xt yt : Nat} {x y : Operand} {k : IntKind} (m n : Int) (h : o.op = .binOp .gtr xt x y yt) (hx : a.eval x = .int k m) (hy : a.eval y = .int k n) (hR : R (.bool (decide (n < m))) w) : gives P o a w R :=
  gives_bin h hx hy (by simp [go_sem]) (by simp [go_sem]) hR
theorem gives_eql_bool {xt yt : Nat} {x y : Operand} (p q : Bool) (hu : P.underlying xt = some .bool) (h : o.op = .binOp .eql xt x y yt) (hx : a.eval x = .bool p) (hy : a.eval y = .bool q) (hR : R (.bool (p == q)) w) : gives P o a w R :=
  gives_bin h hx hy (by simp [go_sem]) (by simp [go_sem, hu]) hR
theorem gives_not {xt : Nat} {x : Operand} (p : Bool) (h : o.op = .unOp .not xt x) (hx : a.eval x = .bool p) (hR : R (.bool !p) w) : gives P o a w R := by
  refine gives_of_run (w' := w) (v := .bool !p) ?_ hR
  have e : (execOp a.eval o).run P w = ((Op.unary .not (a.eval x)).run P w).andThen fun v w' => .ok (.value v) w' := by simp [execOp, h]
  rw [e, hx]
  simp [go_sem]
theorem gives_len {x : Operand} {t : Nat} {A : Option Addr} {n c : Nat} (h : o.op = .call { callee := .builtin .len, args := #[x], argTypes := #[t] }) (ht : ∃ e, P.underlying t = some (.slice e)) (hx : a.eval x = .slice A n c) (hR : R (.int .i64 (n : Int)) w) : gives P o a w R := by
  obtain ⟨e, ht⟩ := ht
  have hlen : (Builtin.len_ #[t] o.type #[.slice A n c]).run P w = .ok (.int .i64 (n : Int)) w := by simp [go_sem, ht]
  refine gives_of_run (w' := w) (v := .int .i64 (n : Int)) ?_ hR
  unfold execOp
  simp only [h, resolve, invoke, builtin, Sem.run_bind, Sem.run_pure, Result.andThen_ok, List.map_toArray, List.map_cons, List.map_nil, hx, hlen]
theorem gives_cut {x y : Operand} {t e : Nat} {A : Option Addr} {n m c : Nat} (h : o.op = .slice t x none (some y) none) (ht : P.underlying t = some (.slice e)) (he : (P.info? e).isSome = true) (hx : a.eval x = .slice A n c) (hy : a.eval y = .int .i64 (m : Int)) (hm : m ≤ c)
    (hR : R (.slice A m c) w) : gives P o a w R := by
  obtain ⟨i, hi⟩ := Option.isSome_iff_exists.1 he
  have hcut : (Instr.slice t (.slice A n c) none (some (.int .i64 (m : Int))) none).run P w = .ok (.slice A m c) w := by
    simp [Instr.slice, run_underlying ht, Instr.sliceBounds, Instr.sliceBound, asIntOf, hm, sizeOf, typeInfo, hi]
    cases A with
    | none => simp
    | some ad => simp [Addr.add]
  have hcut2 : (Instr.sliceAt t (.slice A n c) none (some (.int .i64 (m : Int))) none).run P w = .ok (.slice A m c) w := by simp [Instr.sliceAt, run_underlying ht, hcut]
  refine gives_of_run (w' := w) (v := .slice A m c) ?_ hR
  unfold execOp
  simp only [h, Option.map_some, Option.map_none, hx, hy, Sem.run_bind, hcut2, Result.andThen_ok, Sem.run_pure]
end
end Go.Proofs.YtkbmcebdhiiffaaDoor
namespace Go.Proofs.YtkbmcebdhiiffaaDoor
open Go.RowKit

/-- Block g, laid for the type t, is just these cells. -/
def Rw (w : World) (g : Nat) (t : TypeId) (vs : List Value) : Prop := w.heap[g]? = some (.cells vs.toArray t (0, 0))
section
variable {w w' : World} {g : Nat} {t : TypeId} {vs : List Value}
theorem Rw.new (w : World) (t : TypeId) (vs : List Value) : Rw (w.alloc (.cells vs.toArray t)) w.heap.size t vs := heap_alloc_new w _
theorem Rw.lt (h : Rw w g t vs) : g < w.heap.size := by
  rcases Nat.lt_or_ge g w.heap.size with h' | h'
  · exact h'
  · unfold Rw at h; rw [Array.getElem?_eq_none h'] at h; cases h
theorem Rw.cell (h : Rw w g t vs) {i : Nat} {v : Value} (hx : vs[i]? = some v) : w.cell? ⟨g, i, none⟩ = some v := by
  rw [cell_of_row w g i _ _ (0, 0) h, List.getElem?_toArray, hx]
theorem Rw.frozen (h : Rw w g t vs) (i : Nat) : w.frozen? ⟨g, i, none⟩ = false := by
  unfold Rw at h
  simp [World.frozen?, h]
theorem Rw.set (h : Rw w g t vs) (i : Nat) (v : Value) : Rw (w.setCell ⟨g, i, none⟩ v) g t (vs.set i v) := by
  unfold Rw at h ⊢
  have e : (vs.set i v).toArray = vs.toArray.setIfInBounds i v := by rw [List.setIfInBounds_toArray]
  rw [e]
  simp [World.setCell, Array.getElem?_modify, h]
theorem Rw.ext (h : Rw w g t vs) (hx : Ext w w') : Rw w' g t vs := (Below.block hx g h.lt).trans h
theorem Rw.below {B : Nat} (h : Rw w g t vs) (hb : Below B w w') (hg : g < B) : Rw w' g t vs := (hb.block g hg).trans h
theorem Rw.alloc (h : Rw w g t vs) (o : Obj) : Rw (w.alloc o) g t vs := (Below.heap_alloc w o g h.lt).trans h
theorem Rw.far (h : Rw w g t vs) {p : Addr} (hp : g ≠ p.block) (u : Value) : Rw (w.setCell p u) g t vs := (Below.heap_setCell w p u g hp).trans h
/-- What a whole store leaves: block g turned, all else as it was. -/
structure Laid1 (g : Nat) (w w' : World) : Prop where
  below : Below g w w'
  other : ∀ k, k ≠ g → w'.heap[k]? = w.heap[k]?
theorem Rw.other {k : Nat} (h : Rw w k t vs) (hl : Laid1 g w w') (hk : k ≠ g) : Rw w' k t vs := (hl.other k hk).trans h
theorem Laid1.of_row (w : World) (g : Nat) (cs : Array Value) : Laid1 g w (w.setRow g cs) := ⟨⟨rfl, rfl, rfl, by simp [World.setRow], fun k hk => setRow_other w g k cs (by omega)⟩, fun k hk => setRow_other w g k cs hk⟩
theorem Laid1.of_cell (w : World) (g i : Nat) (u : Value) : Laid1 g w (w.setCell ⟨g, i, none⟩ u) := ⟨Below.setCell (p := ⟨g, i, none⟩) (Below.refl g w) (Nat.le_refl g) u, fun k hk => Below.heap_setCell w _ u k hk⟩
end
/-- Writing above B: nothing below has turned. -/
theorem Below.set {B : Nat} {w w' : World} (h : Below B w w') {p : Addr} (hp : B ≤ p.block) (u : Value) : Below B w (w'.setCell p u) := Below.setCell h hp u
theorem Ext.laid {w w' w'' : World} {g : Nat} (h : Ext w w') (hl : Laid1 g w' w'') (hg : w.heap.size ≤ g) : Ext w w'' := Below.trans h (Below.mono hl.below hg)

section
variable {P : Program} {ops : Array Oper} {rest : List Oper} {o : Oper} {a : Act} {w : World} {Q : Exit → Act → World → Prop} {R : Value → World → Prop}
/-- A whole array read. -/
theorem wpList_load_rw (hgd : o.guard = none) (ty : TypeId) (x : Operand) (ho : o.op = .load ty x) (g : Nat) (hx : a.eval x = .pointer (some ⟨g, 0, none⟩)) (t : TypeId) (vs : List Value) (hr : Rw w g t vs)
    (n : Nat) (e : TypeId) (hu : P.underlying ty = some (.array n e)) (hi : (P.info? ty).map (·.size) = some n) (hn : n = vs.length)
    (h : wpList P ops Q rest (a.put o.dst (.agg vs.toArray)) w) : wpList P ops Q (o :: rest) a w :=
  wpList_load_row hgd ty x ho g hx t vs.toArray (0, 0) _ hr hu rfl (by rw [hi, hn]; simp) h
/-- A whole array laid. -/
theorem wpList_store_rw (hgd : o.guard = none) (ty : TypeId) (x y : Operand) (ho : o.op = .store ty x y) (g : Nat) (hx : a.eval x = .pointer (some ⟨g, 0, none⟩)) (us : List Value) (hy : a.eval y = .agg us.toArray)
    (t : TypeId) (vs : List Value) (hr : Rw w g t vs) (n : Nat) (hi : (P.info? ty).map (·.size) = some n) (hn : n = us.length) (hm : vs.length = us.length) (h1 : us.all (·.oneCell') = true)
    (h : ∀ w', Rw w' g t us → Laid1 g w w' → wpList P ops Q rest (a.put o.dst undef) w') : wpList P ops Q (o :: rest) a w :=
  wpList_store_row hgd ty x y ho g us.toArray hx hy t vs.toArray hr (by rw [hi, hn]; simp) (by simpa using hm) (by simpa using h1) (h _ (setRow_heap w g _ _ t _ hr) (Laid1.of_row w g _))
theorem gives_load_rw (ty : TypeId) (x : Operand) (ho : o.op = .load ty x) (g : Nat) (hx : a.eval x = .pointer (some ⟨g, 0, none⟩)) (t : TypeId) (vs : List Value) (hr : Rw w g t vs)
    (n : Nat) (e : TypeId) (hu : P.underlying ty = some (.array n e)) (hi : (P.info? ty).map (·.size) = some n) (hn : n = vs.length) (hR : R (.agg vs.toArray) w) : gives P o a w R := by
  unfold gives execOp
  simp only [ho, hx, Instr.loadAt, Instr.sureAddr, Sem.run_bind, Sem.run_pure, Result.andThen_ok, run_loadVar_row w g t ty vs.toArray (0, 0) _ hr hu rfl (by rw [hi, hn]; simp)]
  exact hR
theorem gives_store_rw (ty : TypeId) (x y : Operand) (ho : o.op = .store ty x y) (g : Nat) (hx : a.eval x = .pointer (some ⟨g, 0, none⟩)) (us : List Value) (hy : a.eval y = .agg us.toArray)
    (t : TypeId) (vs : List Value) (hr : Rw w g t vs) (n : Nat) (hi : (P.info? ty).map (·.size) = some n) (hn : n = us.length) (hm : vs.length = us.length) (h1 : us.all (·.oneCell') = true)
    (hR : ∀ w', Rw w' g t us → Laid1 g w w' → R undef w') : gives P o a w R := by
  unfold gives execOp
  simp only [ho, hx, hy, Instr.storeAt, Instr.sureAddr, Sem.run_bind, Sem.run_pure, Result.andThen_ok, run_storeVar_row w g t ty vs.toArray us.toArray hr (by rw [hi, hn]; simp) (by simpa using hm) (by simpa using h1)]
  exact hR _ (setRow_heap w g _ _ t _ hr) (Laid1.of_row w g _)
/-- A result out of its cell. -/
theorem ret_rw {fn : Func} {p : Tmp} {ty : TypeId} {S : Ending → World → Prop} (hf : fn.results = #[.cell p ty]) (hd : a.defers = []) (g : Nat) (hp : a.tmps.getD p undef = .pointer (some ⟨g, 0, none⟩)) (t : TypeId) (vs : List Value) (hr : Rw w g t vs)
    (n : Nat) (e : TypeId) (hu : P.underlying ty = some (.array n e)) (hi : (P.info? ty).map (·.size) = some n) (hn : n = vs.length) (h : S (.returned (.agg vs.toArray)) w) : bodyPost P fn S .ret a w :=
  bodyPost_ret (results_cell_row hf a.tmps w g t vs.toArray (0, 0) _ hp hr hu rfl (by rw [hi, hn]; simp)) hd h
end

/-- Words as values. -/
def us (l : List Nat) : List Value := l.map fun (n : Nat) => .int .u32 (n : Int)
theorem us_length (l : List Nat) : (us l).length = l.length := by simp [us]
theorem us_get (l : List Nat) (i : Nat) : (us l)[i]? = l[i]?.map fun (n : Nat) => .int .u32 (n : Int) := by simp [us]
theorem us_one (l : List Nat) : (us l).all (·.oneCell') = true := by simp [us, Value.oneCell']
/-- Block g, laid for the type t, is just these words. -/
def Wds (w : World) (g : Nat) (t : TypeId) (l : List Nat) : Prop := Rw w g t (us l)
section
variable {w w' : World} {g : Nat} {t : TypeId} {l : List Nat}
theorem Wds.new (w : World) (t : TypeId) (l : List Nat) : Wds (w.alloc (.cells (us l).toArray t)) w.heap.size t l := heap_alloc_new w _
theorem Wds.lt (h : Wds w g t l) : g < w.heap.size := Rw.lt h
theorem Wds.cell (h : Wds w g t l) {i n : Nat} (hx : l[i]? = some n) : w.cell? ⟨g, i, none⟩ = some (.int .u32 (n : Int)) := Rw.cell h (by rw [us_get, hx]; rfl)
theorem Wds.frozen (h : Wds w g t l) (i : Nat) : w.frozen? ⟨g, i, none⟩ = false := Rw.frozen h i
theorem Wds.put (h : Wds w g t l) (i : Nat) {v : Int} (n : Nat) (hv : v = (n : Int)) {m : List Nat} (hm : l.set i n = m) : Wds (w.setCell ⟨g, i, none⟩ (.int .u32 v)) g t m := by
  subst hv hm
  have := Rw.set h i (.int .u32 (n : Int))
  unfold Wds us
  rw [List.map_set]
  exact this
theorem Wds.ext (h : Wds w g t l) (hx : Ext w w') : Wds w' g t l := Rw.ext h hx
theorem Wds.below {B : Nat} (h : Wds w g t l) (hb : Below B w w') (hg : g < B) : Wds w' g t l := Rw.below h hb hg
theorem Wds.far (h : Wds w g t l) {p : Addr} (hp : g ≠ p.block) (u : Value) : Wds (w.setCell p u) g t l := Rw.far h hp u
theorem Wds.other {k : Nat} (h : Wds w k t l) (hl : Laid1 g w w') (hk : k ≠ g) : Wds w' k t l := Rw.other h hl hk
end
theorem set_mid (a : List Nat) (n : Nat) (v : Nat) (k : Nat) (hk : k = a.length) (h : 0 < n) : (a ++ List.replicate n 0).set k v = (a ++ [v]) ++ List.replicate (n - 1) 0 := by
  subst hk
  obtain ⟨m, rfl⟩ : ∃ m, n = m + 1 := ⟨n - 1, by omega⟩
  rw [List.set_append_right _ _ (Nat.le_refl _), Nat.sub_self, List.replicate_succ, List.set_cons_zero]
  simp
end Go.Proofs.YtkbmcebdhiiffaaDoor
namespace Go.Proofs.YtkbmcebdhiiffaaDoor
open Go.RowKit

/-- A record. -/
structure Rec where
  k : Int
  tx : Int
  pv : Int
  pg : Int
  off : Int
  bf : List UInt8
  af : List UInt8
  nx : Int
  dl : List (Int × Int)
  op : Bool
/-- Numbers are within their kinds. -/
structure Rec.Ok (r : Rec) : Prop where
  k : 0 ≤ r.k ∧ r.k < 256
  tx : 0 ≤ r.tx ∧ r.tx < 18446744073709551616
  pv : 0 ≤ r.pv ∧ r.pv < 18446744073709551616
  pg : -9223372036854775808 ≤ r.pg ∧ r.pg < 9223372036854775808
  off : -9223372036854775808 ≤ r.off ∧ r.off < 9223372036854775808
  nx : 0 ≤ r.nx ∧ r.nx < 18446744073709551616
  dl : ∀ d ∈ r.dl, (-9223372036854775808 ≤ d.1 ∧ d.1 < 9223372036854775808) ∧ 0 ≤ d.2 ∧ d.2 < 18446744073709551616
  bn : r.bf.length ≤ 140737488351232
  an : r.af.length ≤ 140737488351232
  dn : r.dl.length ≤ 140737488351232
def hok (k : Int) : Bool := decide (1 ≤ k) && decide (k ≤ 6)
def hpv (k : Int) : Bool := decide (2 ≤ k) && decide (k ≤ 6)
def hch (k : Int) : Bool := (k == 2) || (k == 3)
def hbf (k : Int) : Bool := k == 2
def hnx (k : Int) : Bool := k == 3
def hck (k : Int) : Bool := k == 6
def isPg (n : Int) : Bool := decide (0 ≤ n) && decide (n < 4096)
def chgB (r : Rec) (c b : Bool) : Bool := if c then isPg r.pg && (decide (1 ≤ r.af.length) && ((r.bf.length == if b then r.af.length else 0) && (decide (0 ≤ r.off) && decide (r.off ≤ 512 - (r.af.length : Int))))) else (r.pg == 0) && ((r.off == 0) && ((r.af.length == 0) && (r.bf.length == 0)))
/-- The dirty pages rise. -/
def risB : Int → List (Int × Int) → Bool
  | _, [] => true
  | last, d :: l => decide (last < d.1) && (decide (d.1 < 4096) && risB d.1 l)
def chkB (r : Rec) (x : Bool) : Bool := if x then decide (r.dl.length ≤ 64) && risB (-1) r.dl else (r.dl.length == 0) && !r.op
def formR (r : Rec) : Bool := hok r.k && ((hpv r.k || (r.pv == 0)) && ((hnx r.k || (r.nx == 0)) && (chgB r (hch r.k) (hbf r.k) && chkB r (hck r.k))))
/-- The slice at A reads as these dirty pages. -/
def RdD (w : World) (A : Option Addr) (L : List (Int × Int)) : Prop :=
  L ≠ [] → ∃ b off, A = some ⟨b, off, none⟩ ∧ ∀ j d, L[j]? = some d → w.cell? ⟨b, off + j * 2, none⟩ = some (.int .i64 d.1) ∧ w.cell? ⟨b, off + j * 2 + 1, none⟩ = some (.int .u64 d.2)
theorem RdD.nil (w : World) (A : Option Addr) : RdD w A [] := fun h => absurd rfl h
theorem RdD.keep {w w' : World} {A : Option Addr} {L : List (Int × Int)} (h : RdD w A L) (hx : Keeps w w') : RdD w' A L := fun hn => by
  obtain ⟨b, off, hA, hc⟩ := h hn
  exact ⟨b, off, hA, fun j d hj => ⟨hx.cell (hc j d hj).1, hx.cell (hc j d hj).2⟩⟩
theorem RdD.ext {w w' : World} {A : Option Addr} {L : List (Int × Int)} (h : RdD w A L) (hx : Ext w w') : RdD w' A L := h.keep hx.keeps
theorem RdD.at {w : World} {A : Option Addr} {L : List (Int × Int)} (h : RdD w A L) {j : Nat} {d : Int × Int} (hj : L[j]? = some d) : ∃ b off, A = some ⟨b, off, none⟩ ∧ w.cell? ⟨b, off + j * 2, none⟩ = some (.int .i64 d.1) ∧ w.cell? ⟨b, off + j * 2 + 1, none⟩ = some (.int .u64 d.2) := by
  obtain ⟨b, off, hA, hc⟩ := h (by intro e; rw [e] at hj; cases hj)
  exact ⟨b, off, hA, (hc j d hj).1, (hc j d hj).2⟩
/-- Where a record's lists lie, and how much room they have. -/
structure Pls where
  A : Option Addr
  a : Nat
  B : Option Addr
  b : Nat
  D : Option Addr
  d : Nat
/-- A record's ten values. -/
def rcV (r : Rec) (t : Pls) : List Value := [.int .u8 r.k, .int .u64 r.tx, .int .u64 r.pv, .int .i64 r.pg, .int .i64 r.off, .slice t.A r.bf.length t.a, .slice t.B r.af.length t.b, .int .u64 r.nx, .slice t.D r.dl.length t.d, .bool r.op]
/-- A record's lists lie there. -/
structure RcM (w : World) (r : Rec) (t : Pls) : Prop where
  ok : r.Ok
  bf : Rd w t.A r.bf
  af : Rd w t.B r.af
  dl : RdD w t.D r.dl
  bc : r.bf.length ≤ t.a
  ac : r.af.length ≤ t.b
  dc : r.dl.length ≤ t.d
theorem RcM.keep {w w' : World} {r : Rec} {t : Pls} (h : RcM w r t) (hx : Keeps w w') : RcM w' r t := ⟨h.ok, h.bf.keep hx, h.af.keep hx, h.dl.keep hx, h.bc, h.ac, h.dc⟩
theorem RcM.ext {w w' : World} {r : Rec} {t : Pls} (h : RcM w r t) (hx : Ext w w') : RcM w' r t := h.keep hx.keeps
/-- A value of a bool, in a grown world. -/
def RetB (w : World) (b : Bool) (e : Ending) (w' : World) : Prop := e = .returned (.bool b) ∧ Ext w w'
end Go.Proofs.YtkbmcebdhiiffaaDoor
namespace Go.Proofs.YtkbmcebdhiiffaaDoor
open Go.RowKit

def PartsP (k : Int) (w : World) (e : Ending) (w' : World) : Prop := e = .returned (.tuple #[.agg #[.bool (hpv k), .bool (hch k), .bool (hbf k), .bool (hnx k), .bool (hck k)], .bool (hok k)]) ∧ Ext w w'
set_option maxRecDepth 20000 in
set_option maxHeartbeats 1600000 in
theorem partsOf_any (k : Int) (w : World) : Calls Tryd.prog 16 #[.int .u8 k] w (PartsP k w) := by
  by_cases h1 : k = 1
  · subst h1
    go_enter Tryd.func16, Tryd.ntmps16
    go_wp2
    exact bodyPost_ret (v := .tuple #[.agg #[.bool false, .bool false, .bool false, .bool false, .bool false], .bool true]) (by simp [results, Tryd.results16, go_sem]) rfl ⟨rfl, Ext.alloc _ _⟩
  by_cases h2 : k = 2
  · subst h2
    clear h1
    go_enter Tryd.func16, Tryd.ntmps16
    go_wp2
    exact bodyPost_ret (v := .tuple #[.agg #[.bool true, .bool true, .bool true, .bool false, .bool false], .bool true]) (by simp [results, Tryd.results16, go_sem]) rfl ⟨rfl, Ext.alloc _ _⟩
  by_cases h3 : k = 3
  · subst h3
    clear h1
    clear h2
    go_enter Tryd.func16, Tryd.ntmps16
    go_wp2
    exact bodyPost_ret (v := .tuple #[.agg #[.bool true, .bool true, .bool false, .bool true, .bool false], .bool true]) (by simp [results, Tryd.results16, go_sem]) rfl ⟨rfl, Ext.alloc _ _⟩
  by_cases h4 : k = 4
  · subst h4
    clear h1
    clear h2
    clear h3
    go_enter Tryd.func16, Tryd.ntmps16
    go_wp2
    exact bodyPost_ret (v := .tuple #[.agg #[.bool true, .bool false, .bool false, .bool false, .bool false], .bool true]) (by simp [results, Tryd.results16, go_sem]) rfl ⟨rfl, Ext.alloc _ _⟩
  by_cases h5 : k = 5
  · subst h5
    clear h1
    clear h2
    clear h3
    clear h4
    go_enter Tryd.func16, Tryd.ntmps16
    go_wp2
    exact bodyPost_ret (v := .tuple #[.agg #[.bool true, .bool false, .bool false, .bool false, .bool false], .bool true]) (by simp [results, Tryd.results16, go_sem]) rfl ⟨rfl, Ext.alloc _ _⟩
  by_cases h6 : k = 6
  · subst h6
    clear h1
    clear h2
    clear h3
    clear h4
    clear h5
    go_enter Tryd.func16, Tryd.ntmps16
    go_wp2
    exact bodyPost_ret (v := .tuple #[.agg #[.bool true, .bool false, .bool false, .bool false, .bool true], .bool true]) (by simp [results, Tryd.results16, go_sem]) rfl ⟨rfl, Ext.alloc _ _⟩
  have HV : PartsP k = fun w e w' => e = .returned (.tuple #[.agg #[.bool false, .bool false, .bool false, .bool false, .bool false], .bool false]) ∧ Ext w w' := by
    funext w e w'
    have e1 : hpv k = false := by simp only [hpv, Bool.and_eq_false_iff, decide_eq_false_iff_not]; omega
    have e2 : hok k = false := by simp only [hok, Bool.and_eq_false_iff, decide_eq_false_iff_not]; omega
    have e3 : hch k = false := by simp [hch, h2, h3]
    have e4 : hbf k = false := by simp [hbf, h2]
    have e5 : hnx k = false := by simp [hnx, h3]
    have e6 : hck k = false := by simp [hck, h6]
    simp only [PartsP, e1, e2, e3, e4, e5, e6]
  rw [HV]
  clear HV
  have b1 : (k == 1) = false := beq_eq_false_iff_ne.2 h1
  have b2 : (k == 2) = false := beq_eq_false_iff_ne.2 h2
  have b3 : (k == 3) = false := beq_eq_false_iff_ne.2 h3
  have b4 : (k == 4) = false := beq_eq_false_iff_ne.2 h4
  have b5 : (k == 5) = false := beq_eq_false_iff_ne.2 h5
  have b6 : (k == 6) = false := beq_eq_false_iff_ne.2 h6
  go_enter Tryd.func16, Tryd.ntmps16
  go_wp2
  exact bodyPost_ret (v := .tuple #[.agg #[.bool false, .bool false, .bool false, .bool false, .bool false], .bool false]) (by simp [results, Tryd.results16, go_sem]) rfl ⟨rfl, Ext.alloc _ _⟩
theorem isPage_any (n : Int) (w : World) : Calls Tryd.prog 29 #[.int .i64 n] w (fun e w' => e = .returned (.bool (isPg n)) ∧ w' = w) := by
  by_cases h0 : 0 ≤ n
  · by_cases h1 : n < 4096
    · have HV : isPg n = true := by simp [isPg]; omega
      rw [HV]
      clear HV
      go_enter Tryd.func29, Tryd.ntmps29
      go_wp2
      go_ret
      exact ⟨rfl, rfl⟩
    · have hd1 : decide (n < 4096) = false := decide_eq_false h1
      have HV : isPg n = false := by simp [isPg]; omega
      rw [HV]
      clear HV
      go_enter Tryd.func29, Tryd.ntmps29
      go_wp2
      go_ret
      exact ⟨rfl, rfl⟩
  · have hd0 : decide (0 ≤ n) = false := decide_eq_false h0
    have HV : isPg n = false := by simp [isPg]; omega
    rw [HV]
    clear HV
    go_enter Tryd.func29, Tryd.ntmps29
    go_wp2
    go_ret
    exact ⟨rfl, rfl⟩
def chgN (pg off : Int) (na nb : Nat) (c b : Bool) : Bool := if c then isPg pg && (decide (1 ≤ na) && ((nb == if b then na else 0) && (decide (0 ≤ off) && decide (off ≤ 512 - (na : Int))))) else (pg == 0) && ((off == 0) && ((na == 0) && (nb == 0)))
set_option maxRecDepth 20000 in
set_option maxHeartbeats 1600000 in
theorem changeFits_any (k tx pv pg off nx : Int) (A B D : Option Addr) (nb a na b' nd d : Nat) (op : Bool) (p c b n x : Bool) (w : World) (hna : na ≤ 140737488351232) (hnb : nb ≤ 140737488351232) (ho : -9223372036854775808 ≤ off) (ho2 : off < 9223372036854775808) :
    Calls Tryd.prog 17 #[.agg #[.int .u8 k, .int .u64 tx, .int .u64 pv, .int .i64 pg, .int .i64 off, .slice A nb a, .slice B na b', .int .u64 nx, .slice D nd d, .bool op], .agg #[.bool p, .bool c, .bool b, .bool n, .bool x]] w (RetB w (chgN pg off na nb c b)) := by
  have HO := hide (And.intro ho ho2)
  clear ho ho2
  cases c with
  | false =>
    by_cases h0 : pg = 0
    · have yh0 : (pg == 0) = true := by simp [h0]
      by_cases h1 : off = 0
      · have yh1 : (off == 0) = true := by simp [h1]
        by_cases h2 : na = 0
        · have yh2 : ((na : Int) == 0) = true := by simp [h2]
          by_cases h3 : nb = 0
          · have yh3 : ((nb : Int) == 0) = true := by simp [h3]
            have HV : chgN pg off na nb false b = true := by simp [chgN, h0, h1, h2, h3]
            rw [HV]
            clear HV
            go_enter Tryd.func17, Tryd.ntmps17
            go_wp2
            go_ret
            exact ⟨rfl, (Ext.alloc _ _).trans (Ext.alloc _ _)⟩
          · have yh3 : ((nb : Int) == 0) = false := by simp [h3]
            have HV : chgN pg off na nb false b = false := by simp [chgN, h0, h1, h2, h3]
            rw [HV]
            clear HV
            go_enter Tryd.func17, Tryd.ntmps17
            go_wp2
            go_ret
            exact ⟨rfl, (Ext.alloc _ _).trans (Ext.alloc _ _)⟩
        · have yh2 : ((na : Int) == 0) = false := by simp [h2]
          have HV : chgN pg off na nb false b = false := by simp [chgN, h0, h1, h2]
          rw [HV]
          clear HV
          go_enter Tryd.func17, Tryd.ntmps17
          go_wp2
          go_ret
          exact ⟨rfl, (Ext.alloc _ _).trans (Ext.alloc _ _)⟩
      · have yh1 : (off == 0) = false := by simp [h1]
        have HV : chgN pg off na nb false b = false := by simp [chgN, h0, h1]
        rw [HV]
        clear HV
        go_enter Tryd.func17, Tryd.ntmps17
        go_wp2
        go_ret
        exact ⟨rfl, (Ext.alloc _ _).trans (Ext.alloc _ _)⟩
    · have yh0 : (pg == 0) = false := by simp [h0]
      have HV : chgN pg off na nb false b = false := by simp [chgN, h0]
      rw [HV]
      clear HV
      go_enter Tryd.func17, Tryd.ntmps17
      go_wp2
      go_ret
      exact ⟨rfl, (Ext.alloc _ _).trans (Ext.alloc _ _)⟩
  | true =>
    obtain ⟨q, HQ⟩ : ∃ q, Hid (isPg pg = q) := ⟨_, hide rfl⟩
    have KP := hide (fun (W : World) => (show Calls Tryd.prog 29 #[.int .i64 pg] W (fun e w' => e = .returned (.bool q) ∧ w' = W) from by have h := isPage_any pg W; rw [HQ.out] at h; exact h))
    obtain ⟨m, HM⟩ : ∃ m : Nat, Hid ((if b then na else 0) = m) := ⟨_, hide rfl⟩
    have hm : m ≤ 140737488351232 := by rw [← HM.out]; split <;> omega
    by_cases h0 : q = true
    · subst h0
      by_cases h1 : 1 ≤ na
      · have h1i : (1 : Int) ≤ (na : Int) := by omega
        by_cases h2 : nb = m
        · have h2i : ((nb : Int) == (m : Int)) = true := by simp [h2]
          by_cases h3 : 0 ≤ off
          · by_cases h4 : off ≤ 512 - (na : Int)
            · have HV : chgN pg off na nb true b = true := by
                have hq := HQ.out
                have hm2 := HM.out
                simp only [chgN, if_true, hq, hm2]
                simp [h1, h2, h3, h4] <;> omega
              rw [HV]
              clear HV
              cases b with
              | false =>
                obtain rfl : m = 0 := HM.out.symm
                go_enter Tryd.func17, Tryd.ntmps17
                go_wp2_with (go_at_call 29; (with_reducible refine (KP.out _).mono ?_); rintro e w2 ⟨rfl, rfl⟩)
                go_ret
                exact ⟨rfl, (Ext.alloc _ _).trans (Ext.alloc _ _)⟩
              | true =>
                obtain rfl : na = m := HM.out
                go_enter Tryd.func17, Tryd.ntmps17
                go_wp2_with (go_at_call 29; (with_reducible refine (KP.out _).mono ?_); rintro e w2 ⟨rfl, rfl⟩)
                go_ret
                exact ⟨rfl, (Ext.alloc _ _).trans (Ext.alloc _ _)⟩
            · have h4i : decide (off ≤ 512 - (na : Int)) = false := decide_eq_false h4
              have HV : chgN pg off na nb true b = false := by
                have hq := HQ.out
                have hm2 := HM.out
                simp only [chgN, if_true, hq, hm2]
                simp [h1, h2, h3, h4] <;> omega
              rw [HV]
              clear HV
              cases b with
              | false =>
                obtain rfl : m = 0 := HM.out.symm
                go_enter Tryd.func17, Tryd.ntmps17
                go_wp2_with (go_at_call 29; (with_reducible refine (KP.out _).mono ?_); rintro e w2 ⟨rfl, rfl⟩)
                go_ret
                exact ⟨rfl, (Ext.alloc _ _).trans (Ext.alloc _ _)⟩
              | true =>
                obtain rfl : na = m := HM.out
                go_enter Tryd.func17, Tryd.ntmps17
                go_wp2_with (go_at_call 29; (with_reducible refine (KP.out _).mono ?_); rintro e w2 ⟨rfl, rfl⟩)
                go_ret
                exact ⟨rfl, (Ext.alloc _ _).trans (Ext.alloc _ _)⟩
          · have h3i : decide (0 ≤ off) = false := decide_eq_false h3
            have HV : chgN pg off na nb true b = false := by
              have hq := HQ.out
              have hm2 := HM.out
              simp only [chgN, if_true, hq, hm2]
              simp [h1, h2, h3] <;> omega
            rw [HV]
            clear HV
            cases b with
            | false =>
              obtain rfl : m = 0 := HM.out.symm
              go_enter Tryd.func17, Tryd.ntmps17
              go_wp2_with (go_at_call 29; (with_reducible refine (KP.out _).mono ?_); rintro e w2 ⟨rfl, rfl⟩)
              go_ret
              exact ⟨rfl, (Ext.alloc _ _).trans (Ext.alloc _ _)⟩
            | true =>
              obtain rfl : na = m := HM.out
              go_enter Tryd.func17, Tryd.ntmps17
              go_wp2_with (go_at_call 29; (with_reducible refine (KP.out _).mono ?_); rintro e w2 ⟨rfl, rfl⟩)
              go_ret
              exact ⟨rfl, (Ext.alloc _ _).trans (Ext.alloc _ _)⟩
        · have h2i : ((nb : Int) == (m : Int)) = false := by simp; omega
          have HV : chgN pg off na nb true b = false := by
            have hq := HQ.out
            have hm2 := HM.out
            simp only [chgN, if_true, hq, hm2]
            simp [h1, h2] <;> omega
          rw [HV]
          clear HV
          cases b with
          | false =>
            obtain rfl : m = 0 := HM.out.symm
            go_enter Tryd.func17, Tryd.ntmps17
            go_wp2_with (go_at_call 29; (with_reducible refine (KP.out _).mono ?_); rintro e w2 ⟨rfl, rfl⟩)
            go_ret
            exact ⟨rfl, (Ext.alloc _ _).trans (Ext.alloc _ _)⟩
          | true =>
            obtain rfl : na = m := HM.out
            go_enter Tryd.func17, Tryd.ntmps17
            go_wp2_with (go_at_call 29; (with_reducible refine (KP.out _).mono ?_); rintro e w2 ⟨rfl, rfl⟩)
            go_ret
            exact ⟨rfl, (Ext.alloc _ _).trans (Ext.alloc _ _)⟩
      · have h1i : decide ((1 : Int) ≤ (na : Int)) = false := by simp; omega
        have HV : chgN pg off na nb true b = false := by
          have hq := HQ.out
          have hm2 := HM.out
          simp only [chgN, if_true, hq, hm2]
          simp [h1] <;> omega
        rw [HV]
        clear HV
        cases b with
        | false =>
          obtain rfl : m = 0 := HM.out.symm
          go_enter Tryd.func17, Tryd.ntmps17
          go_wp2_with (go_at_call 29; (with_reducible refine (KP.out _).mono ?_); rintro e w2 ⟨rfl, rfl⟩)
          go_ret
          exact ⟨rfl, (Ext.alloc _ _).trans (Ext.alloc _ _)⟩
        | true =>
          obtain rfl : na = m := HM.out
          go_enter Tryd.func17, Tryd.ntmps17
          go_wp2_with (go_at_call 29; (with_reducible refine (KP.out _).mono ?_); rintro e w2 ⟨rfl, rfl⟩)
          go_ret
          exact ⟨rfl, (Ext.alloc _ _).trans (Ext.alloc _ _)⟩
    · have h0 : q = false := by simpa using h0
      subst h0
      have HV : chgN pg off na nb true b = false := by
        have hq := HQ.out
        have hm2 := HM.out
        simp only [chgN, if_true, hq, hm2]
        simp
      rw [HV]
      clear HV
      cases b with
      | false =>
        obtain rfl : m = 0 := HM.out.symm
        go_enter Tryd.func17, Tryd.ntmps17
        go_wp2_with (go_at_call 29; (with_reducible refine (KP.out _).mono ?_); rintro e w2 ⟨rfl, rfl⟩)
        go_ret
        exact ⟨rfl, (Ext.alloc _ _).trans (Ext.alloc _ _)⟩
      | true =>
        obtain rfl : na = m := HM.out
        go_enter Tryd.func17, Tryd.ntmps17
        go_wp2_with (go_at_call 29; (with_reducible refine (KP.out _).mono ?_); rintro e w2 ⟨rfl, rfl⟩)
        go_ret
        exact ⟨rfl, (Ext.alloc _ _).trans (Ext.alloc _ _)⟩
end Go.Proofs.YtkbmcebdhiiffaaDoor
