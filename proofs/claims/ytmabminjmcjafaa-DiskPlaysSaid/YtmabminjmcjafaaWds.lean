/-
  A block of cells that the call itself made: read and written whole and cell by cell; words in such a block.
-/
import Derived.Test.YtmabminjmcjafaaBlk
import Derived.Test.YtmabminjmcjafaaGive
import Derived.Deep.WholeRow
namespace Go.Proofs.Ytmabminjmcjafaa
open Go.RowKit

/-- Block g, laid for the type t, is just these cells. -/
def Rw (w : World) (g : Nat) (t : TypeId) (vs : List Value) : Prop := w.heap[g]? = some (.cells vs.toArray t (0, 0))
section
variable {w w' : World} {g : Nat} {t : TypeId} {vs : List Value}
theorem Rw.new (w : World) (t : TypeId) (vs : List Value) : Rw (w.alloc (.cells vs.toArray t)) w.heap.size t vs := heap_alloc_new w _
theorem Rw.lt (h : Rw w g t vs) : g < w.heap.size := by
  rcases Nat.lt_or_ge g w.heap.size with h' | h'
  · exact h'
  · unfold Rw at h; rw [Array.getElem?_eq_none h'] at h; cases h
theorem Rw.cell (h : Rw w g t vs) {i : Nat} {v : Value} (hx : vs[i]? = some v) : w.cell? ⟨g, i, none⟩ = some v := by
  rw [cell_of_row w g i _ _ (0, 0) h, List.getElem?_toArray, hx]
theorem Rw.frozen (h : Rw w g t vs) (i : Nat) : w.frozen? ⟨g, i, none⟩ = false := by
  unfold Rw at h
  simp [World.frozen?, h]
theorem Rw.set (h : Rw w g t vs) (i : Nat) (v : Value) : Rw (w.setCell ⟨g, i, none⟩ v) g t (vs.set i v) := by
  unfold Rw at h ⊢
  have e : (vs.set i v).toArray = vs.toArray.setIfInBounds i v := by rw [List.setIfInBounds_toArray]
  rw [e]
  simp [World.setCell, Array.getElem?_modify, h]
theorem Rw.ext (h : Rw w g t vs) (hx : Ext w w') : Rw w' g t vs := (Below.block hx g h.lt).trans h
theorem Rw.below {B : Nat} (h : Rw w g t vs) (hb : Below B w w') (hg : g < B) : Rw w' g t vs := (hb.block g hg).trans h
theorem Rw.alloc (h : Rw w g t vs) (o : Obj) : Rw (w.alloc o) g t vs := (Below.heap_alloc w o g h.lt).trans h
theorem Rw.far (h : Rw w g t vs) {p : Addr} (hp : g ≠ p.block) (u : Value) : Rw (w.setCell p u) g t vs := (Below.heap_setCell w p u g hp).trans h
/-- What a whole store leaves: block g turned, all else as it was. -/
structure Laid1 (g : Nat) (w w' : World) : Prop where
  below : Below g w w'
  other : ∀ k, k ≠ g → w'.heap[k]? = w.heap[k]?
theorem Rw.other {k : Nat} (h : Rw w k t vs) (hl : Laid1 g w w') (hk : k ≠ g) : Rw w' k t vs := (hl.other k hk).trans h
theorem Laid1.of_row (w : World) (g : Nat) (cs : Array Value) : Laid1 g w (w.setRow g cs) := ⟨⟨rfl, rfl, rfl, by simp [World.setRow], fun k hk => setRow_other w g k cs (by omega)⟩, fun k hk => setRow_other w g k cs hk⟩
theorem Laid1.of_cell (w : World) (g i : Nat) (u : Value) : Laid1 g w (w.setCell ⟨g, i, none⟩ u) := ⟨Below.setCell (p := ⟨g, i, none⟩) (Below.refl g w) (Nat.le_refl g) u, fun k hk => Below.heap_setCell w _ u k hk⟩
end
/-- Writing above B: nothing below has turned. -/
theorem Below.set {B : Nat} {w w' : World} (h : Below B w w') {p : Addr} (hp : B ≤ p.block) (u : Value) : Below B w (w'.setCell p u) := Below.setCell h hp u
theorem Ext.laid {w w' w'' : World} {g : Nat} (h : Ext w w') (hl : Laid1 g w' w'') (hg : w.heap.size ≤ g) : Ext w w'' := Below.trans h (Below.mono hl.below hg)

section
variable {P : Program} {ops : Array Oper} {rest : List Oper} {o : Oper} {a : Act} {w : World} {Q : Exit → Act → World → Prop} {R : Value → World → Prop}
/-- A whole array read. -/
theorem wpList_load_rw (hgd : o.guard = none) (ty : TypeId) (x : Operand) (ho : o.op = .load ty x) (g : Nat) (hx : a.eval x = .pointer (some ⟨g, 0, none⟩)) (t : TypeId) (vs : List Value) (hr : Rw w g t vs)
    (n : Nat) (e : TypeId) (hu : P.underlying ty = some (.array n e)) (hi : (P.info? ty).map (·.size) = some n) (hn : n = vs.length)
    (h : wpList P ops Q rest (a.put o.dst (.agg vs.toArray)) w) : wpList P ops Q (o :: rest) a w :=
  wpList_load_row hgd ty x ho g hx t vs.toArray (0, 0) _ hr hu rfl (by rw [hi, hn]; simp) h
/-- A whole array laid. -/
theorem wpList_store_rw (hgd : o.guard = none) (ty : TypeId) (x y : Operand) (ho : o.op = .store ty x y) (g : Nat) (hx : a.eval x = .pointer (some ⟨g, 0, none⟩)) (us : List Value) (hy : a.eval y = .agg us.toArray)
    (t : TypeId) (vs : List Value) (hr : Rw w g t vs) (n : Nat) (hi : (P.info? ty).map (·.size) = some n) (hn : n = us.length) (hm : vs.length = us.length) (h1 : us.all (·.oneCell') = true)
    (h : ∀ w', Rw w' g t us → Laid1 g w w' → wpList P ops Q rest (a.put o.dst undef) w') : wpList P ops Q (o :: rest) a w :=
  wpList_store_row hgd ty x y ho g us.toArray hx hy t vs.toArray hr (by rw [hi, hn]; simp) (by simpa using hm) (by simpa using h1) (h _ (setRow_heap w g _ _ t _ hr) (Laid1.of_row w g _))
theorem gives_load_rw (ty : TypeId) (x : Operand) (ho : o.op = .load ty x) (g : Nat) (hx : a.eval x = .pointer (some ⟨g, 0, none⟩)) (t : TypeId) (vs : List Value) (hr : Rw w g t vs)
    (n : Nat) (e : TypeId) (hu : P.underlying ty = some (.array n e)) (hi : (P.info? ty).map (·.size) = some n) (hn : n = vs.length) (hR : R (.agg vs.toArray) w) : gives P o a w R := by
  unfold gives execOp
  simp only [ho, hx, Instr.loadAt, Instr.sureAddr, Sem.run_bind, Sem.run_pure, Result.andThen_ok, run_loadVar_row w g t ty vs.toArray (0, 0) _ hr hu rfl (by rw [hi, hn]; simp)]
  exact hR
theorem gives_store_rw (ty : TypeId) (x y : Operand) (ho : o.op = .store ty x y) (g : Nat) (hx : a.eval x = .pointer (some ⟨g, 0, none⟩)) (us : List Value) (hy : a.eval y = .agg us.toArray)
    (t : TypeId) (vs : List Value) (hr : Rw w g t vs) (n : Nat) (hi : (P.info? ty).map (·.size) = some n) (hn : n = us.length) (hm : vs.length = us.length) (h1 : us.all (·.oneCell') = true)
    (hR : ∀ w', Rw w' g t us → Laid1 g w w' → R undef w') : gives P o a w R := by
  unfold gives execOp
  simp only [ho, hx, hy, Instr.storeAt, Instr.sureAddr, Sem.run_bind, Sem.run_pure, Result.andThen_ok, run_storeVar_row w g t ty vs.toArray us.toArray hr (by rw [hi, hn]; simp) (by simpa using hm) (by simpa using h1)]
  exact hR _ (setRow_heap w g _ _ t _ hr) (Laid1.of_row w g _)
/-- A result out of its cell. -/
theorem ret_rw {fn : Func} {p : Tmp} {ty : TypeId} {S : Ending → World → Prop} (hf : fn.results = #[.cell p ty]) (hd : a.defers = []) (g : Nat) (hp : a.tmps.getD p undef = .pointer (some ⟨g, 0, none⟩)) (t : TypeId) (vs : List Value) (hr : Rw w g t vs)
    (n : Nat) (e : TypeId) (hu : P.underlying ty = some (.array n e)) (hi : (P.info? ty).map (·.size) = some n) (hn : n = vs.length) (h : S (.returned (.agg vs.toArray)) w) : bodyPost P fn S .ret a w :=
  bodyPost_ret (results_cell_row hf a.tmps w g t vs.toArray (0, 0) _ hp hr hu rfl (by rw [hi, hn]; simp)) hd h
end

/-- Words as values. -/
def us (l : List Nat) : List Value := l.map fun (n : Nat) => .int .u32 (n : Int)
theorem us_length (l : List Nat) : (us l).length = l.length := by simp [us]
theorem us_get (l : List Nat) (i : Nat) : (us l)[i]? = l[i]?.map fun (n : Nat) => .int .u32 (n : Int) := by simp [us]
theorem us_one (l : List Nat) : (us l).all (·.oneCell') = true := by simp [us, Value.oneCell']
/-- Block g, laid for the type t, is just these words. -/
def Wds (w : World) (g : Nat) (t : TypeId) (l : List Nat) : Prop := Rw w g t (us l)
section
variable {w w' : World} {g : Nat} {t : TypeId} {l : List Nat}
theorem Wds.new (w : World) (t : TypeId) (l : List Nat) : Wds (w.alloc (.cells (us l).toArray t)) w.heap.size t l := heap_alloc_new w _
theorem Wds.lt (h : Wds w g t l) : g < w.heap.size := Rw.lt h
theorem Wds.cell (h : Wds w g t l) {i n : Nat} (hx : l[i]? = some n) : w.cell? ⟨g, i, none⟩ = some (.int .u32 (n : Int)) := Rw.cell h (by rw [us_get, hx]; rfl)
theorem Wds.frozen (h : Wds w g t l) (i : Nat) : w.frozen? ⟨g, i, none⟩ = false := Rw.frozen h i
theorem Wds.put (h : Wds w g t l) (i : Nat) {v : Int} (n : Nat) (hv : v = (n : Int)) {m : List Nat} (hm : l.set i n = m) : Wds (w.setCell ⟨g, i, none⟩ (.int .u32 v)) g t m := by
  subst hv hm
  have := Rw.set h i (.int .u32 (n : Int))
  unfold Wds us
  rw [List.map_set]
  exact this
theorem Wds.ext (h : Wds w g t l) (hx : Ext w w') : Wds w' g t l := Rw.ext h hx
theorem Wds.below {B : Nat} (h : Wds w g t l) (hb : Below B w w') (hg : g < B) : Wds w' g t l := Rw.below h hb hg
theorem Wds.far (h : Wds w g t l) {p : Addr} (hp : g ≠ p.block) (u : Value) : Wds (w.setCell p u) g t l := Rw.far h hp u
theorem Wds.other {k : Nat} (h : Wds w k t l) (hl : Laid1 g w w') (hk : k ≠ g) : Wds w' k t l := Rw.other h hl hk
end
theorem set_mid (a : List Nat) (n : Nat) (v : Nat) (k : Nat) (hk : k = a.length) (h : 0 < n) : (a ++ List.replicate n 0).set k v = (a ++ [v]) ++ List.replicate (n - 1) 0 := by
  subst hk
  obtain ⟨m, rfl⟩ : ∃ m, n = m + 1 := ⟨n - 1, by omega⟩
  rw [List.set_append_right _ _ (Nat.le_refl _), Nat.sub_self, List.replicate_succ, List.set_cons_zero]
  simp
end Go.Proofs.Ytmabminjmcjafaa
