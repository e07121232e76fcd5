/-
  Slices of bytes that read as a list; what single operations give in a region that draws its order.
-/
import Derived.Test.YtmabminjmcjafaaGrow
import Derived.Laws.IdiomStrings
import Derived.ProofKit
import Derived.OpenShut
namespace Go.Proofs.Ytmabminjmcjafaa
open Go.RowKit

/-- A number as a byte. -/
def b8 (n : Int) : UInt8 := UInt8.ofNat n.toNat
theorem b8_toNat {n : Int} (h0 : 0 ≤ n) (h1 : n < 256) : ((b8 n).toNat : Int) = n := by
  unfold b8
  rw [UInt8.toNat_ofNat']
  have : n.toNat % 2 ^ 8 = n.toNat := Nat.mod_eq_of_lt (by omega)
  rw [this]; omega
theorem b8_byte (b : UInt8) : b8 (b.toNat : Int) = b := by
  unfold b8
  rw [Int.toNat_natCast]
  exact UInt8.ofNat_toNat

/-- A list of bytes as cells. -/
def bs (l : List UInt8) : List Value := l.map fun b => .int .u8 (b.toNat : Int)
theorem bs_length (l : List UInt8) : (bs l).length = l.length := by simp [bs]
theorem bs_append (l m : List UInt8) : bs (l ++ m) = bs l ++ bs m := by simp [bs]
theorem bs_get (l : List UInt8) (j : Nat) : (bs l)[j]? = (l[j]?).map fun b => Value.int .u8 (b.toNat : Int) := by simp [bs]
theorem bs_one (l : List UInt8) : ∀ u ∈ bs l, u.oneCell' = true := by
  intro u hu
  obtain ⟨b, _, rfl⟩ := List.mem_map.1 hu
  rfl

/-- The slice at A reads, from its beginning on, as l. -/
def Rd (w : World) (A : Option Addr) (l : List UInt8) : Prop :=
  l ≠ [] → ∃ b off, A = some ⟨b, off, none⟩ ∧ ∀ j u, l[j]? = some u → w.cell? ⟨b, off + j, none⟩ = some (.int .u8 (u.toNat : Int))

theorem add_flat (b off j : Nat) : (⟨b, off, none⟩ : Addr).add j = ⟨b, off + j, none⟩ := by unfold Addr.add; split <;> simp_all

section
variable {w w' : World} {A : Option Addr} {l : List UInt8}
theorem Rd.nil (w : World) (A : Option Addr) : Rd w A [] := fun h => absurd rfl h
theorem Rd.ext (h : Rd w A l) (hx : Ext w w') : Rd w' A l := fun hn => by
  obtain ⟨b, off, hA, hc⟩ := h hn
  refine ⟨b, off, hA, fun j u hu => ?_⟩
  have := hc j u hu
  rw [Below.cell hx (World.block_lt_of_cell? w _ this)]
  exact this
theorem Rd.keep (h : Rd w A l) (hx : Keeps w w') : Rd w' A l := fun hn => by
  obtain ⟨b, off, hA, hc⟩ := h hn
  exact ⟨b, off, hA, fun j u hu => hx.cell (hc j u hu)⟩
theorem Rd.at (h : Rd w A l) {k : Nat} (hk : k < l.length) : ∃ b off u, A = some ⟨b, off, none⟩ ∧ l[k]? = some u ∧ w.cell? ⟨b, off + k, none⟩ = some (.int .u8 (u.toNat : Int)) := by
  obtain ⟨b, off, hA, hc⟩ := h (by intro e; subst e; simp at hk)
  exact ⟨b, off, l[k], hA, List.getElem?_eq_getElem hk, hc k _ (List.getElem?_eq_getElem hk)⟩
theorem Rd.of_own {base e : Nat} {c : Nat} (h : w.ownsRow base e 1 (.slice A l.length c) l.length (bs l)) : Rd w A l := fun hn => by
  have hp : 0 < l.length := List.length_pos_iff.2 hn
  rcases h.2 with ⟨_, h0⟩ | ⟨g, cap, cur, hv, _⟩
  · omega
  · injection hv with hA
    subst hA
    refine ⟨g, 0, rfl, fun j u hu => ?_⟩
    have := h.cells (g := g) rfl j (.int .u8 (u.toNat : Int)) (by rw [bs_get, hu]; rfl)
    rw [add_flat] at this
    exact this
theorem Rd.drop {a : Addr} (h : Rd w (some a) l) (k : Nat) : Rd w (some (a.add k)) (l.drop k) := fun hn => by
  obtain ⟨b, off, hA, hc⟩ := h (by intro e; subst e; simp at hn)
  injection hA with hA
  subst hA
  refine ⟨b, off + k, by rw [add_flat], fun j u hu => ?_⟩
  rw [Nat.add_assoc]
  exact hc _ u (by rw [← hu, List.getElem?_drop])
theorem Rd.take (h : Rd w A l) (k : Nat) : Rd w A (l.take k) := fun hn => by
  obtain ⟨b, off, hA, hc⟩ := h (by intro e; subst e; simp at hn)
  refine ⟨b, off, hA, fun j u hu => hc j u ?_⟩
  rw [List.getElem?_take] at hu
  split at hu
  · exact hu
  · cases hu
theorem Rd.cells (h : Rd w A l) {a : Addr} (hA : A = some a) (hn : l ≠ []) : ∀ j u, (bs l)[j]? = some u → w.cell? (a.add j) = some u := by
  intro j u hu
  obtain ⟨b, off, hA', hc⟩ := h hn
  rw [hA] at hA'
  injection hA' with hA'
  subst hA'
  rw [bs_get] at hu
  cases hl : l[j]? with
  | none => rw [hl] at hu; cases hu
  | some x =>
    rw [hl] at hu
    injection hu with hu
    subst hu
    rw [add_flat]
    exact hc j x hl

/-- 'string(p)'. -/
theorem Rd.str {P : Program} (h : Rd w A l) (src dst e c : Nat) (hs : P.underlying src = some (.slice e)) (he : P.underlying e = some (.int .u8)) (hd : P.underlying dst = some .string) :
    (convert src dst (.slice A l.length c)).run P w = .ok (.string ⟨l.toArray⟩) w := by
  rcases A with _ | a
  · have hl : l = [] := by
      cases l with
      | nil => rfl
      | cons x xs => obtain ⟨_, _, hA, _⟩ := h (by simp); cases hA
    subst hl
    rw [run_convert_bytes_string w src dst e none _ c hs he hd]
    simp [Conv.bytesToString]
    rfl
  · refine run_convert_bytes_back w src dst e a c l hs he hd fun j hj => ?_
    exact h.cells rfl (by intro e; subst e; simp at hj) j _ (by rw [bs_get, List.getElem?_eq_getElem hj]; rfl)
end

/-- What a call hands back: a slice that reads as l. -/
def Bytes (l : List UInt8) (w : World) (v : Value) : Prop := ∃ A c, v = .slice A l.length c ∧ l.length ≤ c ∧ Rd w A l
theorem Bytes.ext {l : List UInt8} {w w' : World} {v : Value} (h : Bytes l w v) (hx : Ext w w') : Bytes l w' v := by
  obtain ⟨A, c, hv, hc, hr⟩ := h
  exact ⟨A, c, hv, hc, hr.ext hx⟩
theorem Rd.newf (w : World) (t : TypeId) (l : List UInt8) (rest : List Value) (fr : Nat × Nat) : Rd (w.alloc (.cells (bs l ++ rest).toArray t fr)) (some ⟨w.heap.size, 0, none⟩) l := fun _ => by
  refine ⟨w.heap.size, 0, rfl, fun j u hu => ?_⟩
  rw [cell_of_row _ w.heap.size (0 + j) _ t fr (heap_alloc_new w _)]
  have hj : j < (bs l).length := by
    rw [bs_length]
    rcases Nat.lt_or_ge j l.length with h | h
    · exact h
    · rw [List.getElem?_eq_none h] at hu; cases hu
  rw [Nat.zero_add, List.getElem?_toArray, List.getElem?_append_left hj, bs_get, hu]
  rfl
theorem Rd.new (w : World) (t : TypeId) (l : List UInt8) (rest : List Value) : Rd (w.alloc (.cells (bs l ++ rest).toArray t)) (some ⟨w.heap.size, 0, none⟩) l := Rd.newf w t l rest (0, 0)
/-- A block whose cells are the bytes of l. -/
theorem Bytes.new (w : World) (t : TypeId) (l : List UInt8) (cs : Array Value) (h : cs = (bs l).toArray) {n c : Nat} (hn : n = l.length) (hc : n ≤ c) : Bytes l (w.alloc (.cells cs t)) (.slice (some ⟨w.heap.size, 0, none⟩) n c) := by
  subst h hn
  have := Rd.new w t l []
  rw [List.append_nil] at this
  exact ⟨_, _, rfl, hc, this⟩
theorem Bytes.own {w : World} {base e : Nat} {v : Value} {l : List UInt8} (h : w.ownsRow base e 1 v l.length (bs l)) : Bytes l w v := by
  rcases h.2 with ⟨rfl, h0⟩ | ⟨g, cap, cur, rfl, _, _, hnc, _⟩
  · have hl : l = [] := List.length_eq_zero_iff.1 h0
    subst hl
    exact ⟨none, 0, rfl, Nat.le_refl _, Rd.nil _ _⟩
  · exact ⟨_, cap, rfl, hnc, Rd.of_own (base := base) (e := e) (c := cap) h⟩
theorem hide {p : Prop} (h : p) : Hid p := h
/-- What a call leaves: a value of which S holds, and a world that extends the one it began in. -/
def Ret (w : World) (S : World → Value → Prop) (e : Ending) (w' : World) : Prop := ∃ v, e = .returned v ∧ Ext w w' ∧ S w' v
theorem Ret.mk {w w' : World} {S : World → Value → Prop} {v : Value} (hx : Ext w w') (hS : S w' v) : Ret w S (.returned v) w' := ⟨v, rfl, hx, hS⟩
theorem Bytes.keep {l : List UInt8} {w w' : World} {v : Value} (h : Bytes l w v) (hx : Keeps w w') : Bytes l w' v := by
  obtain ⟨A, c, hv, hc, hr⟩ := h
  exact ⟨A, c, hv, hc, hr.keep hx⟩
/-- Just this value. -/
def Is (x : Value) (_ : World) (v : Value) : Prop := v = x

def Sp.bytes (l : List UInt8) : Sp := ⟨Bytes l, fun _ _ _ h hx => h.keep hx⟩

section
variable {P : Program} {ops : Array Oper} {o : Oper} {a : Act} {w : World} {R : Value → World → Prop}

theorem ev {d : Nat} {v : Value} (h : a.tmps[d]? = some v) : a.eval (.tmp d) = v := by simp [Act.eval, h]

theorem wanted_none (hg : o.guard = none) : Region.wanted o (yielded ops a.tmps) = true := by simp [Region.wanted, hg]
theorem wanted_yes {k d : Nat} {b : Bool} (o' : Oper) (hg : o.guard = some (k, b)) (hk : ops[k]? = some o') (hd : o'.dst = some d) (hv : a.tmps[d]? = some (.bool b)) : Region.wanted o (yielded ops a.tmps) = true := by
  simp [Region.wanted, hg, yielded, hk, hd, hv]
theorem wanted_no {k d : Nat} {b : Bool} (o' : Oper) (hg : o.guard = some (k, b)) (hk : ops[k]? = some o') (hd : o'.dst = some d) (hv : a.tmps[d]? = some (.bool !b)) : Region.wanted o (yielded ops a.tmps) = false := by
  simp [Region.wanted, hg, yielded, hk, hd, hv]

theorem gives_of_run {v : Value} {w' : World} (h : (execOp a.eval o).run P w = .ok (.value v) w') (hR : R v w') : gives P o a w R := by unfold gives; rw [h]; exact hR
theorem gives_move {x : Operand} (h : o.op = .move x) (hR : R (a.eval x) w) : gives P o a w R := gives_of_run (w' := w) (v := a.eval x) (by simp [execOp, h]) hR
theorem gives_assign {x : Operand} (h : o.op = .assign x) (hR : R (a.eval x) w) : gives P o a w R := gives_of_run (w' := w) (v := a.eval x) (by simp [execOp, h]) hR
/-- A slice of bytes of the call's own whose row is known, so that it may be marked. -/
def Row (e : Nat) (B : Nat) (l : List UInt8) (w : World) (v : Value) : Prop := ∃ g fr, v = .slice (some ⟨g, 0, none⟩) l.length l.length ∧ B ≤ g ∧ w.heap[g]? = some (.cells (bs l).toArray e fr)
theorem Row.keep {e B : Nat} {l : List UInt8} {w w' : World} {v : Value} (h : Row e B l w v) (hx : Keeps w w') : Row e B l w' v := by
  obtain ⟨g, fr, hv, hB, hg⟩ := h
  obtain ⟨fr', hg'⟩ := hx.cells hg
  exact ⟨g, fr', hv, hB, hg'⟩
def Sp.row (e B : Nat) (l : List UInt8) : Sp := ⟨Row e B l, fun _ _ _ h hx => h.keep hx⟩
theorem Row.bytes {e B : Nat} {l : List UInt8} {w : World} {v : Value} (h : Row e B l w v) : Bytes l w v := by
  obtain ⟨g, fr, rfl, hB, hg⟩ := h
  refine ⟨_, _, rfl, Nat.le_refl _, fun _ => ⟨g, 0, rfl, fun j u hu => ?_⟩⟩
  rw [cell_of_row w g (0 + j) _ e fr hg, Nat.zero_add, List.getElem?_toArray, bs_get, hu]
  rfl
/-- '[]byte("..")': a literal's row, marked. -/
theorem gives_marked {t e B : Nat} {x : Operand} {l : List UInt8} (h : o.op = .convert t t x) (ht : P.underlying t = some (.slice e)) (he : P.underlying e = some (.int .u8)) (hx : Row e B l w (a.eval x))
    (hR : ∀ v w', Grw B w w' → Row e B l w' v → R v w') : gives P o a w R := by
  obtain ⟨g, fr, hv, hB, hg⟩ := hx
  have hsh : w.shape? g = some (e, (bs l).toArray.size) := by unfold World.shape?; rw [hg]
  refine gives_of_run (v := .slice (some ⟨g, 0, none⟩) l.length l.length) (w' := w.freeze ⟨g, (bs l).toArray.size, none⟩ 1) ?_ ?_
  · simp [execOp, h, hv, convert, run_underlying ht, run_underlying he, markStringish, hsh]
  · have hfg : ∀ k, k ≠ g → (w.freeze ⟨g, (bs l).toArray.size, none⟩ 1).heap[k]? = w.heap[k]? := fun k hk => by
      simp only [World.freeze, if_neg (show ¬ (1 : Nat) = 0 by decide), Array.getElem?_modify]
      rw [if_neg (fun e => hk e.symm)]
    have hgg : ∃ fr', (w.freeze ⟨g, (bs l).toArray.size, none⟩ 1).heap[g]? = some (.cells (bs l).toArray e fr') := by
      obtain ⟨lo, hi⟩ := fr
      simp only [World.freeze, if_neg (show ¬ (1 : Nat) = 0 by decide), Array.getElem?_modify, if_true, hg, Option.map_some]
      exact ⟨_, rfl⟩
    have hsz : (w.freeze ⟨g, (bs l).toArray.size, none⟩ 1).heap.size = w.heap.size := by simp [World.freeze]
    refine hR _ _ ⟨⟨rfl, rfl, rfl, by rw [hsz]; exact Nat.le_refl _, fun k hk => hfg k (by omega)⟩, fun k ob hob => ?_⟩ ?_
    · by_cases hk : k = g
      · subst hk
        obtain ⟨fr', h'⟩ := hgg
        rw [hg] at hob
        injection hob with hob
        exact .inr ⟨_, _, fr, fr', hob.symm, h'⟩
      · exact .inl (by rw [hfg k hk]; exact hob)
    · obtain ⟨fr', h'⟩ := hgg
      exact ⟨g, fr', rfl, hB, h'⟩
theorem Ret.grw {w w' : World} {S : World → Value → Prop} {e : Ending} {B : Nat} (h : Ret w S e w') (hB : B ≤ w.heap.size) : ∃ v, e = .returned v ∧ Grw B w w' ∧ S w' v := by
  obtain ⟨v, he, hx, hS⟩ := h
  exact ⟨v, he, Grw.of_ext hx hB, hS⟩
theorem gives_pick {c x y : Operand} (b : Bool) (h : o.op = .pick c x y) (hc : a.eval c = .bool b) (hR : R (a.eval (if b then x else y)) w) : gives P o a w R := by
  refine gives_of_run (w' := w) (v := a.eval (if b then x else y)) ?_ hR
  cases b <;> simp [execOp, h, hc, asBool]
theorem gives_extract {x : Operand} {i : Nat} (vs : Array Value) (h : o.op = .extract x i) (hx : a.eval x = .tuple vs) {v : Value} (hv : vs[i]? = some v) (hR : R v w) : gives P o a w R := by
  refine gives_of_run (w' := w) (v := v) ?_ hR
  simp [execOp, h, hx, Instr.extract, hv]
theorem gives_str {src dst e : Nat} {x : Operand} (l : List UInt8) (h : o.op = .convert src dst x) (hs : P.underlying src = some (.slice e)) (he : P.underlying e = some (.int .u8)) (hd : P.underlying dst = some .string)
    (hx : Bytes l w (a.eval x)) (hR : R (.string ⟨l.toArray⟩) w) : gives P o a w R := by
  obtain ⟨A, c, hv, _, hr⟩ := hx
  refine gives_of_run (w' := w) (v := .string ⟨l.toArray⟩) ?_ hR
  simp [execOp, h, hv, hr.str src dst e c hs he hd]
theorem gives_bin {op : BinOp} {xt yt : Nat} {x y : Operand} {u v z : Value} (h : o.op = .binOp op xt x y yt) (hx : a.eval x = u) (hy : a.eval y = v)
    (hg : (eqGuard op xt x y u v).run P w = .ok () w) (hz : (binOp op xt u v).run P w = .ok z w) (hR : R z w) : gives P o a w R := by
  refine gives_of_run (w' := w) (v := z) ?_ hR
  simp [execOp, h, hx, hy, hg, hz]
theorem gives_eql_str {xt yt : Nat} {x y : Operand} (l m : List UInt8) (h : o.op = .binOp .eql xt x y yt) (hx : a.eval x = .string ⟨l.toArray⟩) (hy : a.eval y = .string ⟨m.toArray⟩) (hR : R (.bool (l == m)) w) : gives P o a w R :=
  gives_bin h hx hy (by simp [go_sem]) (by simp [go_sem]) hR
theorem gives_eql_int {xt yt : Nat} {x y : Operand} {k : IntKind} (m n : Int) (h : o.op = .binOp .eql xt x y yt) (hx : a.eval x = .int k m) (hy : a.eval y = .int k n) (hR : R (.bool (m == n)) w) : gives P o a w R :=
  gives_bin h hx hy (by simp [go_sem]) (by simp [go_sem]) hR
theorem gives_call {f : Nat} {xs : Array Operand} {ats : Array TypeId} {args : Array Value} (h : o.op = .call { callee := .value (.func f), args := xs, argTypes := ats })
    (hcf : ∀ args w, (callFunc f args).run P w = .ok (.enter f args) w) (ha : xs.map a.eval = args)
    (hC : Calls P f args w fun e w' => ∃ v, e = .returned v ∧ R v w') : gives P o a w R := by
  have hr : (execOp a.eval o).run P w = .ok (.enter f args) w := by
    obtain ⟨dst, op, type, pos, after, guard⟩ := o
    subst h
    rw [execOp_call_go, ha]
    simp [hcf]
  unfold gives
  rw [hr]
  exact hC
end
end Go.Proofs.Ytmabminjmcjafaa
