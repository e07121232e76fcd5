/-
  Plain functions of layer 2 (octet): what numbers and texts are as bytes. No program is spoken of.
  A block of bytes that the call itself made and writes into in place.
  More of what single operations give in a region that draws its order.
  A block of cells that the call itself made: read and written whole and cell by cell; words in such a block.
  Contracts of the library's functions at this program, laid by the shelf's command in its plain mode.
  Values as they are meant.
  The calls of layer 2 on numbers, and the document's own: what they hand back.
  Reading a signed number.
  Texts as bytes: the call, and the document's own.
  'append(p, s...)', p a slice of bytes of the call's own, s a text.
  Values in rows and in keys.
-/
import Derived.Laws.CopyOwn
import Derived.WalkLawsBesides
import Derived.Deep.WholeRow
import Derived.Shelf.Lay
import Derived.Shelf.LaySoft
import Derived.Shelf.Small.Strs
import Derived.Shelf.Strings.Search1
import Derived.Shelf.Unicode.ValidAny
import Derived.Test.YtpdikmcaihlbaaaDoorProg
import Derived.Lib.AppendStr
import Derived.Test.YtpdikmcaihlbaaaDoorPkCdE20
set_option linter.unusedVariables false
set_option linter.unusedSimpArgs false

namespace Go.Proofs.YtpdikmcaihlbaaaDoor

/-- The eight bytes of a number, the highest first. -/
def be64 (u : Int) : List UInt8 :=
  [b8 (u / 72057594037927936 % 256), b8 (u / 281474976710656 % 256), b8 (u / 1099511627776 % 256), b8 (u / 4294967296 % 256),
   b8 (u / 16777216 % 256), b8 (u / 65536 % 256), b8 (u / 256 % 256), b8 (u % 256)]
theorem be64_length (u : Int) : (be64 u).length = 8 := rfl
theorem be64_cells (u : Int) (h0 : 0 ≤ u) (h1 : u < 18446744073709551616) : bs (be64 u) =
    [.int .u8 (u / 72057594037927936), .int .u8 (u / 281474976710656 % 256), .int .u8 (u / 1099511627776 % 256), .int .u8 (u / 4294967296 % 256),
     .int .u8 (u / 16777216 % 256), .int .u8 (u / 65536 % 256), .int .u8 (u / 256 % 256), .int .u8 (u % 256)] := by
  have e : u / 72057594037927936 % 256 = u / 72057594037927936 := by omega
  unfold be64 bs
  simp only [List.map_cons, List.map_nil]
  rw [b8_toNat (by omega) (by omega), b8_toNat (by omega) (by omega), b8_toNat (by omega) (by omega), b8_toNat (by omega) (by omega), b8_toNat (by omega) (by omega),
    b8_toNat (by omega) (by omega), b8_toNat (by omega) (by omega), b8_toNat (by omega) (by omega), e]

/-- The number that bytes are, the highest first. -/
def num (l : List UInt8) : Int := l.foldl (fun a b => a * 256 + (b.toNat : Int)) 0
theorem num_snoc (l : List UInt8) (b : UInt8) : num (l ++ [b]) = num l * 256 + (b.toNat : Int) := by simp [num]
theorem num_from (l : List UInt8) : ∀ a : Int, 0 ≤ a → 0 ≤ l.foldl (fun a b => a * 256 + (b.toNat : Int)) a ∧ l.foldl (fun a b => a * 256 + (b.toNat : Int)) a < (a + 1) * 256 ^ l.length := by
  induction l with
  | nil => intro a h; simp; omega
  | cons b l ih =>
    intro a h
    have hb := b.toNat_lt
    have := ih (a * 256 + (b.toNat : Int)) (by omega)
    refine ⟨this.1, Int.lt_of_lt_of_le this.2 ?_⟩
    rw [List.length_cons, Int.pow_succ, Int.mul_comm (256 ^ l.length) 256, ← Int.mul_assoc]
    exact Int.mul_le_mul_of_nonneg_right (by omega) (Int.le_of_lt (Int.pow_pos (by omega)))
theorem num_bound (l : List UInt8) : 0 ≤ num l ∧ num l < 256 ^ l.length := by
  have := num_from l 0 (by omega)
  unfold num
  simpa using this
theorem num_be64 (u : Int) (h0 : 0 ≤ u) (h1 : u < 18446744073709551616) : num (be64 u) = u := by
  unfold num be64
  simp only [List.foldl_cons, List.foldl_nil]
  rw [b8_toNat (by omega) (by omega), b8_toNat (by omega) (by omega), b8_toNat (by omega) (by omega), b8_toNat (by omega) (by omega), b8_toNat (by omega) (by omega),
    b8_toNat (by omega) (by omega), b8_toNat (by omega) (by omega), b8_toNat (by omega) (by omega)]
  omega

theorem num_step (l : List UInt8) (k j : Nat) (x : UInt8) (h : l[k + j]? = some x) : num ((l.drop k).take (j + 1)) = num ((l.drop k).take j) * 256 + (x.toNat : Int) := by
  have h' : (l.drop k)[j]? = some x := by rw [List.getElem?_drop]; exact h
  rw [List.take_add_one, h', Option.toList_some, num_snoc]
theorem num_take_lt (l : List UInt8) (j : Nat) (h : j ≤ 7) : num (l.take j) < 72057594037927936 := by
  have h1 := (num_bound (l.take j)).2
  have h3 : 256 ^ (l.take j).length ≤ 256 ^ 7 := Nat.pow_le_pow_right (by omega) (Nat.le_trans (List.length_take_le _ _) h)
  have h2 : ((256 ^ (l.take j).length : Nat) : Int) ≤ ((256 ^ 7 : Nat) : Int) := Int.ofNat_le.2 h3
  rw [Int.natCast_pow] at h2
  have h4 : ((256 ^ 7 : Nat) : Int) = 72057594037927936 := by decide
  have h5 : (256 : Int) ^ (l.take j).length ≤ 72057594037927936 := by rw [← h4]; exact h2
  exact Int.lt_of_lt_of_le h1 h5
theorem num_take_lt8 (l : List UInt8) : 0 ≤ num (l.take 8) ∧ num (l.take 8) < 18446744073709551616 := by
  have h := num_bound (l.take 8)
  have h3 : 256 ^ (l.take 8).length ≤ 256 ^ 8 := Nat.pow_le_pow_right (by omega) (List.length_take_le _ _)
  have h2 : ((256 ^ (l.take 8).length : Nat) : Int) ≤ ((256 ^ 8 : Nat) : Int) := Int.ofNat_le.2 h3
  rw [Int.natCast_pow] at h2
  have h4 : ((256 ^ 8 : Nat) : Int) = 18446744073709551616 := by decide
  have h5 : (256 : Int) ^ (l.take 8).length ≤ 18446744073709551616 := by rw [← h4]; exact h2
  exact ⟨h.1, Int.lt_of_lt_of_le h.2 h5⟩
theorem or_low (a b : Nat) (hb : b < 256) : a * 256 ||| b = a * 256 + b := by
  have := Nat.shiftLeft_add_eq_or_of_lt (i := 8) (b := b) (by omega) a
  rw [Nat.shiftLeft_eq] at this
  exact this.symm
theorem or_byte (a b : Int) (ha0 : 0 ≤ a) (ha1 : a < 72057594037927936) (hb0 : 0 ≤ b) (hb1 : b < 256) :
    bits .or .u64 (IntKind.u64.wrap (a * 256)) (IntKind.u64.wrap b) = a * 256 + b := by
  have e1 : IntKind.u64.wrap (a * 256) = ((a.toNat * 256 : Nat) : Int) := by rw [IntKind.wrap_u64]; omega
  have e2 : IntKind.u64.wrap b = ((b.toNat : Nat) : Int) := by rw [IntKind.wrap_u64]; omega
  rw [e1, e2]
  show IntKind.u64.wrap ((BitVec.ofInt 64 ((a.toNat * 256 : Nat) : Int) ||| BitVec.ofInt 64 ((b.toNat : Nat) : Int)).toNat : Int) = _
  rw [BitVec.toNat_or, BitVec.ofInt_natCast, BitVec.ofInt_natCast, BitVec.toNat_ofNat, BitVec.toNat_ofNat,
    Nat.mod_eq_of_lt (show a.toNat * 256 < 2 ^ 64 by omega), Nat.mod_eq_of_lt (show b.toNat < 2 ^ 64 by omega), or_low _ _ (by omega), IntKind.wrap_u64]
  omega

/-- A text's bytes with ff behind each 00. -/
def esc : List UInt8 → List UInt8
  | [] => []
  | b :: l => if b = 0 then 0 :: 255 :: esc l else b :: esc l
theorem esc_append (l m : List UInt8) : esc (l ++ m) = esc l ++ esc m := by
  induction l with
  | nil => rfl
  | cons b l ih => simp only [List.cons_append, esc]; split <;> simp [ih]
theorem esc_length (l : List UInt8) : l.length ≤ (esc l).length ∧ (esc l).length ≤ 2 * l.length := by
  induction l with
  | nil => simp [esc]
  | cons b l ih => simp only [esc]; split <;> simp <;> omega
/-- A text as bytes. -/
def text (l : List UInt8) : List UInt8 := esc l ++ [0, 1]
end Go.Proofs.YtpdikmcaihlbaaaDoor
namespace Go.Proofs.YtpdikmcaihlbaaaDoor
open Go.RowKit

/-- Block g is just the bytes l. -/
def Blk (w : World) (g : Nat) (l : List UInt8) : Prop := w.heap[g]? = some (.cells (bs l).toArray 5 (0, 0))

theorem madeCells_zero (n : Nat) : madeCells #[.int .u8 0] n = (bs (List.replicate n 0)).toArray := by
  apply Array.ext'
  apply List.ext_getElem?
  intro i
  simp [madeCells, bs]
  by_cases h : i < n
  · simp [h, Nat.mod_one]
  · simp [h]
theorem info_size : (Tryd.prog.info? 5).map (·.size) = some 1 := by kernel_rfl

section
variable {w w' : World} {g : Nat} {l : List UInt8}
theorem Blk.made (w : World) (n : Nat) : Blk (w.alloc (.cells (madeCells #[.int .u8 0] n) 5)) w.heap.size (List.replicate n 0) := by
  unfold Blk
  rw [madeCells_zero]
  exact heap_alloc_new w _
theorem Blk.lt (h : Blk w g l) : g < w.heap.size := by
  rcases Nat.lt_or_ge g w.heap.size with h' | h'
  · exact h'
  · unfold Blk at h; rw [Array.getElem?_eq_none h'] at h; cases h
theorem Blk.cell (h : Blk w g l) {i : Nat} {x : UInt8} (hx : l[i]? = some x) : w.cell? ⟨g, i, none⟩ = some (.int .u8 (x.toNat : Int)) := by
  rw [cell_of_row w g i _ _ (0, 0) h, List.getElem?_toArray, bs_get, hx]
  rfl
theorem Blk.frozen (h : Blk w g l) (i : Nat) : w.frozen? ⟨g, i, none⟩ = false := by
  unfold Blk at h
  simp [World.frozen?, h]
theorem Blk.set (h : Blk w g l) (i : Nat) (n : Int) (h0 : 0 ≤ n) (h1 : n < 256) : Blk (w.setCell ⟨g, i, none⟩ (.int .u8 n)) g (l.set i (b8 n)) := by
  unfold Blk at h ⊢
  have e : (bs (l.set i (b8 n))).toArray = (bs l).toArray.setIfInBounds i (.int .u8 n) := by
    rw [List.setIfInBounds_toArray]
    congr 1
    unfold bs
    rw [List.map_set, b8_toNat h0 h1]
  rw [e]
  simp [World.setCell, Array.getElem?_modify, h]
theorem Blk.alloc (h : Blk w g l) (o : Obj) : Blk (w.alloc o) g l := (Below.heap_alloc w o g h.lt).trans h
theorem Blk.ext (h : Blk w g l) (hx : Ext w w') : Blk w' g l := (Below.block hx g h.lt).trans h
theorem Blk.below {B : Nat} (h : Blk w g l) (hb : Below B w w') (hg : g < B) : Blk w' g l := (hb.block g hg).trans h
theorem Blk.far (h : Blk w g l) {p : Addr} (hp : g ≠ p.block) (u : Value) : Blk (w.setCell p u) g l := (Below.heap_setCell w p u g hp).trans h
theorem Blk.rd (h : Blk w g l) : Rd w (some ⟨g, 0, none⟩) l := fun _ => ⟨g, 0, rfl, fun j u hu => by rw [Nat.zero_add]; exact h.cell hu⟩
theorem Blk.bytes (h : Blk w g l) {n c : Nat} (hn : n = l.length) (hc : n ≤ c) : Bytes l w (.slice (some ⟨g, 0, none⟩) n c) := by
  subst hn
  exact ⟨_, _, rfl, hc, h.rd⟩
/-- What stands at the block's cells, from a place on. -/
theorem Blk.rdAt (h : Blk w g l) (k : Nat) : Rd w (some ⟨g, k, none⟩) (l.drop k) := fun _ => ⟨g, k, rfl, fun j u hu => by rw [List.getElem?_drop] at hu; exact h.cell hu⟩
end

theorem run_make_bytes (n : Nat) (hn : n ≤ 281474976710656) (W : World) : (Instr.makeSlice 27 (.int .i64 (n : Int)) (.int .i64 (n : Int))).run Tryd.prog W =
    .ok (.slice (some ⟨W.heap.size, 0, none⟩) n n) (W.alloc (.cells (madeCells #[.int .u8 0] n) 5)) := by
  obtain ⟨i0, hi, hz0, hz1, hz2⟩ := info_parts info_u8
  have h := run_make (P := Tryd.prog) W 27 5 i0 (.int .u8 0) Tryd.underlying27 hi hz0 .i64 .i64 (n : Int) (n : Int) (by omega) (by omega) (by rw [hz2]; omega) (by omega)
  simpa [hz1, Value.cells] using h

/-- m laid over l from a place on. -/
def over (l : List UInt8) (off : Nat) (m : List UInt8) : List UInt8 := l.take off ++ (m ++ l.drop (off + m.length))
theorem over_length (l : List UInt8) (off : Nat) (m : List UInt8) (h : off + m.length ≤ l.length) : (over l off m).length = l.length := by simp [over]; omega

/-- 'copy(d, s)', d within a block of the call's own. -/
theorem wpList_copy {w : World} {ops : Array Oper} {rest : List Oper} {o : Oper} {a : Act} {Q : Exit → Act → World → Prop} (hgd : o.guard = none) (d s : Operand)
    (ho : o.op = .call { callee := .builtin .copy, args := #[d, s], argTypes := #[27, 27] })
    (g off dLen dCap : Nat) (A : Option Addr) (n c : Nat) (hd : a.eval d = .slice (some ⟨g, off, none⟩) dLen dCap) (hs : a.eval s = .slice A n c) (l m : List UInt8) (hn : n = m.length)
    (hg : Blk w g l) (hr : Rd w A m) (hfit : off + min m.length dLen ≤ l.length) (B : Nat) (hBg : B ≤ g)
    (h : ∀ w', Blk w' g (over l off (m.take dLen)) → Below B w w' → wpList Tryd.prog ops Q rest (a.put o.dst (goInt ((min m.length dLen : Nat) : Int))) w') : wpList Tryd.prog ops Q (o :: rest) a w := by
  subst hn
  have hlen : (bs (m.take dLen)).length = Nat.min m.length dLen := by rw [bs_length, List.length_take, Nat.min_comm]
  have e : goInt (bs (m.take dLen)).length = goInt ((min m.length dLen : Nat) : Int) := by rw [hlen]
  refine wpList_copy_splice hgd d s 27 27 ho 5 Tryd.underlying27 info_size (some ⟨g, off, none⟩) A dLen dCap m.length c hd hs g off (bs l) 5 hg (bs (m.take dLen)) hlen ?_ ?_ (bs_one _) B w (Below.refl _ _) hBg ?_
  · intro hp
    refine ⟨rfl, ?_⟩
    have hne : m.take dLen ≠ [] := by intro e; rw [e] at hp; simp [bs] at hp
    obtain ⟨b, o2, hA, hc⟩ := (hr.take dLen) hne
    exact ⟨_, hA, (hr.take dLen).cells hA hne⟩
  · rw [hlen, bs_length]; exact hfit
  · intro w' hw' hb'
    rw [e]
    refine h w' ?_ hb'
    have hw := hw'.out
    have e2 : splice (bs l) off (bs (m.take dLen)) = bs (over l off (m.take dLen)) := by
      unfold splice over bs
      simp only [List.map_append, List.map_take, List.map_drop, List.length_map, List.length_take]
    rw [e2] at hw
    exact hw
end Go.Proofs.YtpdikmcaihlbaaaDoor
namespace Go.Proofs.YtpdikmcaihlbaaaDoor
open Go.RowKit

theorem Ext.drewN {w W : World} (h : Ext w W) (n : Nat) : Ext w (W.drewN n) := ⟨h.os, h.tape, h.output, h.size, h.block⟩

theorem Rd.drewN {w : World} {A : Option Addr} {l : List UInt8} (h : Rd w A l) (n : Nat) : Rd (w.drewN n) A l := h.ext ((Ext.refl w).drewN n)

section
variable {P : Program} {ops : Array Oper} {o : Oper} {a : Act} {w : World} {R : Value → World → Prop}
theorem gives_lss_int {xt yt : Nat} {x y : Operand} {k : IntKind} (m n : Int) (h : o.op = .binOp .lss xt x y yt) (hx : a.eval x = .int k m) (hy : a.eval y = .int k n) (hR : R (.bool (decide (m < n))) w) : gives P o a w R :=
  gives_bin h hx hy (by simp [go_sem]) (by simp [go_sem]) hR
theorem gives_lss_str {xt yt : Nat} {x y : Operand} (l m : List UInt8) (h : o.op = .binOp .lss xt x y yt) (hx : a.eval x = .string ⟨l.toArray⟩) (hy : a.eval y = .string ⟨m.toArray⟩) (hR : R (.bool (Op.bytesLess l m)) w) : gives P o a w R :=
  gives_bin h hx hy (by simp [go_sem]) (by simp [go_sem]) hR
theorem gives_geq_int {xt yt : Nat} {x y : Operand} {k : IntKind} (m n : Int) (h : o.op = .binOp .geq xt x y yt) (hx : a.eval x = .int k m) (hy : a.eval y = .int k n) (hR : R (.bool (decide (n ≤ m))) w) : gives P o a w R :=
  gives_bin h hx hy (by simp [go_sem]) (by simp [go_sem]) hR
theorem gives_gtr_int {xt yt : Nat} {x y : Operand} {k : IntKind} (m n : Int) (h : o.op = .binOp .gtr xt x y yt) (hx : a.eval x = .int k m) (hy : a.eval y = .int k n) (hR : R (.bool (decide (n < m))) w) : gives P o a w R :=
  gives_bin h hx hy (by simp [go_sem]) (by simp [go_sem]) hR
theorem gives_eql_bool {xt yt : Nat} {x y : Operand} (p q : Bool) (hu : P.underlying xt = some .bool) (h : o.op = .binOp .eql xt x y yt) (hx : a.eval x = .bool p) (hy : a.eval y = .bool q) (hR : R (.bool (p == q)) w) : gives P o a w R :=
  gives_bin h hx hy (by simp [go_sem]) (by simp [go_sem, hu]) hR
theorem gives_not {xt : Nat} {x : Operand} (p : Bool) (h : o.op = .unOp .not xt x) (hx : a.eval x = .bool p) (hR : R (.bool !p) w) : gives P o a w R := by
  refine gives_of_run (w' := w) (v := .bool !p) ?_ hR
  have e : (execOp a.eval o).run P w = ((Op.unary .not (a.eval x)).run P w).andThen fun v w' => .ok (.value v) w' := by simp [execOp, h]
  rw [e, hx]
  simp [go_sem]
theorem gives_len {x : Operand} {t : Nat} {A : Option Addr} {n c : Nat} (h : o.op = .call { callee := .builtin .len, args := #[x], argTypes := #[t] }) (ht : ∃ e, P.underlying t = some (.slice e)) (hx : a.eval x = .slice A n c) (hR : R (.int .i64 (n : Int)) w) : gives P o a w R := by
  obtain ⟨e, ht⟩ := ht
  have hlen : (Builtin.len_ #[t] o.type #[.slice A n c]).run P w = .ok (.int .i64 (n : Int)) w := by simp [go_sem, ht]
  refine gives_of_run (w' := w) (v := .int .i64 (n : Int)) ?_ hR
  unfold execOp
  simp only [h, resolve, invoke, builtin, Sem.run_bind, Sem.run_pure, Result.andThen_ok, List.map_toArray, List.map_cons, List.map_nil, hx, hlen]
theorem gives_cut {x y : Operand} {t e : Nat} {A : Option Addr} {n m c : Nat} (h : o.op = .slice t x none (some y) none) (ht : P.underlying t = some (.slice e)) (he : (P.info? e).isSome = true) (hx : a.eval x = .slice A n c) (hy : a.eval y = .int .i64 (m : Int)) (hm : m ≤ c)
    (hR : R (.slice A m c) w) : gives P o a w R := by
  obtain ⟨i, hi⟩ := Option.isSome_iff_exists.1 he
  have hcut : (Instr.slice t (.slice A n c) none (some (.int .i64 (m : Int))) none).run P w = .ok (.slice A m c) w := by
    simp [Instr.slice, run_underlying ht, Instr.sliceBounds, Instr.sliceBound, asIntOf, hm, sizeOf, typeInfo, hi]
    cases A with
    | none => simp
    | some ad => simp [Addr.add]
  have hcut2 : (Instr.sliceAt t (.slice A n c) none (some (.int .i64 (m : Int))) none).run P w = .ok (.slice A m c) w := by simp [Instr.sliceAt, run_underlying ht, hcut]
  refine gives_of_run (w' := w) (v := .slice A m c) ?_ hR
  unfold execOp
  simp only [h, Option.map_some, Option.map_none, hx, hy, Sem.run_bind, hcut2, Result.andThen_ok, Sem.run_pure]
end
end Go.Proofs.YtpdikmcaihlbaaaDoor
namespace Go.Proofs.YtpdikmcaihlbaaaDoor
open Go.RowKit

/-- Block g, laid for the type t, is just these cells. -/
def Rw (w : World) (g : Nat) (t : TypeId) (vs : List Value) : Prop := w.heap[g]? = some (.cells vs.toArray t (0, 0))
section
variable {w w' : World} {g : Nat} {t : TypeId} {vs : List Value}
theorem Rw.new (w : World) (t : TypeId) (vs : List Value) : Rw (w.alloc (.cells vs.toArray t)) w.heap.size t vs := heap_alloc_new w _
theorem Rw.lt (h : Rw w g t vs) : g < w.heap.size := by
  rcases Nat.lt_or_ge g w.heap.size with h' | h'
  · exact h'
  · unfold Rw at h; rw [Array.getElem?_eq_none h'] at h; cases h
theorem Rw.cell (h : Rw w g t vs) {i : Nat} {v : Value} (hx : vs[i]? = some v) : w.cell? ⟨g, i, none⟩ = some v := by
  rw [cell_of_row w g i _ _ (0, 0) h, List.getElem?_toArray, hx]
theorem Rw.frozen (h : Rw w g t vs) (i : Nat) : w.frozen? ⟨g, i, none⟩ = false := by
  unfold Rw at h
  simp [World.frozen?, h]
theorem Rw.set (h : Rw w g t vs) (i : Nat) (v : Value) : Rw (w.setCell ⟨g, i, none⟩ v) g t (vs.set i v) := by
  unfold Rw at h ⊢
  have e : (vs.set i v).toArray = vs.toArray.setIfInBounds i v := by rw [List.setIfInBounds_toArray]
  rw [e]
  simp [World.setCell, Array.getElem?_modify, h]
theorem Rw.ext (h : Rw w g t vs) (hx : Ext w w') : Rw w' g t vs := (Below.block hx g h.lt).trans h
theorem Rw.below {B : Nat} (h : Rw w g t vs) (hb : Below B w w') (hg : g < B) : Rw w' g t vs := (hb.block g hg).trans h
theorem Rw.alloc (h : Rw w g t vs) (o : Obj) : Rw (w.alloc o) g t vs := (Below.heap_alloc w o g h.lt).trans h
theorem Rw.far (h : Rw w g t vs) {p : Addr} (hp : g ≠ p.block) (u : Value) : Rw (w.setCell p u) g t vs := (Below.heap_setCell w p u g hp).trans h
/-- What a whole store leaves: block g turned, all else as it was. -/
structure Laid1 (g : Nat) (w w' : World) : Prop where
  below : Below g w w'
  other : ∀ k, k ≠ g → w'.heap[k]? = w.heap[k]?
theorem Rw.other {k : Nat} (h : Rw w k t vs) (hl : Laid1 g w w') (hk : k ≠ g) : Rw w' k t vs := (hl.other k hk).trans h
theorem Laid1.of_row (w : World) (g : Nat) (cs : Array Value) : Laid1 g w (w.setRow g cs) := ⟨⟨rfl, rfl, rfl, by simp [World.setRow], fun k hk => setRow_other w g k cs (by omega)⟩, fun k hk => setRow_other w g k cs hk⟩
theorem Laid1.of_cell (w : World) (g i : Nat) (u : Value) : Laid1 g w (w.setCell ⟨g, i, none⟩ u) := ⟨Below.setCell (p := ⟨g, i, none⟩) (Below.refl g w) (Nat.le_refl g) u, fun k hk => Below.heap_setCell w _ u k hk⟩
end
/-- Writing above B: nothing below has turned. -/
theorem Below.set {B : Nat} {w w' : World} (h : Below B w w') {p : Addr} (hp : B ≤ p.block) (u : Value) : Below B w (w'.setCell p u) := Below.setCell h hp u
theorem Ext.laid {w w' w'' : World} {g : Nat} (h : Ext w w') (hl : Laid1 g w' w'') (hg : w.heap.size ≤ g) : Ext w w'' := Below.trans h (Below.mono hl.below hg)

section
variable {P : Program} {ops : Array Oper} {rest : List Oper} {o : Oper} {a : Act} {w : World} {Q : Exit → Act → World → Prop} {R : Value → World → Prop}
/-- A whole array read. -/
theorem wpList_load_rw (hgd : o.guard = none) (ty : TypeId) (x : Operand) (ho : o.op = .load ty x) (g : Nat) (hx : a.eval x = .pointer (some ⟨g, 0, none⟩)) (t : TypeId) (vs : List Value) (hr : Rw w g t vs)
    (n : Nat) (e : TypeId) (hu : P.underlying ty = some (.array n e)) (hi : (P.info? ty).map (·.size) = some n) (hn : n = vs.length)
    (h : wpList P ops Q rest (a.put o.dst (.agg vs.toArray)) w) : wpList P ops Q (o :: rest) a w :=
  wpList_load_row hgd ty x ho g hx t vs.toArray (0, 0) _ hr hu rfl (by rw [hi, hn]; simp) h
/-- A whole array laid. -/
theorem wpList_store_rw (hgd : o.guard = none) (ty : TypeId) (x y : Operand) (ho : o.op = .store ty x y) (g : Nat) (hx : a.eval x = .pointer (some ⟨g, 0, none⟩)) (us : List Value) (hy : a.eval y = .agg us.toArray)
    (t : TypeId) (vs : List Value) (hr : Rw w g t vs) (n : Nat) (hi : (P.info? ty).map (·.size) = some n) (hn : n = us.length) (hm : vs.length = us.length) (h1 : us.all (·.oneCell') = true)
    (h : ∀ w', Rw w' g t us → Laid1 g w w' → wpList P ops Q rest (a.put o.dst undef) w') : wpList P ops Q (o :: rest) a w :=
  wpList_store_row hgd ty x y ho g us.toArray hx hy t vs.toArray hr (by rw [hi, hn]; simp) (by simpa using hm) (by simpa using h1) (h _ (setRow_heap w g _ _ t _ hr) (Laid1.of_row w g _))
theorem gives_load_rw (ty : TypeId) (x : Operand) (ho : o.op = .load ty x) (g : Nat) (hx : a.eval x = .pointer (some ⟨g, 0, none⟩)) (t : TypeId) (vs : List Value) (hr : Rw w g t vs)
    (n : Nat) (e : TypeId) (hu : P.underlying ty = some (.array n e)) (hi : (P.info? ty).map (·.size) = some n) (hn : n = vs.length) (hR : R (.agg vs.toArray) w) : gives P o a w R := by
  unfold gives execOp
  simp only [ho, hx, Instr.loadAt, Instr.sureAddr, Sem.run_bind, Sem.run_pure, Result.andThen_ok, run_loadVar_row w g t ty vs.toArray (0, 0) _ hr hu rfl (by rw [hi, hn]; simp)]
  exact hR
theorem gives_store_rw (ty : TypeId) (x y : Operand) (ho : o.op = .store ty x y) (g : Nat) (hx : a.eval x = .pointer (some ⟨g, 0, none⟩)) (us : List Value) (hy : a.eval y = .agg us.toArray)
    (t : TypeId) (vs : List Value) (hr : Rw w g t vs) (n : Nat) (hi : (P.info? ty).map (·.size) = some n) (hn : n = us.length) (hm : vs.length = us.length) (h1 : us.all (·.oneCell') = true)
    (hR : ∀ w', Rw w' g t us → Laid1 g w w' → R undef w') : gives P o a w R := by
  unfold gives execOp
  simp only [ho, hx, hy, Instr.storeAt, Instr.sureAddr, Sem.run_bind, Sem.run_pure, Result.andThen_ok, run_storeVar_row w g t ty vs.toArray us.toArray hr (by rw [hi, hn]; simp) (by simpa using hm) (by simpa using h1)]
  exact hR _ (setRow_heap w g _ _ t _ hr) (Laid1.of_row w g _)
/-- A result out of its cell. -/
theorem ret_rw {fn : Func} {p : Tmp} {ty : TypeId} {S : Ending → World → Prop} (hf : fn.results = #[.cell p ty]) (hd : a.defers = []) (g : Nat) (hp : a.tmps.getD p undef = .pointer (some ⟨g, 0, none⟩)) (t : TypeId) (vs : List Value) (hr : Rw w g t vs)
    (n : Nat) (e : TypeId) (hu : P.underlying ty = some (.array n e)) (hi : (P.info? ty).map (·.size) = some n) (hn : n = vs.length) (h : S (.returned (.agg vs.toArray)) w) : bodyPost P fn S .ret a w :=
  bodyPost_ret (results_cell_row hf a.tmps w g t vs.toArray (0, 0) _ hp hr hu rfl (by rw [hi, hn]; simp)) hd h
end

/-- Words as values. -/
def us (l : List Nat) : List Value := l.map fun (n : Nat) => .int .u32 (n : Int)
theorem us_length (l : List Nat) : (us l).length = l.length := by simp [us]
theorem us_get (l : List Nat) (i : Nat) : (us l)[i]? = l[i]?.map fun (n : Nat) => .int .u32 (n : Int) := by simp [us]
theorem us_one (l : List Nat) : (us l).all (·.oneCell') = true := by simp [us, Value.oneCell']
/-- Block g, laid for the type t, is just these words. -/
def Wds (w : World) (g : Nat) (t : TypeId) (l : List Nat) : Prop := Rw w g t (us l)
section
variable {w w' : World} {g : Nat} {t : TypeId} {l : List Nat}
theorem Wds.new (w : World) (t : TypeId) (l : List Nat) : Wds (w.alloc (.cells (us l).toArray t)) w.heap.size t l := heap_alloc_new w _
theorem Wds.lt (h : Wds w g t l) : g < w.heap.size := Rw.lt h
theorem Wds.cell (h : Wds w g t l) {i n : Nat} (hx : l[i]? = some n) : w.cell? ⟨g, i, none⟩ = some (.int .u32 (n : Int)) := Rw.cell h (by rw [us_get, hx]; rfl)
theorem Wds.frozen (h : Wds w g t l) (i : Nat) : w.frozen? ⟨g, i, none⟩ = false := Rw.frozen h i
theorem Wds.put (h : Wds w g t l) (i : Nat) {v : Int} (n : Nat) (hv : v = (n : Int)) {m : List Nat} (hm : l.set i n = m) : Wds (w.setCell ⟨g, i, none⟩ (.int .u32 v)) g t m := by
  subst hv hm
  have := Rw.set h i (.int .u32 (n : Int))
  unfold Wds us
  rw [List.map_set]
  exact this
theorem Wds.ext (h : Wds w g t l) (hx : Ext w w') : Wds w' g t l := Rw.ext h hx
theorem Wds.below {B : Nat} (h : Wds w g t l) (hb : Below B w w') (hg : g < B) : Wds w' g t l := Rw.below h hb hg
theorem Wds.far (h : Wds w g t l) {p : Addr} (hp : g ≠ p.block) (u : Value) : Wds (w.setCell p u) g t l := Rw.far h hp u
theorem Wds.other {k : Nat} (h : Wds w k t l) (hl : Laid1 g w w') (hk : k ≠ g) : Wds w' k t l := Rw.other h hl hk
end
theorem set_mid (a : List Nat) (n : Nat) (v : Nat) (k : Nat) (hk : k = a.length) (h : 0 < n) : (a ++ List.replicate n 0).set k v = (a ++ [v]) ++ List.replicate (n - 1) 0 := by
  subst hk
  obtain ⟨m, rfl⟩ : ∃ m, n = m + 1 := ⟨n - 1, by omega⟩
  rw [List.set_append_right _ _ (Nat.le_refl _), Nat.sub_self, List.replicate_succ, List.set_cons_zero]
  simp
end Go.Proofs.YtpdikmcaihlbaaaDoor
namespace Go.Proofs.YtpdikmcaihlbaaaDoor
open Go.Shelf
shelf_try shelf_lay Lays.n196 Nm 196 at Tryd as Tryd.lays196
shelf_try shelf_lay Lays.n137 Nm 137 at Tryd as Tryd.lays137
shelf_try open Go.RowKit in
/-- strings.IndexByte: "IndexByte returns the index of the first instance of c in s, or -1 if c is not present in s.": IT RETURNS 'Lib.indexByte s c'; the world is as it was. (LAID: no walk: one application.) -/
theorem Tryd.strings_IndexByte (s : ByteArray) (c : Int) (w : World) :
    Calls Tryd.prog 42 #[.string s, .int .u8 c] w fun e w' => e = .returned (.int .i64 (Lib.indexByte s.data.toList c.toNat.toUInt8)) ∧ w' = w := Any.strings_IndexByte Tryd.lays137 s c w
shelf_try shelf_lay Lays.n217 Nm 217 at Tryd as Tryd.lays217
shelf_try open Go.RowKit Go.Lib in
/-- internal/stringslite.IndexByte (what strings.IndexByte calls): IT RETURNS 'Lib.indexByte s c'; the world is as it was. (LAID: no walk: one application.) -/
theorem Tryd.stringslite_IndexByte (s : ByteArray) (c : Int) (w : World) :
    Calls Tryd.prog 55 #[.string s, .int .u8 c] w fun e w' => e = .returned (.int .i64 (Lib.indexByte s.data.toList c.toNat.toUInt8)) ∧ w' = w := Any.stringslite_IndexByte Tryd.lays217 s c w
shelf_tried
end Go.Proofs.YtpdikmcaihlbaaaDoor
namespace Go.Proofs.YtpdikmcaihlbaaaDoor
open Go.RowKit

/-- No text. -/
def noS : ByteArray := ⟨#[]⟩
/-- What a value is meant as; 'v': its text is one. -/
def meantV (k n : Int) (s : ByteArray) (v : Bool) : Value :=
  if k = 0 then (if n = 0 ∧ s = noS then .iface 77 (.agg #[]) else .nilIface) else
  if k = 1 then (if s = noS then .iface 2 (.int .i64 n) else .nilIface) else
  if k = 2 then (if n = 0 ∧ s.size ≤ 60 ∧ v = true then .iface 9 (.string s) else .nilIface) else
  if k = 3 then (if (n = 0 ∨ n = 1) ∧ s = noS then .iface 4 (.bool (n == 1)) else .nilIface) else .nilIface
def RetV (w : World) (v : Value) (e : Ending) (w' : World) : Prop := e = .returned v ∧ Ext w w'
theorem noS_b {s : ByteArray} (h : ¬ s = noS) : s.toList.isEmpty = false := by
  rw [ByteArray.toList_eq]
  cases hq : s.data.toList.isEmpty with
  | false => rfl
  | true =>
    refine absurd ?_ h
    have e : s.data = #[] := Array.toList_inj.1 (List.isEmpty_iff.1 hq)
    cases s
    exact congrArg ByteArray.mk e
set_option maxRecDepth 20000 in
set_option maxHeartbeats 1600000 in
theorem meant_0 (n : Int) (s : ByteArray) (v : Bool) (w : World) : Calls Tryd.prog 28 #[.agg #[.int .u8 0, .int .i64 n, .string s]] w (RetV w (meantV 0 n s v)) := by
  by_cases hn : n = 0
  · subst hn
    by_cases hs : s = noS
    · subst hs
      unfold noS
      go_enter Tryd.func28, Tryd.ntmps28
      go_wp2
      go_ret
      exact ⟨by simp [meantV, noS], Ext.alloc _ _⟩
    · have hsb := noS_b hs
      go_enter Tryd.func28, Tryd.ntmps28
      go_wp2
      go_ret
      exact ⟨by simp [meantV, hs], Ext.alloc _ _⟩
  · have hnb : (n == 0) = false := by simpa using hn
    go_enter Tryd.func28, Tryd.ntmps28
    go_wp2
    go_ret
    exact ⟨by simp [meantV, hn], Ext.alloc _ _⟩
set_option maxRecDepth 20000 in
set_option maxHeartbeats 1600000 in
theorem meant_1 (n : Int) (s : ByteArray) (v : Bool) (w : World) : Calls Tryd.prog 28 #[.agg #[.int .u8 1, .int .i64 n, .string s]] w (RetV w (meantV 1 n s v)) := by
  by_cases hs : s = noS
  · subst hs
    unfold noS
    go_enter Tryd.func28, Tryd.ntmps28
    go_wp2
    go_ret
    exact ⟨by simp [meantV, noS], Ext.alloc _ _⟩
  · have hsb := noS_b hs
    go_enter Tryd.func28, Tryd.ntmps28
    go_wp2
    go_ret
    exact ⟨by simp [meantV, hs], Ext.alloc _ _⟩
set_option maxRecDepth 20000 in
set_option maxHeartbeats 1600000 in
theorem meant_2 (n : Int) (s : ByteArray) (v : Bool) (w : World) (KV : ∀ W, Ext w W → Calls Tryd.prog 29 #[.string s] W (RetV W (.bool v))) : Calls Tryd.prog 28 #[.agg #[.int .u8 2, .int .i64 n, .string s]] w (RetV w (meantV 2 n s v)) := by
  by_cases hn : n = 0
  · subst hn
    by_cases hl : s.size ≤ 60
    · have hli : (s.size : Int) ≤ 60 := by omega
      cases v
      · go_enter Tryd.func28, Tryd.ntmps28
        go_wp2_with (go_at_call 29; (with_reducible refine (KV _ (Ext.alloc _ _)).mono ?_); rintro e w1 ⟨rfl, hx1⟩; have X1 : Ext w w1 := (Ext.alloc _ _).trans hx1; have R1 : Rw w1 w.heap.size 26 [.int .u8 2, .int .i64 0, .string s] := (Rw.new w _ _).ext hx1; have d0 := R1.cell (i := 0) rfl; have d1 := R1.cell (i := 1) rfl; have d2 := R1.cell (i := 2) rfl)
        go_ret
        exact ⟨by simp [meantV], X1⟩
      · go_enter Tryd.func28, Tryd.ntmps28
        go_wp2_with (go_at_call 29; (with_reducible refine (KV _ (Ext.alloc _ _)).mono ?_); rintro e w1 ⟨rfl, hx1⟩; have X1 : Ext w w1 := (Ext.alloc _ _).trans hx1; have R1 : Rw w1 w.heap.size 26 [.int .u8 2, .int .i64 0, .string s] := (Rw.new w _ _).ext hx1; have d0 := R1.cell (i := 0) rfl; have d1 := R1.cell (i := 1) rfl; have d2 := R1.cell (i := 2) rfl)
        go_ret
        exact ⟨by simp [meantV, hl], X1⟩
    · have hli : ¬ (s.size : Int) ≤ 60 := by omega
      go_enter Tryd.func28, Tryd.ntmps28
      go_wp2
      go_ret
      exact ⟨by simp [meantV, hl], Ext.alloc _ _⟩
  · have hnb : (n == 0) = false := by simpa using hn
    go_enter Tryd.func28, Tryd.ntmps28
    go_wp2
    go_ret
    exact ⟨by simp [meantV, hn], Ext.alloc _ _⟩
set_option maxRecDepth 20000 in
set_option maxHeartbeats 1600000 in
theorem meant_3 (n : Int) (s : ByteArray) (v : Bool) (w : World) : Calls Tryd.prog 28 #[.agg #[.int .u8 3, .int .i64 n, .string s]] w (RetV w (meantV 3 n s v)) := by
  by_cases hn : n = 0
  · subst hn
    by_cases hs : s = noS
    · subst hs
      unfold noS
      go_enter Tryd.func28, Tryd.ntmps28
      go_wp2
      go_ret
      exact ⟨by simp [meantV, noS], Ext.alloc _ _⟩
    · have hsb := noS_b hs
      go_enter Tryd.func28, Tryd.ntmps28
      go_wp2
      go_ret
      exact ⟨by simp [meantV, hs], Ext.alloc _ _⟩
  · by_cases h1 : n = 1
    · subst h1
      by_cases hs : s = noS
      · subst hs
        unfold noS
        go_enter Tryd.func28, Tryd.ntmps28
        go_wp2
        go_ret
        exact ⟨by simp [meantV, noS], Ext.alloc _ _⟩
      · have hsb := noS_b hs
        go_enter Tryd.func28, Tryd.ntmps28
        go_wp2
        go_ret
        exact ⟨by simp [meantV, hs], Ext.alloc _ _⟩
    · have hnb : (n == 0) = false := by simpa using hn
      have hnc : (n == 1) = false := by simpa using h1
      go_enter Tryd.func28, Tryd.ntmps28
      go_wp2
      go_ret
      exact ⟨by simp [meantV, hn, h1], Ext.alloc _ _⟩
set_option maxRecDepth 20000 in
set_option maxHeartbeats 1600000 in
theorem meant_o (n : Int) (s : ByteArray) (v : Bool) (w : World) (k : Int) (h0 : k ≠ 0) (h1 : k ≠ 1) (h2 : k ≠ 2) (h3 : k ≠ 3) : Calls Tryd.prog 28 #[.agg #[.int .u8 k, .int .i64 n, .string s]] w (RetV w (meantV k n s v)) := by
  have h0b : (k == 0) = false := by simpa using h0
  have h1b : (k == 1) = false := by simpa using h1
  have h2b : (k == 2) = false := by simpa using h2
  have h3b : (k == 3) = false := by simpa using h3
  go_enter Tryd.func28, Tryd.ntmps28
  go_wp2
  go_ret
  exact ⟨by simp [meantV, h0, h1, h2, h3], Ext.alloc _ _⟩
theorem meant_any' (k n : Int) (s : ByteArray) (v : Bool) (w : World) (KV : ∀ W, Ext w W → Calls Tryd.prog 29 #[.string s] W (RetV W (.bool v))) : Calls Tryd.prog 28 #[.agg #[.int .u8 k, .int .i64 n, .string s]] w (RetV w (meantV k n s v)) := by
  by_cases h0 : k = 0
  · subst h0; exact meant_0 n s v w
  by_cases h1 : k = 1
  · subst h1; exact meant_1 n s v w
  by_cases h2 : k = 2
  · subst h2; exact meant_2 n s v w KV
  by_cases h3 : k = 3
  · subst h3; exact meant_3 n s v w
  exact meant_o n s v w k h0 h1 h2 h3
def Tabs (w : World) : Prop := Lib.Utf8Tabs 0 1 w
theorem Tabs.ext {w w' : World} (h : Tabs w) (hx : Ext w w') : Tabs w' := Utf8Tabs_below h hx
def okT (s : ByteArray) : Bool := Lib.validD s.data.toList
theorem valid_any (s : ByteArray) (w : World) (hs : s.size ≤ 9223372036854775807) (hT : Tabs w) :
    Calls Tryd.prog 29 #[.string s] w (RetV w (.bool (okT s))) :=
  (show Calls Tryd.prog 29 #[.string s] w _ from Any.utf8_ValidString Tryd.lays196 s w (by omega) hT).mono fun _ _ ⟨he, hb⟩ => ⟨he, hb⟩
theorem meant_any (k n : Int) (s : ByteArray) (w : World) (hs : s.size ≤ 9223372036854775807) (hT : Tabs w) : Calls Tryd.prog 28 #[.agg #[.int .u8 k, .int .i64 n, .string s]] w (RetV w (meantV k n s (okT s))) :=
  meant_any' k n s (okT s) w (fun W hW => valid_any s W hs (hT.ext hW))
end Go.Proofs.YtpdikmcaihlbaaaDoor
namespace Go.Proofs.YtpdikmcaihlbaaaDoor
open Go.RowKit

set_option maxHeartbeats 400000 in
theorem uint_any (u : Int) (w : World) (h0 : 0 ≤ u) (h1 : u < 18446744073709551616) :
    Calls Tryd.prog 56 #[.int .u64 u] w (Ret w (Bytes (be64 u))) := by
  have hmk : ∀ w, (Instr.makeSlice 27 (.int .i64 8) (.int .i64 8)).run Tryd.prog w = .ok (.slice (some ⟨w.heap.size, 0, none⟩) 8 8) (w.alloc (.cells #[.int .u8 0, .int .u8 0, .int .u8 0, .int .u8 0, .int .u8 0, .int .u8 0, .int .u8 0, .int .u8 0] 5)) := fun _ => by kernel_rfl
  go_enter Tryd.func56, Tryd.ntmps56
  go_wp2
  go_rounds 9
  go_ret
  exact Ret.mk (Ext.alloc _ _) (Bytes.new _ _ _ _ (by rw [be64_cells u h0 h1]) rfl (Nat.le_refl _))

set_option maxHeartbeats 400000 in
theorem ruint_any (u : Int) (w : World) (h0 : 0 ≤ u) (h1 : u < 18446744073709551616) :
    Calls Tryd.prog 46 #[.int .u64 u] w (Ret w (Bytes (be64 u))) := by
  go_enter Tryd.func46, Tryd.ntmps46
  go_wp2
  refine wp_loop_rounds 9 ?_
  have hown : Own w w.heap.size (.slice none 0 0) [] := Own.nil _ _
  have hb : Below w.heap.size w w := Below.refl _ _
  iterate 8
    rw [rounds_succ]
    go_wp2_with (at_builtin; refine wpList_push rfl (.tmp 9) (.tmp 15) rfl w.heap.size _ _ rfl rfl (by assumption) (by omega) (by omega) (Below.size hb) (by simp) ?_; intro v1 w1 hown1 hb1; replace hb := Below.trans hb hb1; clear hb1)
  rw [rounds_succ]
  go_wp2
  go_ret
  refine Ret.mk hb ?_
  have e : be64 u = [] ++ [b8 (u / 72057594037927936)] ++ [b8 (u / 281474976710656 % 256)] ++ [b8 (u / 1099511627776 % 256)] ++ [b8 (u / 4294967296 % 256)] ++
      [b8 (u / 16777216 % 256)] ++ [b8 (u / 65536 % 256)] ++ [b8 (u / 256 % 256)] ++ [b8 (u % 256)] := by
    have e : u / 72057594037927936 % 256 = u / 72057594037927936 := by omega
    simp [be64, e]
  rw [e]
  exact Own.bytes (by assumption)

/-- The eight bytes of a signed number. -/
def ord64 (n : Int) : List UInt8 := be64 (n + 9223372036854775808)
theorem wrap_half (n : Int) (h0 : -9223372036854775808 ≤ n) (h1 : n < 9223372036854775808) : IntKind.u64.wrap (IntKind.u64.wrap n + 9223372036854775808) = n + 9223372036854775808 := by
  simp only [IntKind.wrap_u64]; omega

set_option maxHeartbeats 400000 in
theorem int_any (n : Int) (w : World) (h0 : -9223372036854775808 ≤ n) (h1 : n < 9223372036854775808) :
    Calls Tryd.prog 45 #[.int .i64 n] w (Ret w (Bytes (ord64 n))) := by
  go_enter Tryd.func45, Tryd.ntmps45
  go_wp2_with (go_at_call 56; rw [wrap_half n h0 h1]; refine (uint_any _ _ (by omega) (by omega)).mono ?_; rintro e w1 ⟨v, rfl, hx, hv⟩)
  go_ret
  exact Ret.mk hx hv

set_option maxHeartbeats 400000 in
theorem rint_any (n : Int) (w : World) (h0 : -9223372036854775808 ≤ n) (h1 : n < 9223372036854775808) :
    Calls Tryd.prog 31 #[.int .i64 n] w (Ret w (Bytes (ord64 n))) := by
  go_enter Tryd.func31, Tryd.ntmps31
  go_wp2_with (go_at_call 46; rw [wrap_half n h0 h1]; refine (ruint_any _ _ (by omega) (by omega)).mono ?_; rintro e w1 ⟨v, rfl, hx, hv⟩)
  go_ret
  exact Ret.mk hx hv

/-- What reading a number gives: the value, the place behind it, the error's number. -/
def rdNum (l : List UInt8) (at_ : Int) : Int × Int × Int :=
  if at_ < 0 ∨ (l.length : Int) < at_ then (0, 0, 1) else if (l.length : Int) < at_ + 8 then (0, 0, 3) else (num ((l.drop at_.toNat).take 8), at_ + 8, 0)
def Three (k : IntKind) (x : Int × Int × Int) (w : World) (e : Ending) (w' : World) : Prop := e = .returned (.tuple #[.int k x.1, .int .i64 x.2.1, .int .i64 x.2.2]) ∧ w = w'

set_option maxHeartbeats 400000 in
theorem readUint_any (A : Option Addr) (c : Nat) (l : List UInt8) (at_ : Int) (w : World) (hr : Rd w A l) (hl : l.length ≤ 140737488355328) (ha : at_ ≤ 9223372036854775807) :
    Calls Tryd.prog 59 #[.slice A l.length c, .int .i64 at_] w (Three .u64 (rdNum l at_) w) := by
  by_cases h1 : at_ < 0 ∨ (l.length : Int) < at_
  · have e : rdNum l at_ = (0, 0, 1) := by unfold rdNum; rw [if_pos h1]
    rw [e]
    rcases h1 with h1 | h1
    · go_enter Tryd.func59, Tryd.ntmps59
      go_wp2
      go_ret3
      exact ⟨rfl, rfl⟩
    · have h0 : 0 ≤ at_ := by omega
      go_enter Tryd.func59, Tryd.ntmps59
      go_wp2
      go_ret3
      exact ⟨rfl, rfl⟩
  · obtain ⟨k, rfl⟩ := Int.eq_ofNat_of_zero_le (show 0 ≤ at_ by omega)
    have hk : k ≤ l.length := by omega
    by_cases h2 : (l.length : Int) < (k : Int) + 8
    · have e : rdNum l (k : Int) = (0, 0, 3) := by unfold rdNum; rw [if_neg h1, if_pos h2]
      rw [e]
      clear h1
      have h3 : (l.length : Int) - (k : Int) < 8 := by omega
      go_enter Tryd.func59, Tryd.ntmps59
      go_wp2
      go_ret3
      exact ⟨rfl, rfl⟩
    · have e : rdNum l (k : Int) = (num ((l.drop k).take 8), (k : Int) + 8, 0) := by unfold rdNum; rw [if_neg h1, if_neg h2, Int.toNat_natCast]
      rw [e]
      clear h1
      have h3 : 8 ≤ (l.length : Int) - (k : Int) := by omega
      go_enter Tryd.func59, Tryd.ntmps59
      go_wp2
      go_loop [7, 8, 22] (fun u _ c => ∃ j : Nat, j ≤ 8 ∧ c = .int .i64 j ∧ u = .int .u64 (num ((l.drop k).take j))) (fun _ _ c => 8 - (intOf c).toNat)
      case atStart => exact ⟨0, Nat.zero_le _, rfl, rfl⟩
      case round =>
        obtain ⟨j, hj, rfl, rfl⟩ := hrel
        by_cases hlt : j < 8
        · obtain ⟨b, off, x, rfl, hx, hc⟩ := hr.at (k := k + j) (by omega)
          have hb := (num_bound ((l.drop k).take j)).1
          go_wp2
          refine ⟨⟨j + 1, by omega, by go_num, ?_⟩, by simp [intOf]; omega⟩
          have hb2 := num_take_lt (l.drop k) j (by omega)
          have hx2 := x.toNat_lt
          rw [or_byte _ _ hb hb2 (by omega) (by omega), num_step l k j x hx]
        · obtain rfl : j = 8 := by omega
          go_wp2
          go_ret3
          exact ⟨rfl, rfl⟩

set_option maxHeartbeats 400000 in
theorem rreadUint_any (A : Option Addr) (c : Nat) (l : List UInt8) (at_ : Int) (w : World) (hr : Rd w A l) (hl : l.length ≤ 140737488355328) (ha : at_ ≤ 9223372036854775807) :
    Calls Tryd.prog 51 #[.slice A l.length c, .int .i64 at_] w (Three .u64 (rdNum l at_) w) := by
  by_cases h1 : at_ < 0 ∨ (l.length : Int) < at_
  · have e : rdNum l at_ = (0, 0, 1) := by unfold rdNum; rw [if_pos h1]
    rw [e]
    rcases h1 with h1 | h1
    · go_enter Tryd.func51, Tryd.ntmps51
      go_wp2
      go_ret3
      exact ⟨rfl, rfl⟩
    · have h0 : 0 ≤ at_ := by omega
      go_enter Tryd.func51, Tryd.ntmps51
      go_wp2
      go_ret3
      exact ⟨rfl, rfl⟩
  · obtain ⟨k, rfl⟩ := Int.eq_ofNat_of_zero_le (show 0 ≤ at_ by omega)
    have hk : k ≤ l.length := by omega
    by_cases h2 : (l.length : Int) < (k : Int) + 8
    · have e : rdNum l (k : Int) = (0, 0, 3) := by unfold rdNum; rw [if_neg h1, if_pos h2]
      rw [e]
      clear h1
      have h3 : (l.length : Int) - (k : Int) < 8 := by omega
      go_enter Tryd.func51, Tryd.ntmps51
      go_wp2
      go_ret3
      exact ⟨rfl, rfl⟩
    · have e : rdNum l (k : Int) = (num ((l.drop k).take 8), (k : Int) + 8, 0) := by unfold rdNum; rw [if_neg h1, if_neg h2, Int.toNat_natCast]
      rw [e]
      clear h1
      have h3 : 8 ≤ (l.length : Int) - (k : Int) := by omega
      go_enter Tryd.func51, Tryd.ntmps51
      go_wp2
      go_loop [7, 8] (fun u c => ∃ j : Nat, j ≤ 8 ∧ c = .int .i64 j ∧ u = .int .u64 (num ((l.drop k).take j))) (fun _ c => 8 - (intOf c).toNat)
      case atStart => exact ⟨0, Nat.zero_le _, rfl, rfl⟩
      case round =>
        obtain ⟨j, hj, rfl, rfl⟩ := hrel
        by_cases hlt : j < 8
        · obtain ⟨b, off, x, rfl, hx, hc⟩ := hr.at (k := k + j) (by omega)
          have hb := (num_bound ((l.drop k).take j)).1
          have hb2 := num_take_lt (l.drop k) j (by omega)
          have hx2 := x.toNat_lt
          go_wp2
          refine ⟨⟨j + 1, by omega, by go_num, ?_⟩, by simp [intOf]; omega⟩
          rw [num_step l k j x hx]
        · obtain rfl : j = 8 := by omega
          go_wp2
          go_ret3
          exact ⟨rfl, rfl⟩

end Go.Proofs.YtpdikmcaihlbaaaDoor
namespace Go.Proofs.YtpdikmcaihlbaaaDoor
open Go.RowKit

/-- What reading a signed number gives. -/
def rdOrd (l : List UInt8) (at_ : Int) : Int × Int × Int :=
  if (rdNum l at_).2.2 = 0 then ((rdNum l at_).1 - 9223372036854775808, (rdNum l at_).2.1, 0) else (0, 0, (rdNum l at_).2.2)
theorem rdNum_range (l : List UInt8) (at_ : Int) : 0 ≤ (rdNum l at_).1 ∧ (rdNum l at_).1 < 18446744073709551616 := by
  have h : 0 ≤ num ((l.drop at_.toNat).take 8) ∧ num ((l.drop at_.toNat).take 8) < 18446744073709551616 := num_take_lt8 _
  unfold rdNum
  split
  · exact ⟨by decide, by decide⟩
  · split
    · exact ⟨by decide, by decide⟩
    · exact h
theorem wrap_back (u : Int) (h0 : 0 ≤ u) (h1 : u < 18446744073709551616) : wrap64 (IntKind.u64.wrap (u - 9223372036854775808)) = u - 9223372036854775808 := by
  simp only [IntKind.wrap_u64, wrap64]; omega

set_option maxHeartbeats 400000 in
theorem readInt_any (A : Option Addr) (c : Nat) (l : List UInt8) (at_ : Int) (w : World) (hr : Rd w A l) (hl : l.length ≤ 140737488355328) (ha : at_ ≤ 9223372036854775807) :
    Calls Tryd.prog 57 #[.slice A l.length c, .int .i64 at_] w (Three .i64 (rdOrd l at_) w) := by
  obtain ⟨u0, u1⟩ := rdNum_range l at_
  have hcall := readUint_any A c l at_ w hr hl ha
  unfold rdOrd
  generalize rdNum l at_ = x at *
  obtain ⟨u, p, e⟩ := x
  simp only [] at *
  have H := hide hcall
  clear hcall
  by_cases he : e = 0
  · subst he
    rw [if_pos rfl]
    go_enter Tryd.func57, Tryd.ntmps57
    go_wp2_with (go_at_call 59; refine (H.out).mono ?_; rintro e w1 ⟨rfl, rfl⟩)
    rw [wrap_back u u0 u1]
    go_ret3
    exact ⟨rfl, rfl⟩
  · rw [if_neg he]
    have hb : (e != 0) = true := by simpa using he
    go_enter Tryd.func57, Tryd.ntmps57
    go_wp2_with (go_at_call 59; refine (H.out).mono ?_; rintro e w1 ⟨rfl, rfl⟩)
    go_ret3
    exact ⟨rfl, rfl⟩

set_option maxHeartbeats 400000 in
theorem rreadInt_any (A : Option Addr) (c : Nat) (l : List UInt8) (at_ : Int) (w : World) (hr : Rd w A l) (hl : l.length ≤ 140737488355328) (ha : at_ ≤ 9223372036854775807) :
    Calls Tryd.prog 35 #[.slice A l.length c, .int .i64 at_] w (Three .i64 (rdOrd l at_) w) := by
  obtain ⟨u0, u1⟩ := rdNum_range l at_
  have hcall := rreadUint_any A c l at_ w hr hl ha
  unfold rdOrd
  generalize rdNum l at_ = x at *
  obtain ⟨u, p, e⟩ := x
  simp only [] at *
  have H := hide hcall
  clear hcall
  by_cases he : e = 0
  · subst he
    rw [if_pos rfl]
    go_enter Tryd.func35, Tryd.ntmps35
    go_wp2_with (go_at_call 51; refine (H.out).mono ?_; rintro e w1 ⟨rfl, rfl⟩)
    rw [wrap_back u u0 u1]
    go_ret3
    exact ⟨rfl, rfl⟩
  · rw [if_neg he]
    have hb : (e != 0) = true := by simpa using he
    go_enter Tryd.func35, Tryd.ntmps35
    go_wp2_with (go_at_call 51; refine (H.out).mono ?_; rintro e w1 ⟨rfl, rfl⟩)
    go_ret3
    exact ⟨rfl, rfl⟩
end Go.Proofs.YtpdikmcaihlbaaaDoor
namespace Go.Proofs.YtpdikmcaihlbaaaDoor
open Go.RowKit

theorem take_next (s : ByteArray) (k : Nat) (h : k < s.size) : s.data.toList.take (k + 1) = s.data.toList.take k ++ [s[k]] := by
  rw [List.take_add_one]
  have : s.data.toList[k]? = some s[k] := by
    rw [Array.getElem?_toList]
    exact Array.getElem?_eq_getElem h
  rw [this]; rfl
theorem size_list (s : ByteArray) : s.data.toList.length = s.size := by rw [Array.length_toList]; rfl
theorem esc_one (b : UInt8) : esc [b] = if b = 0 then [0, 255] else [b] := by simp [esc]
theorem run_make_empty (c : Nat) (hc : c ≤ 281474976710656) (W : World) : (Instr.makeSlice 27 (.int .i64 0) (.int .i64 (c : Int))).run Tryd.prog W =
    .ok (.slice (some ⟨W.heap.size, 0, none⟩) 0 c) (W.alloc (.cells (madeCells #[.int .u8 0] c) 5)) := by
  obtain ⟨i0, hi, hz0, hz1, hz2⟩ := info_parts info_u8
  have h := run_make (P := Tryd.prog) W 27 5 i0 (.int .u8 0) Tryd.underlying27 hi hz0 .i64 .i64 0 (c : Int) (by omega) (by omega) (by rw [hz2]; omega) (by omega)
  simpa [hz1, Value.cells] using h
theorem Own.made (W : World) (base c : Nat) (hb : base ≤ W.heap.size) (hc : c ≤ 281474976710656) : Own (W.alloc (.cells (madeCells #[.int .u8 0] c) 5)) base (.slice (some ⟨W.heap.size, 0, none⟩) 0 c) [] :=
  World.ownsRow_made W _ c hb (by unfold maxLen; omega) (by simp [madeCells])

set_option maxHeartbeats 400000 in
theorem text_any (s : ByteArray) (w : World) (hs : s.size ≤ 35184372088832) :
    Calls Tryd.prog 52 #[.string s] w (Ret w (Bytes (text s.data.toList))) := by
  have hmk := fun W => run_make_empty (s.size + 2) (by omega) W
  rw [show ((s.size + 2 : Nat) : Int) = (s.size : Int) + 2 from by omega] at hmk
  go_enter Tryd.func52, Tryd.ntmps52
  go_wp2
  go_loopw [3, 4, 11] (fun v _ c wr => ∃ k : Nat, k ≤ s.size ∧ c = .int .i64 k ∧ Own wr w.heap.size v (esc (s.data.toList.take k)) ∧ Below w.heap.size w wr) (fun _ _ c _ => s.size - (intOf c).toNat)
  case atStart => exact ⟨0, Nat.zero_le _, rfl, Own.made _ _ _ (Nat.le_refl _) (by omega), (Below.refl _ _).alloc (Nat.le_refl _) _⟩
  case round =>
    obtain ⟨k, hk, rfl, hown, hb⟩ := hrel
    have hl : (esc (s.data.toList.take k)).length ≤ 2 * s.size := by
      have h1 := (esc_length (s.data.toList.take k)).2
      have h3 : (s.data.toList.take k).length ≤ s.size := by rw [← size_list]; exact List.length_take_le' _ _
      omega
    by_cases hlt : k < s.size
    · have hx := (s[k]).toNat_lt
      go_wp2_with (first
        | (at_builtin; refine wpList_push rfl (.tmp 14) (.tmp 18) rfl w.heap.size _ _ rfl rfl hown (by omega) (by omega) (Below.size hb) (by omega) ?_; intro v1 w1 hown1 hb1; have hb2 := Below.trans hb hb1)
        | (at_builtin; refine wpList_push rfl (.tmp 24) (.tmp 25) rfl w.heap.size _ _ rfl rfl hown1 (by omega) (by omega) (Below.size hb2) (by simp; omega) ?_; intro v2 w2 hown2 hb3; have hb4 := Below.trans hb2 hb3))
      · have hz : (((s[k]).toNat : Int) == 0) = true := by assumption
        have hz' : s[k] = 0 := by
          have : (s[k]).toNat = 0 := by simpa using hz
          exact UInt8.toNat_inj.1 this
        refine ⟨⟨k + 1, by omega, by go_num, ?_, hb4⟩, by simp [intOf]; omega⟩
        rw [take_next s k hlt, esc_append, esc_one, if_pos hz']
        rw [b8_byte, hz', show b8 255 = 255 from rfl] at hown2
        simpa using hown2
      · have hz : (((s[k]).toNat : Int) == 0) = false := by assumption
        have hz' : s[k] ≠ 0 := by
          intro e
          rw [e] at hz; simp at hz
        refine ⟨⟨k + 1, by omega, by go_num, ?_, hb2⟩, by simp [intOf]; omega⟩
        rw [take_next s k hlt, esc_append, esc_one, if_neg hz']
        rw [b8_byte] at hown1
        exact hown1
    · obtain rfl : k = s.size := by omega
      rw [List.take_of_length_le (by rw [size_list]; omega)] at hown hl
      go_wp2_with (at_builtin; refine wpList_cat rfl (.tmp 28) (.tmp 29) rfl w.heap.size _ _ [0, 1] _ _ _ rfl rfl rfl (hown.alloc _) (Rd.new wr _ [0, 1] []) ?_ ?_ ?_; simp; exact Nat.le_succ_of_le (Below.size hb); simp; omega; intro v1 w1 hown1 hb1)
      go_ret
      exact Ret.mk (Below.trans (hb.alloc (Below.size hb) _) hb1) hown1.bytes

set_option maxHeartbeats 400000 in
theorem rtext_any (s : ByteArray) (w : World) (hs : s.size ≤ 35184372088832) :
    Calls Tryd.prog 40 #[.string s] w (Ret w (Bytes (text s.data.toList))) := by
  go_enter Tryd.func40, Tryd.ntmps40
  go_wp2
  go_loopw [3, 4] (fun v c wr => ∃ k : Nat, k ≤ s.size ∧ c = .int .i64 k ∧ Own wr w.heap.size v (esc (s.data.toList.take k)) ∧ Below w.heap.size w wr) (fun _ c _ => s.size - (intOf c).toNat)
  case atStart => exact ⟨0, Nat.zero_le _, rfl, Own.nil _ _, Below.refl _ _⟩
  case round =>
    obtain ⟨k, hk, rfl, hown, hb⟩ := hrel
    have hl : (esc (s.data.toList.take k)).length ≤ 2 * s.size := by
      have h1 := (esc_length (s.data.toList.take k)).2
      have h3 : (s.data.toList.take k).length ≤ s.size := by rw [← size_list]; exact List.length_take_le' _ _
      omega
    by_cases hlt : k < s.size
    · have hx := (s[k]).toNat_lt
      go_wp2_with (first
        | (at_builtin; refine wpList_push rfl (.tmp 11) (.tmp 15) rfl w.heap.size _ _ rfl rfl hown (by omega) (by omega) (Below.size hb) (by omega) ?_; intro v1 w1 hown1 hb1; have hb2 := Below.trans hb hb1)
        | (at_builtin; refine wpList_push rfl (.tmp 21) (.tmp 22) rfl w.heap.size _ _ rfl rfl hown1 (by omega) (by omega) (Below.size hb2) (by simp; omega) ?_; intro v2 w2 hown2 hb3; have hb4 := Below.trans hb2 hb3))
      · have hz : (((s[k]).toNat : Int) == 0) = true := by assumption
        have hz' : s[k] = 0 := by
          have : (s[k]).toNat = 0 := by simpa using hz
          exact UInt8.toNat_inj.1 this
        refine ⟨⟨k + 1, by omega, by go_num, ?_, hb4⟩, by simp [intOf]; omega⟩
        rw [take_next s k hlt, esc_append, esc_one, if_pos hz']
        rw [b8_byte, hz', show b8 255 = 255 from rfl] at hown2
        simpa using hown2
      · have hz : (((s[k]).toNat : Int) == 0) = false := by assumption
        have hz' : s[k] ≠ 0 := by
          intro e
          rw [e] at hz; simp at hz
        refine ⟨⟨k + 1, by omega, by go_num, ?_, hb2⟩, by simp [intOf]; omega⟩
        rw [take_next s k hlt, esc_append, esc_one, if_neg hz']
        rw [b8_byte] at hown1
        exact hown1
    · obtain rfl : k = s.size := by omega
      rw [List.take_of_length_le (by rw [size_list]; omega)] at hown hl
      go_wp2_with (at_builtin; refine wpList_cat rfl (.tmp 24) (.tmp 25) rfl w.heap.size _ _ [0, 1] _ _ _ rfl rfl rfl (hown.alloc _) (Rd.new wr _ [0, 1] []) ?_ ?_ ?_; simp; exact Nat.le_succ_of_le (Below.size hb); simp; omega; intro v1 w1 hown1 hb1)
      go_ret
      exact Ret.mk (Below.trans (hb.alloc (Below.size hb) _) hb1) hown1.bytes
end Go.Proofs.YtpdikmcaihlbaaaDoor
namespace Go.Proofs.YtpdikmcaihlbaaaDoor
open Go.RowKit

theorem bs_str (s : ByteArray) : Lib.strCells s = bs s.data.toList := rfl
section
variable {ops : Array Oper} {rest : List Oper} {o : Oper} {a : Act} {Q : Exit → Act → World → Prop} {w : World}
theorem wpList_catS (hgd : o.guard = none) (sl x : Operand) (ho : o.op = .call { callee := .builtin .append, args := #[sl, x], argTypes := #[27, 9] })
    (base : Nat) (v : Value) (l : List UInt8) (s : ByteArray) (hs : a.eval sl = v) (hx : a.eval x = .string s) (hown : Own w base v l) (hbase : base ≤ w.heap.size) (hlen : l.length + s.size ≤ 140737488355328)
    (h : ∀ v' w', Own w' base v' (l ++ s.data.toList) → Below base w w' → wpList Tryd.prog ops Q rest (a.put o.dst v') w') : wpList Tryd.prog ops Q (o :: rest) a w := by
  obtain ⟨i0, hi, hz0, hz1, hz2⟩ := info_parts info_u8
  refine Lib.wpList_append_own_string w hgd sl x _ _ ho base 5 i0 Tryd.underlying27 Tryd.underlying9 hi hz0 hz1 hz2 v l.length (bs l) hs hown s hx (by unfold maxLen; omega) hlen hbase ?_
  intro v' w' h2 h3 _
  refine h v' w' ?_ ((Below.refl _ _).grown h3 hbase (fun k hk => (hown.lt k hk).1))
  have e : l.length + s.size = (l ++ s.data.toList).length := by rw [List.length_append]; rfl
  rw [e, bs_str, ← bs_append] at h2
  exact h2
end
end Go.Proofs.YtpdikmcaihlbaaaDoor
namespace Go.Proofs.YtpdikmcaihlbaaaDoor
open Go.RowKit

theorem own_one (W : World) (B : Nat) (hB : B ≤ W.heap.size) (n : Int) (h0 : 0 ≤ n) (h1 : n < 256) : Own (W.alloc (.cells #[.int .u8 n] 5)) B (.slice (some ⟨W.heap.size, 0, none⟩) 1 1) [b8 n] :=
  ⟨rfl, .inr ⟨W.heap.size, 1, #[.int .u8 n], rfl, hB, heap_alloc_new W _, Nat.le_refl _, by unfold maxLen; decide, rfl, by simp [bs, b8_toNat h0 h1]⟩⟩
theorem own_two (W : World) (B : Nat) (hB : B ≤ W.heap.size) (n m : Int) (h0 : 0 ≤ n) (h1 : n < 256) (h2 : 0 ≤ m) (h3 : m < 256) : Own (W.alloc (.cells #[.int .u8 n, .int .u8 m] 5)) B (.slice (some ⟨W.heap.size, 0, none⟩) 2 2) [b8 n, b8 m] :=
  ⟨rfl, .inr ⟨W.heap.size, 2, #[.int .u8 n, .int .u8 m], rfl, hB, heap_alloc_new W _, Nat.le_refl _, by unfold maxLen; decide, rfl, by simp [bs, b8_toNat h0 h1, b8_toNat h2 h3]⟩⟩
theorem own_three (W : World) (B : Nat) (hB : B ≤ W.heap.size) (n m k : Int) (h0 : 0 ≤ n) (h1 : n < 256) (h2 : 0 ≤ m) (h3 : m < 256) (h4 : 0 ≤ k) (h5 : k < 256) : Own (W.alloc (.cells #[.int .u8 n, .int .u8 m, .int .u8 k] 5)) B (.slice (some ⟨W.heap.size, 0, none⟩) 3 3) [b8 n, b8 m, b8 k] :=
  ⟨rfl, .inr ⟨W.heap.size, 3, #[.int .u8 n, .int .u8 m, .int .u8 k], rfl, hB, heap_alloc_new W _, Nat.le_refl _, by unfold maxLen; decide, rfl, by simp [bs, b8_toNat h0 h1, b8_toNat h2 h3, b8_toNat h4 h5]⟩⟩
theorem ta_int (n : Int) (W : World) : (Instr.typeAssert (.iface 2 (.int .i64 n)) 20 2 true).run Tryd.prog W = .ok (.tuple #[.int .i64 n, .bool true]) W := by kernel_rfl
theorem ta_str (s : ByteArray) (W : World) : (Instr.typeAssert (.iface 9 (.string s)) 20 9 true).run Tryd.prog W = .ok (.tuple #[.string s, .bool true]) W := by kernel_rfl
theorem ta_bool (b : Bool) (W : World) : (Instr.typeAssert (.iface 4 (.bool b)) 20 4 true).run Tryd.prog W = .ok (.tuple #[.bool b, .bool true]) W := by kernel_rfl
theorem ta_null_int (W : World) : (Instr.typeAssert (.iface 77 (.agg #[])) 20 2 true).run Tryd.prog W = .ok (.tuple #[.int .i64 0, .bool false]) W := by kernel_rfl
theorem ta_null_str (W : World) : (Instr.typeAssert (.iface 77 (.agg #[])) 20 9 true).run Tryd.prog W = .ok (.tuple #[.string ⟨#[]⟩, .bool false]) W := by kernel_rfl
theorem ta_null_bool (W : World) : (Instr.typeAssert (.iface 77 (.agg #[])) 20 4 true).run Tryd.prog W = .ok (.tuple #[.bool false, .bool false]) W := by kernel_rfl
theorem ta_str_int (s : ByteArray) (W : World) : (Instr.typeAssert (.iface 9 (.string s)) 20 2 true).run Tryd.prog W = .ok (.tuple #[.int .i64 0, .bool false]) W := by kernel_rfl
theorem ta_str_bool (s : ByteArray) (W : World) : (Instr.typeAssert (.iface 9 (.string s)) 20 4 true).run Tryd.prog W = .ok (.tuple #[.bool false, .bool false]) W := by kernel_rfl
theorem ta_bool_int (b : Bool) (W : World) : (Instr.typeAssert (.iface 4 (.bool b)) 20 2 true).run Tryd.prog W = .ok (.tuple #[.int .i64 0, .bool false]) W := by kernel_rfl
theorem ta_bool_str (b : Bool) (W : World) : (Instr.typeAssert (.iface 4 (.bool b)) 20 9 true).run Tryd.prog W = .ok (.tuple #[.string ⟨#[]⟩, .bool false]) W := by kernel_rfl
theorem ta_int_str (n : Int) (W : World) : (Instr.typeAssert (.iface 2 (.int .i64 n)) 20 9 true).run Tryd.prog W = .ok (.tuple #[.string ⟨#[]⟩, .bool false]) W := by kernel_rfl
theorem ta_int_bool (n : Int) (W : World) : (Instr.typeAssert (.iface 2 (.int .i64 n)) 20 4 true).run Tryd.prog W = .ok (.tuple #[.bool false, .bool false]) W := by kernel_rfl
theorem Ext.below {w0 w w' : World} {B : Nat} (hx : Ext w0 w) (hB : w0.heap.size ≤ B) (hb : Below B w w') : Ext w0 w' := Below.trans hx (hb.mono hB)
set_option maxRecDepth 20000 in
set_option maxHeartbeats 1600000 in
theorem row_null (w : World) : Calls Tryd.prog 30 #[.iface 77 (.agg #[])] w (Ret w (Bytes [0])) := by
  have h1 := ta_null_int
  have h2 := ta_null_str
  have h3 := ta_null_bool
  go_enter Tryd.func30, Tryd.ntmps30
  go_wp2
  go_ret
  exact Ret.mk (Ext.alloc _ _) (own_one w w.heap.size (Nat.le_refl _) 0 (by decide) (by decide)).bytes
set_option maxRecDepth 20000 in
set_option maxHeartbeats 1600000 in
theorem row_bool (b : Bool) (w : World) : Calls Tryd.prog 30 #[.iface 4 (.bool b)] w (Ret w (Bytes [3, if b then 1 else 0])) := by
  have h1 := ta_bool_int
  have h2 := ta_bool_str
  have h3 := ta_bool
  cases b
  · go_enter Tryd.func30, Tryd.ntmps30
    go_wp2
    go_ret
    exact Ret.mk (Ext.alloc _ _) (own_two w w.heap.size (Nat.le_refl _) 3 0 (by decide) (by decide) (by decide) (by decide)).bytes
  · go_enter Tryd.func30, Tryd.ntmps30
    go_wp2
    go_ret
    exact Ret.mk (Ext.alloc _ _) (own_two w w.heap.size (Nat.le_refl _) 3 1 (by decide) (by decide) (by decide) (by decide)).bytes
set_option maxRecDepth 20000 in
set_option maxHeartbeats 1600000 in
theorem row_int (n : Int) (w : World) (h0 : -9223372036854775808 ≤ n) (h1 : n < 9223372036854775808) : Calls Tryd.prog 30 #[.iface 2 (.int .i64 n)] w (Ret w (Bytes (1 :: ord64 n))) := by
  have KI := hide (fun (W : World) => int_any n W h0 h1)
  clear h0 h1
  have h1 := ta_int
  go_enter Tryd.func30, Tryd.ntmps30
  go_wp2_with (first
    | (go_at_call 45; (with_reducible refine (KI.out _).mono ?_); rintro e w2 ⟨v2, rfl, hx2, A, c, hv2, hc2, hr2⟩; rw [show (ord64 n).length = 8 from rfl] at hv2; subst hv2)
    | (at_builtin; refine wpList_cat (by rfl) (.tmp 10) (.tmp 12) rfl w.heap.size _ [b8 1] (ord64 n) A 8 c rfl rfl rfl ((own_one w w.heap.size (Nat.le_refl _) 1 (by decide) (by decide)).ext hx2) hr2 (Nat.le_trans (Ext.alloc w _).size hx2.size) (by rw [show (ord64 n).length = 8 from rfl]; decide) ?_; intro v3 w3 ho3 hb3))
  go_ret
  exact Ret.mk (((Ext.alloc w _).trans hx2).below (Nat.le_refl _) hb3) ho3.bytes
set_option maxRecDepth 20000 in
set_option maxHeartbeats 1600000 in
theorem row_text (s : ByteArray) (w : World) (hs : s.size ≤ 60) : Calls Tryd.prog 30 #[.iface 9 (.string s)] w (Ret w (Bytes (2 :: b8 (s.size : Int) :: s.data.toList))) := by
  have h1 := ta_str_int
  have h2 := ta_str
  have hw : IntKind.u8.wrap (s.size : Int) = (s.size : Int) := by rw [IntKind.wrap_u8]; omega
  go_enter Tryd.func30, Tryd.ntmps30
  go_wp2_with (at_builtin; refine wpList_catS rfl (.tmp 20) (.tmp 21) rfl w.heap.size _ [b8 2, b8 (s.size : Int)] s rfl rfl (own_two w w.heap.size (Nat.le_refl _) 2 (s.size : Int) (by decide) (by decide) (by omega) (by omega)) (Ext.alloc w _).size (by simp; omega) ?_; intro v3 w3 ho3 hb3)
  go_ret
  exact Ret.mk ((Ext.alloc w _).below (Nat.le_refl _) hb3) ho3.bytes
end Go.Proofs.YtpdikmcaihlbaaaDoor
