/-
  A slice of bytes that the call itself makes: append in all its forms as one law.
  From a walk of a law to its row and its card: what is the same for all laws of this seat.
  Plain functions of layer 2 (octet): what numbers and texts are as bytes. No program is spoken of.
  CRC-32 as plain functions: by a table of four bits, and bit by bit; a turned bit changes it. No program is spoken of.
  CRC-32: the call, four bits at a time by a table, and the document's own, bit by bit.
  The seat's package-level table, as the rows list it.
-/
import Derived.Test.YtkbmcebdhiiffaaDoorCards
import Derived.Test.YtkbmcebdhiiffaaDoorTie
import Derived.Deep.DeepHandedRow
import Derived.Lib.LaidTab
import Derived.SizedLaws
import Derived.Test.YtkbmcebdhiiffaaDoorPkCardRcDecodes0
set_option linter.unusedVariables false
set_option linter.unusedSimpArgs false

namespace Go.Proofs.YtkbmcebdhiiffaaDoor
open Go.RowKit

theorem info_u8 : (Tryd.prog.info? 5).map (fun i => (i.zero, i.size, i.bytes)) = some (some (.int .u8 0), 1, 1) := by kernel_rfl

/-- The value v is a slice of the call's own (in a block from base on, or nil) that holds just l. -/
def Own (w : World) (base : Nat) (v : Value) (l : List UInt8) : Prop := w.ownsRow base 5 1 v l.length (bs l)
theorem Own.nil (w : World) (base : Nat) : Own w base (.slice none 0 0) [] := World.ownsRow_nil _ _ _ _
theorem Own.alloc {w : World} {base : Nat} {v : Value} {l : List UInt8} (h : Own w base v l) (o : Obj) : Own (w.alloc o) base v l := World.ownsRow.alloc h o
theorem Own.drew {w : World} {base : Nat} {v : Value} {l : List UInt8} (h : Own w base v l) : Own w.drew base v l := h
theorem Own.bytes {w : World} {base : Nat} {v : Value} {l : List UInt8} (h : Own w base v l) : Bytes l w v := Bytes.own h
/-- It stays while nothing but new blocks come. -/
theorem Own.ext {w w' : World} {base : Nat} {v : Value} {l : List UInt8} (h : Own w base v l) (hx : Ext w w') : Own w' base v l := by
  refine ⟨h.1, ?_⟩
  rcases h.2 with hn | ⟨g, cap, cur, rfl, hb, hg, rest⟩
  · exact .inl hn
  · refine .inr ⟨g, cap, cur, rfl, hb, ?_, rest⟩
    have hlt : g < w.heap.size := by
      rcases Nat.lt_or_ge g w.heap.size with h' | h'
      · exact h'
      · rw [Array.getElem?_eq_none h'] at hg; cases hg
    rw [Below.block hx g hlt]
    exact hg

/-- Its place i: what it holds, that it may be written, what the slice holds behind a store there. -/
theorem Own.at {w : World} {base : Nat} {v : Value} {l : List UInt8} (h : Own w base v l) {i : Nat} {x : UInt8} (hx : l[i]? = some x) :
    ∃ g cap, v = .slice (some ⟨g, 0, none⟩) l.length cap ∧ base ≤ g ∧ w.cell? ⟨g, i, none⟩ = some (.int .u8 (x.toNat : Int)) ∧ w.frozen? ⟨g, i, none⟩ = false ∧
      Hid (∀ n, 0 ≤ n → n < 256 → Own (w.setCell ⟨g, i, none⟩ (.int .u8 n)) base v (l.set i (b8 n))) := by
  obtain ⟨hi, hix⟩ := List.getElem?_eq_some_iff.1 hx
  rcases h.2 with ⟨rfl, h0⟩ | ⟨g, cap, cur, rfl, hb, hg, hnc, hcm, hcs, ht⟩
  · omega
  · have hc : w.cell? ⟨g, i, none⟩ = some (.int .u8 (x.toNat : Int)) := by
      have := h.cells (g := g) rfl i (.int .u8 (x.toNat : Int)) (by rw [bs_get, hx]; rfl)
      rw [add_flat, Nat.zero_add] at this
      exact this
    refine ⟨g, cap, rfl, hb, hc, by simp [World.frozen?, hg], fun n h0 h1 => ?_⟩
    refine ⟨by rw [bs_length]; simp, .inr ⟨g, cap, cur.setIfInBounds i (.int .u8 n), by rw [List.length_set], hb, ?_, by rw [List.length_set]; exact hnc, hcm, by simpa using hcs, ?_⟩⟩
    · simp [World.setCell, Array.getElem?_modify, hg]
    · have e : bs (l.set i (b8 n)) = (bs l).set i (.int .u8 n) := by unfold bs; rw [List.map_set, b8_toNat h0 h1]
      rw [e, ← ht, List.length_set, Array.toList_setIfInBounds, List.take_set]
theorem Rd.byte (w : World) (t : TypeId) (b : UInt8) : Rd (w.alloc (.cells #[.int .u8 (b.toNat : Int)] t)) (some ⟨w.heap.size, 0, none⟩) [b] := Rd.new w t [b] []
theorem Rd.one (w : World) (t : TypeId) (n : Int) (h0 : 0 ≤ n) (h1 : n < 256) : Rd (w.alloc (.cells #[.int .u8 n] t)) (some ⟨w.heap.size, 0, none⟩) [b8 n] := by
  have := Rd.byte w t (b8 n)
  rwa [b8_toNat h0 h1] at this
theorem run_append_from_nil {P : Program} (w : World) (base t ty e : Nat) (i : TypeInfo) (size : Nat) (ht : P.underlying t = some (.slice e)) (hi : P.info? e = some i)
    (v : Value) (n : Nat) (xs : List Value) (hown : w.ownsRow base e size v n xs) (c : Nat) : (Builtin.append_ #[t, t] ty #[v, .slice none 0 c]).run P w = .ok v w := by
  rcases hown.2 with ⟨rfl, rfl⟩ | ⟨g, cap, cur, rfl, _, _, hnc, _⟩
  · simp [Builtin.append_, run_underlying ht, sizeOf, typeInfo, hi, Builtin.lenOf, Builtin.firstCells]
  · simp [Builtin.append_, run_underlying ht, sizeOf, typeInfo, hi, Builtin.lenOf, Builtin.firstCells, hnc, storeCells]

theorem run_cat (w : World) (base ty : Nat) (v : Value) (l m : List UInt8) (A : Option Addr) (c : Nat) (hown : Own w base v l) (hr : Rd w A m) (hbase : base ≤ w.heap.size) (hlen : l.length + m.length ≤ 140737488355328) :
    ∃ v' w', (Builtin.append_ #[23, 23] ty #[v, .slice A m.length c]).run Tryd.prog w = .ok v' w' ∧ Own w' base v' (l ++ m) ∧ Below base w w' ∧ w.grownBy w' v.ownBlock := by
  obtain ⟨i0, hi, hz0, hz1, hz2⟩ := info_parts info_u8
  rcases A with _ | a
  · have hm : m = [] := by
      cases m with
      | nil => rfl
      | cons x xs => obtain ⟨_, _, hA, _⟩ := hr (by simp); cases hA
    subst hm
    refine ⟨v, w, run_append_from_nil w base _ ty _ i0 1 Tryd.underlying23 hi v _ _ hown c, by rw [List.append_nil]; exact hown, Below.refl _ _, ⟨rfl, rfl, rfl, Nat.le_refl _, fun _ _ _ => rfl⟩⟩
  · have hc : ∀ j u, (bs m)[j]? = some u → w.cell? (a.add j) = some u := by
      intro j u hu
      by_cases hn : m = []
      · subst hn; simp [bs] at hu
      · exact hr.cells rfl hn j u hu
    obtain ⟨v', w', hrun, h2, h3, _⟩ := run_append_own (P := Tryd.prog) w base 23 ty 5 i0 _ 1 1 Tryd.underlying23 hi hz0 hz1 hz2 rfl (by decide) v _ _ hown a m.length c (bs m) (by rw [bs_length]; simp) hc (bs_one m)
      (by unfold maxLen; omega) (by omega) hbase
    refine ⟨v', w', hrun, ?_, (Below.refl _ _).grown h3 hbase (fun k hk => (hown.lt k hk).1), h3⟩
    unfold Own
    rw [bs_append, List.length_append]
    exact h2

section
variable {ops : Array Oper} {rest : List Oper} {o : Oper} {a : Act} {Q : Exit → Act → World → Prop} {w : World}
theorem wp_cat {K : Act → World → Prop} (s x : Operand) (ho : o.op = .call { callee := .builtin .append, args := #[s, x], argTypes := #[23, 23] })
    (base : Nat) (v : Value) (l m : List UInt8) (A : Option Addr) (n c : Nat) (hs : a.eval s = v) (hx : a.eval x = .slice A n c) (hn : n = m.length) (hown : Own w base v l) (hr : Rd w A m) (hbase : base ≤ w.heap.size) (hlen : l.length + m.length ≤ 140737488355328)
    (h : ∀ v' w', Own w' base v' (l ++ m) → Below base w w' → K (a.put o.dst v') w') : o.wp Tryd.prog a w K Q := by
  subst hn
  obtain ⟨v', w', hrun, h2, h3, _⟩ := run_cat w base o.type v l m A c hown hr hbase hlen
  unfold Oper.wp execOp
  simp only [ho, resolve, invoke, builtin, Sem.run_bind, Sem.run_pure, Result.andThen_ok, List.map_toArray, List.map_cons, List.map_nil, hs, hx, hrun]
  exact h v' w' h2 h3
theorem wpList_wanted {P : Program} {ops : Array Oper} {rest : List Oper} {o : Oper} {a : Act} {Q : Exit → Act → World → Prop} {w : World} (hgd : Region.wanted o (yielded ops a.tmps) = true)
    (h : ∀ K : Act → World → Prop, (∀ a w, wpList P ops Q rest a w → K a w) → o.wp P a w K Q) : wpList P ops Q (o :: rest) a w :=
  wpList_step fun K hK => by rw [if_pos hgd]; exact h K hK
/-- 'v = append(v, x...)', v of the call's own, x whatever reads as m. -/
theorem wpList_cat (hgd : Region.wanted o (yielded ops a.tmps) = true) (s x : Operand) (ho : o.op = .call { callee := .builtin .append, args := #[s, x], argTypes := #[23, 23] })
    (base : Nat) (v : Value) (l m : List UInt8) (A : Option Addr) (n c : Nat) (hs : a.eval s = v) (hx : a.eval x = .slice A n c) (hn : n = m.length) (hown : Own w base v l) (hr : Rd w A m) (hbase : base ≤ w.heap.size) (hlen : l.length + m.length ≤ 140737488355328)
    (h : ∀ v' w', Own w' base v' (l ++ m) → Below base w w' → wpList Tryd.prog ops Q rest (a.put o.dst v') w') : wpList Tryd.prog ops Q (o :: rest) a w :=
  wpList_wanted hgd fun _ hK => wp_cat s x ho base v l m A n c hs hx hn hown hr hbase hlen fun v' w' h2 h3 => hK _ _ (h v' w' h2 h3)
/-- 'v = append(v, n)', one byte. -/
theorem wpList_push {w0 : World} {n : Int} (hgd : Region.wanted o (yielded ops a.tmps) = true) (s x : Operand) (ho : o.op = .call { callee := .builtin .append, args := #[s, x], argTypes := #[23, 23] })
    (base : Nat) (v : Value) (l : List UInt8) (hs : a.eval s = v) (hx : a.eval x = .slice (some ⟨w0.heap.size, 0, none⟩) 1 1) (hown : Own w0 base v l) (h0 : 0 ≤ n) (h1 : n < 256) (hbase : base ≤ w0.heap.size) (hlen : l.length < 140737488355328)
    (h : ∀ v' w', Own w' base v' (l ++ [b8 n]) → Below base w0 w' → wpList Tryd.prog ops Q rest (a.put o.dst v') w') : wpList Tryd.prog ops Q (o :: rest) a (w0.alloc (.cells #[.int .u8 n] 5)) :=
  wpList_cat hgd s x ho base v l [b8 n] _ 1 1 hs hx rfl (hown.alloc _) (Rd.one w0 _ n h0 h1) (by simp; omega) (by simp; omega) fun v' w' h2 h3 =>
    h v' w' h2 (((Below.refl base w0).alloc hbase _).trans h3)
/-- 'string(x)'. -/
theorem wpList_str (hgd : Region.wanted o (yielded ops a.tmps) = true) (x : Operand) (ho : o.op = .convert 23 9 x) (l : List UInt8) (hx : Bytes l w (a.eval x))
    (h : wpList Tryd.prog ops Q rest (a.put o.dst (.string ⟨l.toArray⟩)) w) : wpList Tryd.prog ops Q (o :: rest) a w := by
  obtain ⟨A, c, hv, _, hr⟩ := hx
  refine wpList_wanted hgd fun K hK => ?_
  have hrun := hr.str (P := Tryd.prog) 23 9 5 c Tryd.underlying23 Tryd.underlying5 Tryd.underlying9
  unfold Oper.wp
  have he : (execOp a.eval o).run Tryd.prog w = .ok (.value (.string ⟨l.toArray⟩)) w := by simp [execOp, ho, hv, hrun]
  rw [he]
  exact hK _ _ h
end
end Go.Proofs.YtkbmcebdhiiffaaDoor
namespace Go.Proofs.YtkbmcebdhiiffaaDoor
open Go.ChangeShapes Go.WideShapes Go.ChangeAt Go.RowKit

theorem own : ownKnob Tryd.prog.godebug = none := by kernel_rfl
theorem laidOut : laidOutB Tryd.prog = true := by kernel_rfl

section
variable {H : Type} {enc : TypeId × Value → H} {P : Program} {W W' : World}
/-- What was read reads so again while nothing of it has turned. -/
theorem trodAll_stays (hl : laidOutB P = true) {sp : Nat → Bool} : ∀ (ts : List TypeId) (vs : List Value) (ds : List (DataW H)) (ps : List MemPlace), (∀ t ∈ ts, P.readableRec t = true ∧ t < P.types.size) →
    DataW.TrodAll enc P W 0 (fun _ => true) true ts vs ds ps → (∀ p ∈ ps, W.sameAt W' p) → (∀ p ∈ ps, sp p.block = true) → DataW.TrodAll enc P W' 0 sp true ts vs ds ps
  | [], vs, ds, ps, _, h, _, _ => by
    cases vs <;> cases ds <;> simp [DataW.TrodAll] at h
    subst h
    exact trodAll_mk0
  | t :: ts, vs, ds, ps, hr, h, hs, hp => by
    obtain ⟨v, vs', d, ds', p, q, rfl, rfl, rfl, h1, h2⟩ := trodAll_cons h
    have h3 := WideElems.Trod_stays hl (hr t (by simp)).1 (hr t (by simp)).2 (sp' := sp) h1 (fun x hx => hs x (List.mem_append_left _ hx)) (fun x hx => hp x (List.mem_append_left _ hx))
    have h4 := trodAll_stays hl ts vs' ds' q (fun x hx => hr x (List.mem_cons_of_mem _ hx)) h2 (fun x hx => hs x (List.mem_append_right _ hx)) (fun x hx => hp x (List.mem_append_right _ hx))
    exact trodAll_cons_mk h3 h4

/-- A law's post: true, and the arguments as they were. -/
theorem law_post {f : Func} {s : ChangeSpec} {args : Array Value} {ds gs : List (DataW H)} {before : List MemPlace} {tb : TypeId} (hl : laidOutB P = true)
    (hW : DataW.Whole enc P f.params.toList s.vars false W args.toList ds gs before) (hv : s.vars = []) (hparams : ∀ t ∈ f.params.toList, P.readableRec t = true ∧ t < P.types.size)
    (hres : f.resultTypes = #[tb]) (hub : P.underlying tb = some .bool) (hfn : s.fn H (ds ++ gs) = { results := [.lit (.bool true)], args := ds }) (hb : Below W.heap.size W W') :
    s.post enc P f false true false false W args (.bool true) W' := by
  have hW' := hW
  obtain ⟨p, q, hA, hV, rfl, hz, hn⟩ := hW
  rw [hv] at hV
  obtain ⟨rfl, rfl⟩ := trodVars_none hV
  have hlt := hW'.lt
  have hsame : ∀ x ∈ p, W.sameAt W' x := fun x hx => hb.same (hlt x (by simpa using hx))
  have hargs : ∀ sp : Nat → Bool, (∀ x ∈ p, sp x.block = true) → DataW.TrodAll enc P W' 0 sp true f.params.toList args.toList (s.fn H (ds ++ [])).args p := fun sp hs => by
    rw [hfn]
    exact trodAll_stays hl _ _ _ _ hparams hA hsame hs
  have hvars : ∀ sp : Nat → Bool, DataW.TrodVars enc P W' sp s.vars (s.fn H (ds ++ [])).vars [] := fun sp => by rw [hfn, hv]; rfl
  have hresults : ∀ (b : Nat) (sp : Nat → Bool) (hd : Bool), DataW.TrodAll enc P W' b sp hd f.resultTypes.toList ((Value.bool true).resultList f.resultTypes.size) (s.fn H (ds ++ [])).results [] := fun b sp hd => by
    rw [hfn, hres]
    exact trodAll_cons_mk (shut_bool hub true) trodAll_mk0
  refine ⟨ds, [], p ++ [], [], p, [], hW', hresults _ _ _, hargs _ (fun x hx => by simpa using hlt x (by simpa using hx)), hvars _, World.keptBut_mono (fun x hx => ⟨hx, ?_⟩) (hb.frame (· ∈ p ++ [])), fun h => by cases h⟩
  exact Or.inr (by simpa using hx)
end

set_option maxRecDepth 100000 in
/-- An argument that is a slice of bytes. -/
theorem open_bytes {H : Type} {enc : TypeId × Value → H} {W : World} {base : Nat} {v : Value} {d : DataW H} {ps : List MemPlace} (hval : Value.okWide Tryd.prog W .any base 23 v)
    (h : DataW.Trod enc Tryd.prog W 0 (fun _ => true) true 23 v d ps) :
    ∃ A c l, v = .slice A l.length c ∧ l.length ≤ c ∧ Rd W A l ∧ ((d = .nil ∧ l = []) ∨ ∃ elems spare, d = .slice elems spare ∧ elems.length = l.length ∧ elems.length + spare.length = c) := by
  obtain ⟨a0, len, cap, rfl⟩ := okWide_slice Tryd.underlying23 hval
  obtain ⟨n, hn⟩ := h
  rcases open_ints Tryd.underlying23 Tryd.underlying5 (by kernel_rfl) hn with ⟨hc, hx⟩ | ⟨a, len', cap', zs, hc, _, hlc, _, hz, hx, hcell, hwf⟩
  · simp [Value.cells] at hc
    obtain ⟨rfl, rfl, rfl⟩ := hc
    simp only [Prod.mk.injEq] at hx
    exact ⟨none, 0, [], rfl, Nat.le_refl _, Rd.nil _ _, .inl ⟨hx.1, rfl⟩⟩
  · simp [Value.cells] at hc
    obtain ⟨rfl, rfl, rfl⟩ := hc
    simp only [Prod.mk.injEq] at hx
    simp only [if_true] at hz
    have hlen : ((zs.take len).map b8).length = len := by simp; omega
    refine ⟨some a, cap, (zs.take len).map b8, by rw [hlen], by rw [hlen]; exact hlc, fun hn0 => ?_, .inr ⟨_, _, hx.1, ?_, ?_⟩⟩
    · have hp : 0 < zs.length := by
        have : len ≠ 0 := by intro e; apply hn0; apply List.length_eq_zero_iff.1; rw [hlen, e]
        omega
      obtain ⟨b, off, rfl, hcl⟩ := ints_at hcell hp
      refine ⟨b, off, rfl, fun j u hu => ?_⟩
      have hj : j < len := by
        rcases Nat.lt_or_ge j len with h' | h'
        · exact h'
        · rw [List.getElem?_eq_none (by rw [hlen]; exact h')] at hu; cases hu
      rw [hcl j (by omega)]
      rw [List.getElem?_map, List.getElem?_take_of_lt hj, List.getElem?_eq_getElem (by omega)] at hu
      have hu' : b8 zs[j] = u := by simpa using hu
      have hw := bounds_u8 (hwf zs[j] (List.getElem_mem _))
      rw [← hu', b8_toNat hw.1 (by omega), List.getD_eq_getElem?_getD, List.getElem?_eq_getElem (by omega)]
      rfl
    · rw [hlen]; simp [lits]; omega
    · simp [lits]; omega

/-- How long it may be, by the form's own reach. -/
theorem reach_bytes {H : Type} {P : Program} {ts : List TypeId} {ds : List (DataW H)} {t e : TypeId} {j : Nat} {l : List UInt8} {c : Nat} {d : DataW H} (hz : (DataW.weightsEach P ts ds).all (· ≤ reachBytes) = true) (ht : ts[j]? = some t) (hd : ds[j]? = some d)
    (hu : P.underlying t = some (.slice e)) (he : P.bytesOf e = 1) (h : (d = .nil ∧ l = []) ∨ ∃ elems spare, d = .slice elems spare ∧ elems.length = l.length ∧ elems.length + spare.length = c) : l.length ≤ 140737488351232 := by
  rcases h with ⟨_, rfl⟩ | ⟨elems, spare, rfl, hl, hc⟩
  · simp
  · have := sized_slice hz ht hd hu
    rw [he] at this
    unfold reachBytes at this
    omega
theorem readable_all {P : Program} (ts : List TypeId) (h : (ts.all fun t => P.readableRec t && decide (t < P.types.size)) = true) : ∀ t ∈ ts, P.readableRec t = true ∧ t < P.types.size := by
  intro t ht
  have := List.all_eq_true.1 h t ht
  simpa using this
theorem bulk_one {H : Type} (d : DataW H) : 1 ≤ Rows.uptoBulk d := by
  cases d with
  | lit l => cases l <;> simp [Rows.uptoBulk]
  | _ => simp [Rows.uptoBulk]
theorem bulk_length {H : Type} (l : List (DataW H)) : l.length ≤ Rows.uptoBulkAll l := by
  induction l with
  | nil => simp [Rows.uptoBulkAll]
  | cons x r ih =>
    have := bulk_one x
    simp only [Rows.uptoBulkAll, List.length_cons]
    omega
theorem bulk_bytes {H : Type} {d : DataW H} {l : List UInt8} {c : Nat} (h : (d = .nil ∧ l = []) ∨ ∃ elems spare, d = .slice elems spare ∧ elems.length = l.length ∧ elems.length + spare.length = c) : l.length + 1 ≤ Rows.uptoBulk d := by
  rcases h with ⟨rfl, rfl⟩ | ⟨elems, spare, rfl, hl, _⟩
  · simp [Rows.uptoBulk]
  · have h1 := bulk_length elems
    simp only [Rows.uptoBulk]
    omega
theorem bulk_string {H : Type} (s : ByteArray) : s.size + 1 ≤ Rows.uptoBulk (.lit (.string s.data.toList) : DataW H) := by
  simp only [Rows.uptoBulk]
  have : s.data.toList.length = s.size := by rw [Array.length_toList]; rfl
  omega
end Go.Proofs.YtkbmcebdhiiffaaDoor
namespace Go.Proofs.YtkbmcebdhiiffaaDoor

/-- The eight bytes of a number, the highest first. -/
def be64 (u : Int) : List UInt8 :=
  [b8 (u / 72057594037927936 % 256), b8 (u / 281474976710656 % 256), b8 (u / 1099511627776 % 256), b8 (u / 4294967296 % 256),
   b8 (u / 16777216 % 256), b8 (u / 65536 % 256), b8 (u / 256 % 256), b8 (u % 256)]
theorem be64_length (u : Int) : (be64 u).length = 8 := rfl
theorem be64_cells (u : Int) (h0 : 0 ≤ u) (h1 : u < 18446744073709551616) : bs (be64 u) =
    [.int .u8 (u / 72057594037927936), .int .u8 (u / 281474976710656 % 256), .int .u8 (u / 1099511627776 % 256), .int .u8 (u / 4294967296 % 256),
     .int .u8 (u / 16777216 % 256), .int .u8 (u / 65536 % 256), .int .u8 (u / 256 % 256), .int .u8 (u % 256)] := by
  have e : u / 72057594037927936 % 256 = u / 72057594037927936 := by omega
  unfold be64 bs
  simp only [List.map_cons, List.map_nil]
  rw [b8_toNat (by omega) (by omega), b8_toNat (by omega) (by omega), b8_toNat (by omega) (by omega), b8_toNat (by omega) (by omega), b8_toNat (by omega) (by omega),
    b8_toNat (by omega) (by omega), b8_toNat (by omega) (by omega), b8_toNat (by omega) (by omega), e]

/-- The number that bytes are, the highest first. -/
def num (l : List UInt8) : Int := l.foldl (fun a b => a * 256 + (b.toNat : Int)) 0
theorem num_snoc (l : List UInt8) (b : UInt8) : num (l ++ [b]) = num l * 256 + (b.toNat : Int) := by simp [num]
theorem num_from (l : List UInt8) : ∀ a : Int, 0 ≤ a → 0 ≤ l.foldl (fun a b => a * 256 + (b.toNat : Int)) a ∧ l.foldl (fun a b => a * 256 + (b.toNat : Int)) a < (a + 1) * 256 ^ l.length := by
  induction l with
  | nil => intro a h; simp; omega
  | cons b l ih =>
    intro a h
    have hb := b.toNat_lt
    have := ih (a * 256 + (b.toNat : Int)) (by omega)
    refine ⟨this.1, Int.lt_of_lt_of_le this.2 ?_⟩
    rw [List.length_cons, Int.pow_succ, Int.mul_comm (256 ^ l.length) 256, ← Int.mul_assoc]
    exact Int.mul_le_mul_of_nonneg_right (by omega) (Int.le_of_lt (Int.pow_pos (by omega)))
theorem num_bound (l : List UInt8) : 0 ≤ num l ∧ num l < 256 ^ l.length := by
  have := num_from l 0 (by omega)
  unfold num
  simpa using this
theorem num_be64 (u : Int) (h0 : 0 ≤ u) (h1 : u < 18446744073709551616) : num (be64 u) = u := by
  unfold num be64
  simp only [List.foldl_cons, List.foldl_nil]
  rw [b8_toNat (by omega) (by omega), b8_toNat (by omega) (by omega), b8_toNat (by omega) (by omega), b8_toNat (by omega) (by omega), b8_toNat (by omega) (by omega),
    b8_toNat (by omega) (by omega), b8_toNat (by omega) (by omega), b8_toNat (by omega) (by omega)]
  omega

theorem num_step (l : List UInt8) (k j : Nat) (x : UInt8) (h : l[k + j]? = some x) : num ((l.drop k).take (j + 1)) = num ((l.drop k).take j) * 256 + (x.toNat : Int) := by
  have h' : (l.drop k)[j]? = some x := by rw [List.getElem?_drop]; exact h
  rw [List.take_add_one, h', Option.toList_some, num_snoc]
theorem num_take_lt (l : List UInt8) (j : Nat) (h : j ≤ 7) : num (l.take j) < 72057594037927936 := by
  have h1 := (num_bound (l.take j)).2
  have h3 : 256 ^ (l.take j).length ≤ 256 ^ 7 := Nat.pow_le_pow_right (by omega) (Nat.le_trans (List.length_take_le _ _) h)
  have h2 : ((256 ^ (l.take j).length : Nat) : Int) ≤ ((256 ^ 7 : Nat) : Int) := Int.ofNat_le.2 h3
  rw [Int.natCast_pow] at h2
  have h4 : ((256 ^ 7 : Nat) : Int) = 72057594037927936 := by decide
  have h5 : (256 : Int) ^ (l.take j).length ≤ 72057594037927936 := by rw [← h4]; exact h2
  exact Int.lt_of_lt_of_le h1 h5
theorem num_take_lt8 (l : List UInt8) : 0 ≤ num (l.take 8) ∧ num (l.take 8) < 18446744073709551616 := by
  have h := num_bound (l.take 8)
  have h3 : 256 ^ (l.take 8).length ≤ 256 ^ 8 := Nat.pow_le_pow_right (by omega) (List.length_take_le _ _)
  have h2 : ((256 ^ (l.take 8).length : Nat) : Int) ≤ ((256 ^ 8 : Nat) : Int) := Int.ofNat_le.2 h3
  rw [Int.natCast_pow] at h2
  have h4 : ((256 ^ 8 : Nat) : Int) = 18446744073709551616 := by decide
  have h5 : (256 : Int) ^ (l.take 8).length ≤ 18446744073709551616 := by rw [← h4]; exact h2
  exact ⟨h.1, Int.lt_of_lt_of_le h.2 h5⟩
theorem or_low (a b : Nat) (hb : b < 256) : a * 256 ||| b = a * 256 + b := by
  have := Nat.shiftLeft_add_eq_or_of_lt (i := 8) (b := b) (by omega) a
  rw [Nat.shiftLeft_eq] at this
  exact this.symm
theorem or_byte (a b : Int) (ha0 : 0 ≤ a) (ha1 : a < 72057594037927936) (hb0 : 0 ≤ b) (hb1 : b < 256) :
    bits .or .u64 (IntKind.u64.wrap (a * 256)) (IntKind.u64.wrap b) = a * 256 + b := by
  have e1 : IntKind.u64.wrap (a * 256) = ((a.toNat * 256 : Nat) : Int) := by rw [IntKind.wrap_u64]; omega
  have e2 : IntKind.u64.wrap b = ((b.toNat : Nat) : Int) := by rw [IntKind.wrap_u64]; omega
  rw [e1, e2]
  show IntKind.u64.wrap ((BitVec.ofInt 64 ((a.toNat * 256 : Nat) : Int) ||| BitVec.ofInt 64 ((b.toNat : Nat) : Int)).toNat : Int) = _
  rw [BitVec.toNat_or, BitVec.ofInt_natCast, BitVec.ofInt_natCast, BitVec.toNat_ofNat, BitVec.toNat_ofNat,
    Nat.mod_eq_of_lt (show a.toNat * 256 < 2 ^ 64 by omega), Nat.mod_eq_of_lt (show b.toNat < 2 ^ 64 by omega), or_low _ _ (by omega), IntKind.wrap_u64]
  omega

/-- A text's bytes with ff behind each 00. -/
def esc : List UInt8 → List UInt8
  | [] => []
  | b :: l => if b = 0 then 0 :: 255 :: esc l else b :: esc l
theorem esc_append (l m : List UInt8) : esc (l ++ m) = esc l ++ esc m := by
  induction l with
  | nil => rfl
  | cons b l ih => simp only [List.cons_append, esc]; split <;> simp [ih]
theorem esc_length (l : List UInt8) : l.length ≤ (esc l).length ∧ (esc l).length ≤ 2 * l.length := by
  induction l with
  | nil => simp [esc]
  | cons b l ih => simp only [esc]; split <;> simp <;> omega
/-- A text as bytes. -/
def text (l : List UInt8) : List UInt8 := esc l ++ [0, 1]
end Go.Proofs.YtkbmcebdhiiffaaDoor
namespace Go.Proofs.YtkbmcebdhiiffaaDoor

/-- The table of the sums of four bits. -/
def crcTab : List Nat := [0, 498536548, 997073096, 651767980, 1994146192, 1802195444, 1303535960, 1342533948, 3988292384, 4027552580, 3604390888, 3412177804, 2607071920, 2262029012, 2685067896, 3183342108]
def crcAt (t : Nat) : Nat := crcTab.getD t 0
/-- One bit. -/
def cb (c : Nat) : Nat := c / 2 ^^^ (if c % 2 = 1 then 3988292384 else 0)
/-- Four bits by the table. -/
def ch (c : Nat) : Nat := c / 16 ^^^ crcAt (c % 16)
/-- A byte. -/
def crcStep (c : Nat) (x : UInt8) : Nat := ch (ch (c ^^^ x.toNat))
def crcFold (l : List UInt8) : Nat := l.foldl crcStep 4294967295
def crc (l : List UInt8) : Nat := 4294967295 - crcFold l

theorem cb_xor (a b : Nat) : cb (a ^^^ b) = cb a ^^^ cb b := by
  unfold cb
  rw [Nat.xor_div_two]
  have h := @Nat.xor_mod_two_eq_one a b
  rcases Nat.mod_two_eq_zero_or_one a with ha | ha <;> rcases Nat.mod_two_eq_zero_or_one b with hb | hb <;> simp [ha, hb] at h ⊢
  · rw [Nat.xor_assoc]
  · rw [Nat.xor_assoc, Nat.xor_assoc, Nat.xor_comm (b / 2)]
  · rw [Nat.xor_assoc, Nat.xor_comm 3988292384, Nat.xor_assoc, Nat.xor_self, Nat.xor_zero]
theorem cb_even (h : Nat) : cb (2 * h) = h := by unfold cb; simp [Nat.mul_mod_right]
theorem cb4_small : ∀ t, t < 16 → cb (cb (cb (cb t))) = crcAt t := by decide
theorem sixteen (c : Nat) : 2 * (2 * (2 * (2 * (c / 16)))) ^^^ c % 16 = c := by
  have h := Nat.shiftLeft_add_eq_or_of_lt (i := 4) (b := c % 16) (Nat.mod_lt _ (by decide)) (c / 16)
  have e : 2 * (2 * (2 * (2 * (c / 16)))) = c / 16 * 2 ^ 4 := by omega
  rw [e]
  apply Nat.eq_of_testBit_eq
  intro i
  rw [Nat.testBit_xor]
  by_cases hi : i < 4
  · have h1 : (c / 16 * 2 ^ 4).testBit i = false := by rw [Nat.testBit_mul_two_pow, decide_eq_false (by omega), Bool.false_and]
    have h2 : (c % 16).testBit i = c.testBit i := by rw [show (16 : Nat) = 2 ^ 4 from rfl, Nat.testBit_mod_two_pow]; simp [hi]
    rw [h1, h2]; simp
  · have h1 : (c / 16 * 2 ^ 4).testBit i = c.testBit i := by
      rw [Nat.testBit_mul_two_pow, show c / 16 = c / 2 ^ 4 from rfl, Nat.testBit_div_two_pow]
      simp [show 4 ≤ i from by omega]
    have h2 : (c % 16).testBit i = false := by rw [show (16 : Nat) = 2 ^ 4 from rfl, Nat.testBit_mod_two_pow]; simp [hi]
    rw [h1, h2]; simp
theorem ch_bits (c : Nat) : ch c = cb (cb (cb (cb c))) := by
  have hs := sixteen c
  have : cb (cb (cb (cb c))) = cb (cb (cb (cb (2 * (2 * (2 * (2 * (c / 16)))) ^^^ c % 16)))) := by rw [hs]
  rw [this]
  simp only [cb_xor, cb_even]
  rw [cb4_small _ (Nat.mod_lt _ (by decide))]
  rfl

/-- The document's own step: bit k of the byte. -/
def rb (x : Nat) (s k : Nat) : Nat := s / 2 ^^^ (if (s % 2 ^^^ x / 2 ^ k % 2) = 1 then 3988292384 else 0)
def rbs (x : Nat) (s : Nat) : Nat → Nat
  | 0 => s
  | k + 1 => rb x (rbs x s k) k
def cbs (c : Nat) : Nat → Nat
  | 0 => c
  | k + 1 => cb (cbs c k)
theorem rbs_cbs (x s k : Nat) : rbs x s k ^^^ x / 2 ^ k = cbs (s ^^^ x) k := by
  induction k with
  | zero => simp [rbs, cbs]
  | succ k ih =>
    simp only [rbs, cbs]
    rw [← ih]
    unfold rb cb
    rw [Nat.xor_div_two, Nat.pow_succ, ← Nat.div_div_eq_div_mul]
    have h := @Nat.xor_mod_two_eq_one (rbs x s k) (x / 2 ^ k)
    have e : ((rbs x s k % 2 ^^^ x / 2 ^ k % 2) = 1) ↔ ((rbs x s k ^^^ x / 2 ^ k) % 2 = 1) := by
      rw [h]
      rcases Nat.mod_two_eq_zero_or_one (rbs x s k) with ha | ha <;> rcases Nat.mod_two_eq_zero_or_one (x / 2 ^ k) with hb | hb <;> simp [ha, hb]
    by_cases hc : (rbs x s k ^^^ x / 2 ^ k) % 2 = 1
    · rw [if_pos (e.2 hc), if_pos hc, Nat.xor_assoc, Nat.xor_assoc, Nat.xor_comm 3988292384]
    · rw [if_neg (fun h => hc (e.1 h)), if_neg hc, Nat.xor_zero, Nat.xor_zero]
theorem rbs_eight (x : UInt8) (s : Nat) : rbs x.toNat s 8 = crcStep s x := by
  have h := rbs_cbs x.toNat s 8
  have hx : x.toNat / 2 ^ 8 = 0 := Nat.div_eq_of_lt x.toNat_lt
  rw [hx, Nat.xor_zero] at h
  rw [h]
  unfold crcStep
  rw [ch_bits, ch_bits]
  rfl

theorem lt32_xor {a b : Nat} (ha : a < 4294967296) (hb : b < 4294967296) : a ^^^ b < 4294967296 := Nat.xor_lt_two_pow (n := 32) ha hb
theorem crcAt_lt (t : Nat) : crcAt t < 4294967296 := by
  by_cases h : t < 16
  · revert t; decide
  · unfold crcAt
    rw [List.getD_eq_getElem?_getD, List.getElem?_eq_none (by simp [crcTab]; omega)]; decide
theorem cb_lt {c : Nat} (h : c < 4294967296) : cb c < 4294967296 := by
  unfold cb
  refine lt32_xor (by omega) ?_
  split <;> omega
theorem ch_lt {c : Nat} (h : c < 4294967296) : ch c < 4294967296 := lt32_xor (by omega) (crcAt_lt _)
theorem crcStep_lt {c : Nat} (x : UInt8) (h : c < 4294967296) : crcStep c x < 4294967296 := ch_lt (ch_lt (lt32_xor h (by have := x.toNat_lt; omega)))
theorem rb_lt {x s k : Nat} (h : s < 4294967296) : rb x s k < 4294967296 := by
  unfold rb
  refine lt32_xor (by omega) ?_
  split <;> omega
theorem rbs_lt {x s : Nat} (h : s < 4294967296) : ∀ k, rbs x s k < 4294967296
  | 0 => h
  | k + 1 => rb_lt (rbs_lt h k)
theorem fold_lt (l : List UInt8) : ∀ c, c < 4294967296 → l.foldl crcStep c < 4294967296 := by
  induction l with
  | nil => intro c h; exact h
  | cons x l ih => intro c h; exact ih _ (crcStep_lt x h)
theorem crcFold_lt (l : List UInt8) : crcFold l < 4294967296 := fold_lt l _ (by decide)
theorem crcFold_snoc (l : List UInt8) (x : UInt8) : crcFold (l ++ [x]) = crcStep (crcFold l) x := by simp [crcFold]

/-- Bit 31 tells whether the bit that went out was one. -/
theorem cb_inj {a b : Nat} (ha : a < 4294967296) (hb : b < 4294967296) (h : cb a = cb b) : a = b := by
  have top : ∀ c, c < 4294967296 → (cb c).testBit 31 = decide (c % 2 = 1) := fun c hc => by
    unfold cb
    rw [Nat.testBit_xor, Nat.testBit_lt_two_pow (x := c / 2) (i := 31) (by omega)]
    by_cases h : c % 2 = 1
    · simp [h]; decide
    · simp [h]
  have t1 := top a ha
  rw [h, top b hb] at t1
  have hp : (a % 2 = 1) ↔ (b % 2 = 1) := by
    constructor
    · intro h1; rw [decide_eq_true h1] at t1; exact of_decide_eq_true t1
    · intro h1; rw [decide_eq_true h1] at t1; exact of_decide_eq_true t1.symm
  unfold cb at h
  have hd : a / 2 = b / 2 := by
    by_cases h1 : a % 2 = 1
    · rw [if_pos h1, if_pos (hp.1 h1)] at h
      have := congrArg (· ^^^ 3988292384) h
      simpa [Nat.xor_assoc, Nat.xor_self, Nat.xor_zero] using this
    · rw [if_neg h1, if_neg (fun h2 => h1 (hp.2 h2))] at h
      simpa using h
  omega
theorem ch_inj {a b : Nat} (ha : a < 4294967296) (hb : b < 4294967296) (h : ch a = ch b) : a = b := by
  rw [ch_bits, ch_bits] at h
  exact cb_inj ha hb (cb_inj (cb_lt ha) (cb_lt hb) (cb_inj (cb_lt (cb_lt ha)) (cb_lt (cb_lt hb)) (cb_inj (cb_lt (cb_lt (cb_lt ha))) (cb_lt (cb_lt (cb_lt hb))) h)))
theorem xor_cancel {a b c : Nat} (h : a ^^^ c = b ^^^ c) : a = b := by
  have := congrArg (· ^^^ c) h
  simpa [Nat.xor_assoc, Nat.xor_self, Nat.xor_zero] using this
theorem crcStep_inj {a b : Nat} (x : UInt8) (ha : a < 4294967296) (hb : b < 4294967296) (h : crcStep a x = crcStep b x) : a = b := by
  have hx : x.toNat < 4294967296 := by have := x.toNat_lt; omega
  exact xor_cancel (ch_inj (lt32_xor ha hx) (lt32_xor hb hx) (ch_inj (ch_lt (lt32_xor ha hx)) (ch_lt (lt32_xor hb hx)) h))
theorem crcStep_byte {c : Nat} (x y : UInt8) (hc : c < 4294967296) (h : crcStep c x = crcStep c y) : x = y := by
  have hx : x.toNat < 4294967296 := by have := x.toNat_lt; omega
  have hy : y.toNat < 4294967296 := by have := y.toNat_lt; omega
  have := ch_inj (lt32_xor hc hx) (lt32_xor hc hy) (ch_inj (ch_lt (lt32_xor hc hx)) (ch_lt (lt32_xor hc hy)) h)
  rw [Nat.xor_comm, Nat.xor_comm c] at this
  exact UInt8.toNat_inj.1 (xor_cancel this)
theorem fold_inj (l : List UInt8) : ∀ a b, a < 4294967296 → b < 4294967296 → l.foldl crcStep a = l.foldl crcStep b → a = b := by
  induction l with
  | nil => intro a b _ _ h; exact h
  | cons x l ih => intro a b ha hb h; exact crcStep_inj x ha hb (ih _ _ (crcStep_lt x ha) (crcStep_lt x hb) h)
/-- One byte turned: another sum. -/
theorem crc_turned (l m : List UInt8) (x y : UInt8) (h : crc (l ++ x :: m) = crc (l ++ y :: m)) : x = y := by
  have h1 := crcFold_lt (l ++ x :: m)
  have h2 := crcFold_lt (l ++ y :: m)
  unfold crc at h
  have h3 : crcFold (l ++ x :: m) = crcFold (l ++ y :: m) := by omega
  unfold crcFold at h3
  rw [List.foldl_append, List.foldl_append, List.foldl_cons, List.foldl_cons] at h3
  have hc := fold_lt l 4294967295 (by decide)
  exact crcStep_byte x y hc (fold_inj m _ _ (crcStep_lt x hc) (crcStep_lt y hc) h3)
end Go.Proofs.YtkbmcebdhiiffaaDoor
namespace Go.Proofs.YtkbmcebdhiiffaaDoor
open Go.RowKit

/-- The table's cells are in their places. -/
def Tab (w : World) : Prop := ∀ i : Nat, i < 16 → w.cell? ⟨0, i, none⟩ = some (.int .u32 (crcAt i : Int))
theorem Tab.ext {w w' : World} (h : Tab w) (hx : Ext w w') : Tab w' := fun i hi => (Below.cell hx (World.block_lt_of_cell? w _ (h i hi))).trans (h i hi)

theorem Tab.keep {w w' : World} (h : Tab w) (hx : Keeps w w') : Tab w' := fun i hi => hx.cell (h i hi)
theorem half_facts (a : Nat) (h : a < 4294967296) : ∃ t T b : Nat, bits .and .u32 (a : Int) 15 = (t : Int) ∧ t < 16 ∧ Hid (T = crcAt t) ∧ bits .xor .u32 ((a : Int) / 16) (T : Int) = (b : Int) ∧ b < 4294967296 ∧ Hid (b = ch a) := by
  refine ⟨a % 16, crcAt (a % 16), ch a, ?_, Nat.mod_lt _ (by decide), rfl, ?_, ch_lt h, rfl⟩
  · have := u32_and_nat a 15 h (by decide)
    rw [nat_mask4] at this
    exact this
  · have := u32_xor_nat (a / 16) (crcAt (a % 16)) (by omega) (crcAt_lt _)
    rw [Int.natCast_ediv] at this
    exact this
theorem step_facts (c : Nat) (x : UInt8) (h : c < 4294967296) : ∃ a : Nat, bits .xor .u32 (c : Int) (x.toNat : Int) = (a : Int) ∧ a < 4294967296 ∧ Hid (ch (ch a) = crcStep c x) := by
  have hx := x.toNat_lt
  exact ⟨c ^^^ x.toNat, u32_xor_nat _ _ h (by omega), lt32_xor h (by omega), rfl⟩
theorem nat_not32 (s : Nat) (h : s < 4294967296) : 4294967295 ^^^ s = 4294967295 - s := by
  have h1 := BitVec.toNat_not (x := BitVec.ofNat 32 s)
  rw [← BitVec.allOnes_xor, BitVec.toNat_xor, BitVec.toNat_allOnes, BitVec.toNat_ofNat, Nat.mod_eq_of_lt (show s < 2 ^ 32 by omega)] at h1
  exact h1
theorem not32 (s : Nat) (h : s < 4294967296) : bits .xor .u32 4294967295 (s : Int) = ((4294967295 - s : Nat) : Int) := by
  have := u32_xor_nat 4294967295 s (by decide) h
  rw [nat_not32 s h] at this
  exact this
theorem bit_test (s x k : Nat) (hs : s < 4294967296) (hx : x < 256) :
    bits .xor .u32 (bits .and .u32 (s : Int) 1) (bits .and .u32 ((x : Int) / 2 ^ k % 4294967296) 1) = ((s % 2 ^^^ x / 2 ^ k % 2 : Nat) : Int) := by
  have e1 := u32_and_nat s 1 hs (by decide)
  rw [nat_mask1] at e1
  have hxk : x / 2 ^ k < 4294967296 := Nat.lt_of_le_of_lt (Nat.div_le_self _ _) (by omega)
  have e2 := u32_and_nat (x / 2 ^ k) 1 hxk (by decide)
  rw [nat_mask1] at e2
  have e3 : (x : Int) / 2 ^ k % 4294967296 = ((x / 2 ^ k : Nat) : Int) := by
    have h1 : (x : Int) / 2 ^ k = ((x / 2 ^ k : Nat) : Int) := by rw [Int.natCast_ediv, Int.natCast_pow]; rfl
    rw [h1]
    generalize x / 2 ^ k = y at hxk
    omega
  rw [e3]
  have h1 : bits .and .u32 (s : Int) 1 = ((s % 2 : Nat) : Int) := e1
  have h2 : bits .and .u32 ((x / 2 ^ k : Nat) : Int) 1 = ((x / 2 ^ k % 2 : Nat) : Int) := e2
  rw [h1, h2]
  exact u32_xor_nat _ _ (by omega) (by omega)
theorem poly_xor (s : Nat) (hs : s < 4294967296) : bits .xor .u32 ((s : Int) / 2) 3988292384 = ((s / 2 ^^^ 3988292384 : Nat) : Int) := by
  have := u32_xor_nat (s / 2) 3988292384 (by omega) (by decide)
  rw [Int.natCast_ediv] at this
  exact this
theorem crc_take (l : List UInt8) (n : Nat) (x : UInt8) (h : l[n]? = some x) : crcFold (l.take (n + 1)) = crcStep (crcFold (l.take n)) x := by
  rw [List.take_add_one, h, Option.toList_some, crcFold_snoc]

set_option maxHeartbeats 800000 in
theorem sum_any (A : Option Addr) (c : Nat) (l : List UInt8) (w : World) (hr : Rd w A l) (hl : l.length ≤ 140737488355328) (ht : Tab w) :
    Calls Tryd.prog 31 #[.slice A l.length c] w (Ret w (Is (.int .u32 (crc l : Int)))) := by
  go_enter Tryd.func31, Tryd.ntmps31
  go_wp2
  go_loop [3, 8] (fun c i => ∃ (n s : Nat), n ≤ l.length ∧ i = .int .i64 n ∧ s < 4294967296 ∧ Hid (s = crcFold (l.take n)) ∧ c = .int .u32 s) (fun _ i => l.length - (intOf i).toNat)
  case atStart => exact ⟨0, 4294967295, Nat.zero_le _, rfl, by omega, rfl, rfl⟩
  case round =>
    obtain ⟨n, s, hn, rfl, h1, HS, rfl⟩ := hrel
    by_cases hlt : n < l.length
    · obtain ⟨b, off, x, rfl, hx, hc⟩ := hr.at (k := n) hlt
      have hx2 := x.toNat_lt
      have HF := hide (crc_take l n x hx)
      clear hx
      obtain ⟨a, e1, ha, HA⟩ := step_facts s x h1
      obtain ⟨t1, T1, b1, e2, ht1, HT1, e3, hb1, HB1⟩ := half_facts a ha
      obtain ⟨t2, T2, b2, e4, ht2, HT2, e5, hb2, HB2⟩ := half_facts b1 hb1
      have hc1 : w.cell? ⟨0, t1, none⟩ = some (.int .u32 (T1 : Int)) := by rw [HT1.out]; exact ht t1 ht1
      have hc2 : w.cell? ⟨0, t2, none⟩ = some (.int .u32 (T2 : Int)) := by rw [HT2.out]; exact ht t2 ht2
      go_wp2
      refine ⟨⟨n + 1, b2, by omega, by go_num, hb2, ?_, rfl⟩, by simp [intOf]; omega⟩
      show b2 = _
      rw [HF.out, ← HS.out, ← HA.out, HB2.out, HB1.out]
    · obtain rfl : n = l.length := by omega
      go_wp2
      go_ret
      refine Ret.mk (Ext.refl _) ?_
      have := HS.out
      rw [List.take_of_length_le (Nat.le_refl _)] at this
      unfold Is crc
      rw [← this]
      show Value.int .u32 _ = _
      rw [show IntKind.u32.max = 4294967295 from rfl, not32 s h1]

set_option maxHeartbeats 800000 in
theorem rsum_any (A : Option Addr) (c : Nat) (l : List UInt8) (w : World) (hr : Rd w A l) (hl : l.length ≤ 140737488355328) :
    Calls Tryd.prog 26 #[.slice A l.length c] w (Ret w (Is (.int .u32 (crc l : Int)))) := by
  go_enter Tryd.func26, Tryd.ntmps26
  go_wp2
  go_loop [3, 4] (fun c i => ∃ (n s : Nat), n ≤ l.length ∧ i = .int .i64 n ∧ s < 4294967296 ∧ Hid (s = crcFold (l.take n)) ∧ c = .int .u32 s) (fun _ i => l.length - (intOf i).toNat)
  case atStart => exact ⟨0, 4294967295, Nat.zero_le _, rfl, by omega, rfl, rfl⟩
  case round =>
    obtain ⟨n, s, hn, rfl, h1, HS, rfl⟩ := hrel
    by_cases hlt : n < l.length
    · obtain ⟨b, off, x, rfl, hx, hc⟩ := hr.at (k := n) hlt
      have hx2 := x.toNat_lt
      have HF := hide (crc_take l n x hx)
      clear hx
      go_wp2
      go_loop [3, 5] (fun c i => ∃ (k s' : Nat), k ≤ 8 ∧ i = .int .i64 k ∧ s' < 4294967296 ∧ Hid (s' = rbs x.toNat s k) ∧ c = .int .u32 s') (fun _ i => 8 - (intOf i).toNat)
      case atStart => exact ⟨0, s, Nat.zero_le _, rfl, h1, rfl, rfl⟩
      case round =>
        obtain ⟨k, s', hk, rfl, h1', HS', rfl⟩ := hrel
        by_cases hk8 : k < 8
        · go_wp2
          · have hb := (show (bits BinOp.xor IntKind.u32 (bits BinOp.and IntKind.u32 (s' : Int) 1) (bits BinOp.and IntKind.u32 ((x.toNat : Int) / 2 ^ k % 4294967296) 1) == 1) = true by assumption)
            rw [bit_test s' x.toNat k h1' hx2] at hb
            have hb2 : s' % 2 ^^^ x.toNat / 2 ^ k % 2 = 1 := by
              generalize s' % 2 ^^^ x.toNat / 2 ^ k % 2 = z at hb
              simp at hb
              omega
            refine ⟨⟨k + 1, s' / 2 ^^^ 3988292384, by omega, by go_num, lt32_xor (by omega) (by decide), ?_, by rw [poly_xor s' h1']⟩, by simp [intOf]; omega⟩
            show _ = rb _ _ _
            unfold rb
            rw [← HS'.out, if_pos hb2]
          · have hb := (show (bits BinOp.xor IntKind.u32 (bits BinOp.and IntKind.u32 (s' : Int) 1) (bits BinOp.and IntKind.u32 ((x.toNat : Int) / 2 ^ k % 4294967296) 1) == 1) = false by assumption)
            rw [bit_test s' x.toNat k h1' hx2] at hb
            have hb2 : ¬ (s' % 2 ^^^ x.toNat / 2 ^ k % 2 = 1) := by
              intro e
              rw [e] at hb
              simp at hb
            refine ⟨⟨k + 1, s' / 2, by omega, by go_num, by omega, ?_, by go_num⟩, by simp [intOf]; omega⟩
            show _ = rb _ _ _
            unfold rb
            rw [← HS'.out, if_neg hb2, Nat.xor_zero]
        · obtain rfl : k = 8 := by omega
          have HX := hide (HS'.out.trans (rbs_eight x s))
          clear HS'
          go_wp2
          refine ⟨⟨n + 1, s', by omega, by go_num, h1', ?_, rfl⟩, by simp [intOf]; omega⟩
          show s' = _
          rw [HX.out, HF.out, ← HS.out]
    · obtain rfl : n = l.length := by omega
      go_wp2
      go_ret
      refine Ret.mk (Ext.refl _) ?_
      have := HS.out
      rw [List.take_of_length_le (Nat.le_refl _)] at this
      unfold Is crc
      rw [← this]
      show Value.int .u32 _ = _
      rw [show ((4294967295 - s : Nat) : Int) = 4294967295 - (s : Int) from by omega]
end Go.Proofs.YtkbmcebdhiiffaaDoor
namespace Go.Proofs.YtkbmcebdhiiffaaDoor
open Go.RowKit

theorem gTab : Tryd.prog.globalNamed "muniment/octet.halfBytes" = some 0 := by kernel_rfl
theorem gTabType : (Tryd.prog.globals[0]?).map (·.type) = some 67 := by kernel_rfl
theorem cellsTab : Tryd.prog.cellsOf 67 = 16 := by kernel_rfl
theorem cellsU32 : Tryd.prog.cellsOf 58 = 1 := by kernel_rfl
def tabInts : List Int := [0, 498536548, 997073096, 651767980, 1994146192, 1802195444, 1303535960, 1342533948, 3988292384, 4027552580, 3604390888, 3412177804, 2607071920, 2262029012, 2685067896, 3183342108]
theorem tab_of_laid {W : World} (h : laidMetH Tryd.prog [("muniment/octet.halfBytes", Rows.laid_muniment_octet_halfBytes)] W) : Tab W := by
  have ht : Lib.TabIs Tryd.prog W "muniment/octet.halfBytes" .u32 tabInts := Lib.tabIs_of_head (rest := []) gTab gTabType Tryd.underlying67 Tryd.underlying58 cellsU32 cellsTab h
  intro i hi
  have h1 := ht.cell gTab i (by simp [tabInts]; omega)
  rw [h1]
  have h2 : ∀ i : Nat, i < 16 → tabInts.getD i 0 = ((crcAt i : Nat) : Int) := by decide
  rw [h2 i hi]
/-- A world for the witness: the settled one, the table holding what its initialiser lays. -/
noncomputable def laidWorld (os : Os) : World :=
  { World.holding Tryd.prog os ⟨#[], #[], []⟩ with heap := (World.holding Tryd.prog os ⟨#[], #[], []⟩).heap.modify 0 fun
      | .cells _ t frozen => .cells #[.int .u32 0, .int .u32 498536548, .int .u32 997073096, .int .u32 651767980, .int .u32 1994146192, .int .u32 1802195444, .int .u32 1303535960, .int .u32 1342533948, .int .u32 3988292384, .int .u32 4027552580, .int .u32 3604390888, .int .u32 3412177804, .int .u32 2607071920, .int .u32 2262029012, .int .u32 2685067896, .int .u32 3183342108] t frozen
      | o => o }
end Go.Proofs.YtkbmcebdhiiffaaDoor
