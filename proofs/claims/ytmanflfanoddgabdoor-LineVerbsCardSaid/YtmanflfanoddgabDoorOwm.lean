/-
  A slice of bytes of the call's own whose block may bear a mark that lies behind its end ('[]byte(s)'): append in all its forms as one law.
-/
import Derived.Test.YtmanflfanoddgabDoorMrk
import Derived.Lib.AppendStr
namespace Go.Proofs.YtmanflfanoddgabDoor
open Go.RowKit

/-- No cell of the block is marked. -/
def Bare (fz : Nat × Nat) (n : Nat) : Prop := ∀ i, i < n → ¬ (fz.1 ≤ i ∧ i < fz.2)
theorem Bare.zero (n : Nat) : Bare (0, 0) n := fun _ _ h => absurd h.2 (Nat.not_lt_zero _)
theorem Bare.back {k n : Nat} (h : n ≤ k) (m : Nat) : Bare (k, m) n := fun i hi h' => by have h1 := h'.1; simp only at h1; omega

/-- The value v is a slice of the call's own (in a block from base on, or nil) that holds just l; its block may be marked behind its end. -/
def OwnM (w : World) (base : Nat) (v : Value) (l : List UInt8) : Prop :=
  (v = .slice none 0 0 ∧ l = []) ∨ ∃ g cap cur fz, v = .slice (some ⟨g, 0, none⟩) l.length cap ∧ base ≤ g ∧ w.heap[g]? = some (.cells cur 5 fz) ∧ Bare fz cur.size ∧ l.length ≤ cap ∧ cap ≤ maxLen ∧ cur.size = cap ∧ cur.toList.take l.length = bs l
theorem Own.m {w : World} {base : Nat} {v : Value} {l : List UInt8} (h : Own w base v l) : OwnM w base v l := by
  rcases h.2 with ⟨rfl, h0⟩ | ⟨g, cap, cur, hv, hb, hg, h1, h2, h3, h4⟩
  · exact .inl ⟨rfl, List.length_eq_zero_iff.1 h0⟩
  · refine .inr ⟨g, cap, cur, (0, 0), hv, hb, hg, Bare.zero _, h1, h2, by omega, ?_⟩
    rw [Nat.mul_one] at h4
    exact h4
section
variable {w w' : World} {base : Nat} {v : Value} {l : List UInt8}
theorem OwnM.lt (h : OwnM w base v l) : ∀ k, v.ownBlock = some k → base ≤ k ∧ k < w.heap.size := by
  intro k hk
  rcases h with ⟨rfl, _⟩ | ⟨g, cap, cur, fz, rfl, hb, hg, _⟩
  · simp [Value.ownBlock] at hk
  · simp [Value.ownBlock] at hk
    subst hk
    exact ⟨hb, (Array.getElem?_eq_some_iff.1 hg).1⟩
theorem OwnM.ext (h : OwnM w base v l) (hx : Ext w w') : OwnM w' base v l := by
  rcases h with hn | ⟨g, cap, cur, fz, hv, hb, hg, rest⟩
  · exact .inl hn
  · exact .inr ⟨g, cap, cur, fz, hv, hb, (Below.block hx g (Array.getElem?_eq_some_iff.1 hg).1).trans hg, rest⟩
theorem OwnM.alloc (h : OwnM w base v l) (o : Obj) : OwnM (w.alloc o) base v l := h.ext (Ext.alloc w o)
theorem OwnM.drew (h : OwnM w base v l) : OwnM w.drew base v l := h
theorem OwnM.cells {g cap : Nat} (h : OwnM w base v l) (hv : v = .slice (some ⟨g, 0, none⟩) l.length cap) : ∀ j u, (bs l)[j]? = some u → w.cell? ((⟨g, 0, none⟩ : Addr).add j) = some u := by
  intro j u hu
  rcases h with ⟨rfl, _⟩ | ⟨g', cap', cur, fz, rfl, _, hgg, _, _, _, _, htake⟩
  · cases hv
  · injection hv with hA _ _
    injection hA with hA
    injection hA with hA
    subst hA
    rw [add_flat, Nat.zero_add, cell_of_row w g' j cur _ fz hgg, ← hu, ← htake, List.getElem?_take]
    split
    · simp
    · rename_i hj
      rw [← htake, List.getElem?_take, if_neg hj] at hu
      cases hu
theorem OwnM.rd {A : Option Addr} {c : Nat} (h : OwnM w base (.slice A l.length c) l) : Rd w A l := fun hn => by
  have hp : 0 < l.length := List.length_pos_iff.2 hn
  rcases id h with ⟨hv, h0⟩ | ⟨g, cap, cur, fz, hv, _⟩
  · exact absurd h0 hn
  · have hA := hv
    injection hA with hA
    subst hA
    refine ⟨g, 0, rfl, fun j u hu => ?_⟩
    have := h.cells rfl j (.int .u8 (u.toNat : Int)) (by rw [bs_get, hu]; rfl)
    rw [add_flat] at this
    exact this
theorem OwnM.bytes (h : OwnM w base v l) : Bytes l w v := by
  rcases id h with ⟨rfl, rfl⟩ | ⟨g, cap, cur, fz, rfl, _, _, _, hc, _⟩
  · exact ⟨none, 0, rfl, Nat.le_refl _, Rd.nil _ _⟩
  · exact ⟨_, cap, rfl, hc, h.rd⟩
end

theorem run_storeCells_atM (P : Program) (g o : Nat) (t : TypeId) (fz : Nat × Nat) : ∀ (vs : List Value) (i : Nat) (cur : Array Value) (w : World), w.heap[g]? = some (.cells cur t fz) → Bare fz cur.size → o + i + vs.length ≤ cur.size → (∀ v ∈ vs, v.oneCell' = true) →
    (storeCells ⟨g, o, none⟩ vs i).run P w = .ok () (w.setRow g (cur.toList.take (o + i) ++ vs ++ cur.toList.drop (o + i + vs.length)).toArray)
  | [], i, cur, w, hg, _, _, _ => by
    simp only [storeCells, List.append_nil, List.length_nil, Nat.add_zero, List.take_append_drop, Array.toArray_toList]
    rw [setRow_self w g cur t fz hg]
    rfl
  | v :: rest, i, cur, w, hg, hfz, hl, h1 => by
    have hi : o + i < cur.size := by simp at hl; omega
    have hadd : (⟨g, o, none⟩ : Addr).add i = ⟨g, o + i, none⟩ := add_flat g o i
    have hcell : w.cell? ⟨g, o + i, none⟩ = some cur[o + i] := by simp [World.cell?, hg, hi]
    have hfro : w.frozen? ⟨g, o + i, none⟩ = false := by
      have := hfz (o + i) hi
      obtain ⟨lo, hi'⟩ := fz
      simp only [World.frozen?, hg, Bool.and_eq_false_iff, decide_eq_false_iff_not]
      simp only at this
      omega
    have hst : (store ((⟨g, o, none⟩ : Addr).add i) v).run P w = .ok () (w.setRow g (cur.setIfInBounds (o + i) v)) := by
      rw [hadd, run_store P w _ v _ (h1 v (by simp)), hcell]
      simp [hfro, setCell_eq_setRow w g (o + i) cur t fz v hg]
    have ih := run_storeCells_atM P g o t fz rest (i + 1) (cur.setIfInBounds (o + i) v) (w.setRow g (cur.setIfInBounds (o + i) v)) (setRow_heap w g cur _ t _ hg) (by simpa using hfz) (by simp at hl ⊢; omega) (fun x hx => h1 x (by simp [hx]))
    simp only [storeCells, Sem.run_bind, hst, Result.andThen_ok, ih, setRow_setRow]
    congr 3
    have e := list_seg_step cur.toList (o + i) v rest (by simp at hl ⊢; omega)
    simpa [Array.toList_setIfInBounds, Nat.add_assoc] using e

/-- Behind an append within the room. -/
theorem OwnM.room {w : World} {base g cap : Nat} {cur : Array Value} {fz : Nat × Nat} {l m : List UInt8} (hb : base ≤ g) (hg : w.heap[g]? = some (.cells cur 5 fz)) (hfz : Bare fz cur.size) (hcm : cap ≤ maxLen) (hcs : cur.size = cap) (ht : cur.toList.take l.length = bs l) (hroom : l.length + m.length ≤ cap) :
    OwnM (w.setRow g (cur.toList.take l.length ++ bs m ++ cur.toList.drop (l.length + m.length)).toArray) base (.slice (some ⟨g, 0, none⟩) (l.length + m.length) cap) (l ++ m) := by
  refine .inr ⟨g, cap, _, fz, by rw [List.length_append], hb, setRow_heap w g cur _ _ _ hg, ?_, by rw [List.length_append]; exact hroom, hcm, ?_, ?_⟩
  · have : (cur.toList.take l.length ++ bs m ++ cur.toList.drop (l.length + m.length)).toArray.size = cur.size := by
      simp only [List.size_toArray, List.length_append, List.length_take, List.length_drop, Array.length_toList, bs_length]; omega
    rw [this]; exact hfz
  · simp only [List.size_toArray, List.length_append, List.length_take, List.length_drop, Array.length_toList, bs_length]; omega
  · rw [ht, ← bs_append]
    have e : (l ++ m).length = (bs (l ++ m)).length := (bs_length _).symm
    rw [e]
    exact List.take_left
theorem Below.setRow {base g : Nat} (w : World) (cs : Array Value) (h : base ≤ g) (hb : base ≤ w.heap.size) : Below base w (w.setRow g cs) :=
  (Below.refl _ _).grown (row := some g) ⟨rfl, rfl, rfl, by simp, fun k _ hk => setRow_other w g k _ (fun e => hk (by simp [e]))⟩ hb (fun k hk => by injection hk with hk; subst hk; exact h)

theorem run_catM (w : World) (base ty : Nat) (v : Value) (l m : List UInt8) (A : Option Addr) (c : Nat) (hown : OwnM w base v l) (hr : Rd w A m) (hbase : base ≤ w.heap.size) (hlen : l.length + m.length ≤ 140737488355328) :
    ∃ v' w', (Builtin.append_ #[35, 35] ty #[v, .slice A m.length c]).run Tryd.prog w = .ok v' w' ∧ OwnM w' base v' (l ++ m) ∧ Below base w w' := by
  obtain ⟨i0, hi, hz0, hz1, hz2⟩ := info_parts info_u8
  rcases id hown with ⟨rfl, rfl⟩ | ⟨g, cap, cur, fz, rfl, hb, hg, hfz, hnc, hcm, hcs, ht⟩
  · obtain ⟨v', w', h1, h2, h3, _⟩ := run_cat w base ty (.slice none 0 0) [] m A c (Own.nil w base) hr hbase hlen
    exact ⟨v', w', h1, h2.m, h3⟩
  · by_cases hm : m = []
    · subst hm
      refine ⟨.slice (some ⟨g, 0, none⟩) l.length cap, w, ?_, by rw [List.append_nil]; exact hown, Below.refl _ _⟩
      rcases A with _ | a
      · simp [Builtin.append_, run_underlying Tryd.underlying35, sizeOf, typeInfo, hi, Builtin.lenOf, Builtin.firstCells, hnc, storeCells]
      · have hf := run_firstCells_some (P := Tryd.prog) w i0.size 0 a 0 c [] (by simp) (fun j u hu => by simp at hu)
        simp [Builtin.append_, run_underlying Tryd.underlying35, sizeOf, typeInfo, hi, Builtin.lenOf, hnc, hf, storeCells]
    · obtain ⟨b, off, rfl, _⟩ := id hr hm
      have hnews : ∀ j u, (bs m)[j]? = some u → w.cell? ((⟨b, off, none⟩ : Addr).add j) = some u := hr.cells rfl hm
      by_cases hroom : l.length + m.length ≤ cap
      · have hf := run_firstCells_some (P := Tryd.prog) w i0.size m.length ⟨b, off, none⟩ m.length c (bs m) (by rw [hz1, bs_length]; simp) hnews
        have hst := run_storeCells_atM Tryd.prog g l.length 5 fz (bs m) 0 cur w hg hfz (by rw [bs_length]; omega) (bs_one m)
        simp only [Nat.add_zero, bs_length] at hst
        refine ⟨_, _, ?_, OwnM.room hb hg hfz hcm hcs ht hroom, Below.setRow w _ hb hbase⟩
        simp [Builtin.append_, run_underlying Tryd.underlying35, sizeOf, typeInfo, hi, hz1, Builtin.lenOf, hroom, Addr.add_lit, hst]
        rw [hz1] at hf
        simp [hf, hst]
      · have hr2 := run_append_grow (P := Tryd.prog) w 35 ty 5 i0 _ Tryd.underlying35 hi hz0 ⟨g, 0, none⟩ l.length cap (bs l) (by rw [hz1, bs_length]; simp) (hown.cells rfl) ⟨b, off, none⟩ m.length c (bs m) (by rw [hz1, bs_length]; simp) hnews (by omega) (by omega) (growslice_fits (by omega) (by rw [hz2]; omega))
        have hge := grownCap_ge w (l.length + m.length) cap 5
        have hcm2 : grownCap w (l.length + m.length) cap 5 ≤ maxLen := grownCap_le_maxLen w (l.length + m.length) cap 5 (by unfold maxLen; omega)
        refine ⟨_, _, hr2, .inr ⟨w.heap.size, _, _, (0, 0), by rw [List.length_append], hbase, heap_alloc_new w.drew _, Bare.zero _, by rw [List.length_append]; exact hge, hcm2, ?_, ?_⟩, Below.trans (Below.mono (Ext.drew w) hbase) (Below.mono (Ext.alloc w.drew _) hbase)⟩
        · have hzs : (Value.int IntKind.u8 0).cells.size = 1 := rfl
          simp only [Array.size_append, List.size_toArray, size_zeroCells, hzs, bs_length]
          omega
        · simp only [Array.toList_append, List.append_assoc]
          rw [← List.append_assoc, ← bs_append]
          have e : (l ++ m).length = (bs (l ++ m)).length := (bs_length _).symm
          rw [e]
          exact List.take_left
theorem run_catSM (w : World) (base ty : Nat) (v : Value) (l : List UInt8) (s : ByteArray) (hown : OwnM w base v l) (hbase : base ≤ w.heap.size) (hlen : l.length + s.size ≤ 140737488355328) :
    ∃ v' w', (Builtin.append_ #[35, 9] ty #[v, .string s]).run Tryd.prog w = .ok v' w' ∧ OwnM w' base v' (l ++ s.data.toList) ∧ Below base w w' := by
  obtain ⟨i0, hi, hz0, hz1, hz2⟩ := info_parts info_u8
  have hsl : s.data.toList.length = s.size := rfl
  rcases id hown with ⟨rfl, rfl⟩ | ⟨g, cap, cur, fz, rfl, hb, hg, hfz, hnc, hcm, hcs, ht⟩
  · obtain ⟨v', w', h1, h2, h3, _⟩ := Lib.run_append_own_string (P := Tryd.prog) w base 35 9 ty 5 i0 Tryd.underlying35 Tryd.underlying9 hi hz0 hz1 hz2 (.slice none 0 0) 0 [] (World.ownsRow_nil _ _ _ _) s (by unfold maxLen; simp at hlen; omega) (by simpa using hlen) hbase
    refine ⟨v', w', h1, ?_, (Below.refl _ _).grown h3 hbase (fun k hk => by simp [Value.ownBlock] at hk)⟩
    have h2' : Own w' base v' s.data.toList := by
      have e : (0 + s.size) = s.data.toList.length := by rw [hsl]; omega
      unfold Own
      rw [← e]
      exact h2
    exact h2'.m
  · by_cases hroom : l.length + s.size ≤ cap
    · have hf := Lib.run_firstCells_string (P := Tryd.prog) w 1 s
      have hst := run_storeCells_atM Tryd.prog g l.length 5 fz (bs s.data.toList) 0 cur w hg hfz (by rw [bs_length]; omega) (bs_one _)
      simp only [Nat.add_zero, bs_length] at hst
      refine ⟨_, _, ?_, OwnM.room hb hg hfz hcm hcs ht (by rw [hsl]; exact hroom), Below.setRow w _ hb hbase⟩
      have hf' : (Builtin.firstCells 1 s.size (.string s)).run Tryd.prog w = .ok (bs s.data.toList).toArray w := hf
      simp [Builtin.append_, run_underlying Tryd.underlying35, run_underlying Tryd.underlying9, sizeOf, typeInfo, hi, hz1, Builtin.lenOf, hroom, hf', Addr.add_lit]
      rw [hsl] at hst
      simp [hst]
    · have hr2 := Lib.run_append_grow_string (P := Tryd.prog) w 35 9 ty 5 i0 (.int .u8 0) Tryd.underlying35 Tryd.underlying9 hi hz0 ⟨g, 0, none⟩ l.length cap (bs l) (by rw [hz1, bs_length]; simp) (hown.cells rfl) s (by omega) (by omega) (by rw [hz2]; exact growslice_fits (by omega) (by omega))
      have hge := grownCap_ge w (l.length + s.size) cap 5
      have hcm2 : grownCap w (l.length + s.size) cap 5 ≤ maxLen := grownCap_le_maxLen w (l.length + s.size) cap 5 (by unfold maxLen; omega)
      refine ⟨_, _, hr2, .inr ⟨w.heap.size, _, _, (0, 0), by rw [List.length_append, hsl], hbase, heap_alloc_new w.drew _, Bare.zero _, by rw [List.length_append, hsl]; exact hge, hcm2, ?_, ?_⟩, Below.trans (Below.mono (Ext.drew w) hbase) (Below.mono (Ext.alloc w.drew _) hbase)⟩
      · have hzs : (Value.int IntKind.u8 0).cells.size = 1 := rfl
        simp only [Array.size_append, List.size_toArray, size_zeroCells, hzs, bs_length, Lib.strCells_length]
        omega
      · simp only [Array.toList_append, List.append_assoc]
        rw [← List.append_assoc]
        have e : bs l ++ Lib.strCells s = bs (l ++ s.data.toList) := by rw [bs_append]; rfl
        rw [e]
        have e2 : (l ++ s.data.toList).length = (bs (l ++ s.data.toList)).length := (bs_length _).symm
        rw [e2]
        exact List.take_left
theorem run_convM (s : ByteArray) (w : World) (hs : s.size ≤ 140737488355328) : ∃ v w', (convert 9 35 (.string s)).run Tryd.prog w = .ok v w' ∧ OwnM w' w.heap.size v s.data.toList ∧ Ext w w' := by
  have hge := grownCap_ge w s.size 0 5
  have hcm : grownCap w s.size 0 5 ≤ maxLen := grownCap_le_maxLen w s.size 0 5 (by unfold maxLen; omega)
  refine ⟨_, _, run_bytes_of_string w 9 35 5 s Tryd.underlying9 Tryd.underlying35 Tryd.underlying5, ?_, (Ext.drew w).trans (Ext.alloc _ _)⟩
  have hsl : s.data.toList.length = s.size := rfl
  refine .inr ⟨w.heap.size, grownCap w s.size 0 5, bytesRow s (grownCap w s.size 0 5), _, rfl, Nat.le_refl _, heap_alloc_new w.drew _, Bare.back (Nat.le_refl _) _, hge, hcm, ?_, ?_⟩
  · rw [row_bytes, List.size_toArray, bs_length, List.length_append, List.length_replicate, hsl]; omega
  · rw [row_bytes, bs_append]
    have e : s.data.toList.length = (bs s.data.toList).length := (bs_length _).symm
    rw [e]
    exact List.take_left
section
variable {ops : Array Oper} {rest : List Oper} {o : Oper} {a : Act} {Q : Exit → Act → World → Prop} {w : World}
/-- 'v = append(v, x...)'. -/
theorem wpList_catM (hgd : Region.wanted o (yielded ops a.tmps) = true) (s x : Operand) (ho : o.op = .call { callee := .builtin .append, args := #[s, x], argTypes := #[35, 35] })
    (base : Nat) (v : Value) (l m : List UInt8) (A : Option Addr) (n c : Nat) (hs : a.eval s = v) (hx : a.eval x = .slice A n c) (hn : n = m.length) (hown : OwnM w base v l) (hr : Rd w A m) (hbase : base ≤ w.heap.size) (hlen : l.length + m.length ≤ 140737488355328)
    (h : ∀ v' w', OwnM w' base v' (l ++ m) → Below base w w' → wpList Tryd.prog ops Q rest (a.put o.dst v') w') : wpList Tryd.prog ops Q (o :: rest) a w := by
  subst hn
  refine wpList_wanted hgd fun K hK => ?_
  obtain ⟨v', w', hrun, h2, h3⟩ := run_catM w base o.type v l m A c hown hr hbase hlen
  unfold Oper.wp execOp
  simp only [ho, resolve, invoke, builtin, Sem.run_bind, Sem.run_pure, Result.andThen_ok, List.map_toArray, List.map_cons, List.map_nil, hs, hx, hrun]
  exact hK _ _ (h v' w' h2 h3)
/-- 'v = append(v, n)', one byte. -/
theorem wpList_pushM {w0 : World} {n : Int} (hgd : Region.wanted o (yielded ops a.tmps) = true) (s x : Operand) (ho : o.op = .call { callee := .builtin .append, args := #[s, x], argTypes := #[35, 35] })
    (base : Nat) (v : Value) (l : List UInt8) (hs : a.eval s = v) (hx : a.eval x = .slice (some ⟨w0.heap.size, 0, none⟩) 1 1) (hown : OwnM w0 base v l) (h0 : 0 ≤ n) (h1 : n < 256) (hbase : base ≤ w0.heap.size) (hlen : l.length < 140737488355328)
    (h : ∀ v' w', OwnM w' base v' (l ++ [b8 n]) → Below base w0 w' → wpList Tryd.prog ops Q rest (a.put o.dst v') w') : wpList Tryd.prog ops Q (o :: rest) a (w0.alloc (.cells #[.int .u8 n] 5)) :=
  wpList_catM hgd s x ho base v l [b8 n] _ 1 1 hs hx rfl (hown.alloc _) (Rd.one w0 _ n h0 h1) (by simp; omega) (by simp; omega) fun v' w' h2 h3 =>
    h v' w' h2 (((Below.refl base w0).alloc hbase _).trans h3)
/-- 'v = append(v, s...)', s a text. -/
theorem wpList_catSM (hgd : Region.wanted o (yielded ops a.tmps) = true) (sl x : Operand) (ho : o.op = .call { callee := .builtin .append, args := #[sl, x], argTypes := #[35, 9] })
    (base : Nat) (v : Value) (l : List UInt8) (s : ByteArray) (hs : a.eval sl = v) (hx : a.eval x = .string s) (hown : OwnM w base v l) (hbase : base ≤ w.heap.size) (hlen : l.length + s.size ≤ 140737488355328)
    (h : ∀ v' w', OwnM w' base v' (l ++ s.data.toList) → Below base w w' → wpList Tryd.prog ops Q rest (a.put o.dst v') w') : wpList Tryd.prog ops Q (o :: rest) a w := by
  refine wpList_wanted hgd fun K hK => ?_
  obtain ⟨v', w', hrun, h2, h3⟩ := run_catSM w base o.type v l s hown hbase hlen
  unfold Oper.wp execOp
  simp only [ho, resolve, invoke, builtin, Sem.run_bind, Sem.run_pure, Result.andThen_ok, List.map_toArray, List.map_cons, List.map_nil, hs, hx, hrun]
  exact hK _ _ (h v' w' h2 h3)
/-- '[]byte(s)'. -/
theorem wpList_convM (hgd : Region.wanted o (yielded ops a.tmps) = true) (x : Operand) (ho : o.op = .convert 9 35 x) (s : ByteArray) (hx : a.eval x = .string s) (hs : s.size ≤ 140737488355328)
    (h : ∀ v w', OwnM w' w.heap.size v s.data.toList → Ext w w' → wpList Tryd.prog ops Q rest (a.put o.dst v) w') : wpList Tryd.prog ops Q (o :: rest) a w := by
  obtain ⟨v, w', hrun, h1, h2⟩ := run_convM s w hs
  refine wpList_wanted hgd fun K hK => ?_
  unfold Oper.wp
  have he : (execOp a.eval o).run Tryd.prog w = .ok (.value v) w' := by simp [execOp, ho, hx, hrun]
  rw [he]
  exact hK _ _ (h v w' h1 h2)
end
end Go.Proofs.YtmanflfanoddgabDoor
