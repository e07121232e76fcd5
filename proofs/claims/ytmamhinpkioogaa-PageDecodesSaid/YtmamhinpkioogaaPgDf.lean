/-
  firstCell.
-/
import Derived.Test.YtmamhinpkioogaaPgD
import Derived.Test.YtmamhinpkioogaaGrs
namespace Go.Proofs.Ytmamhinpkioogaa
open Go.RowKit

/-- A part of a slice of bytes. -/
def cutB (A : Option Addr) (c k : Nat) : Option Addr := if c = k then A else A.map (·.add k)
theorem byteSize : (Try.prog.info? 5).map (·.size) = some 1 := by kernel_rfl
theorem run_cut (A : Option Addr) (n c i j d : Nat) (hd : i + d = j) (hi : i ≤ j) (hj : j ≤ c) (w : World) : (Instr.sliceAt 28 (.slice A n c) (some (.int .i64 (i : Int))) (some (.int .i64 (j : Int))) none).run Try.prog w = .ok (.slice (cutB A c i) d (c - i)) w := by
  obtain ⟨q, hq, hs⟩ : ∃ q, Try.prog.info? 5 = some q ∧ q.size = 1 := by
    have he := byteSize
    cases hq : Try.prog.info? 5 with
    | none => simp [hq] at he
    | some q => exact ⟨q, rfl, by simpa [hq] using he⟩
  have hji : j - i = d := by omega
  have hcut : (Instr.slice 28 (.slice A n c) (some (.int .i64 (i : Int))) (some (.int .i64 (j : Int))) none).run Try.prog w = .ok (.slice (cutB A c i) d (c - i)) w := by
    simp [Instr.slice, run_underlying Try.underlying28, Instr.sliceBounds, Instr.sliceBound, asIntOf, hi, hj, sizeOf, typeInfo, hq, hs, hji, cutB]
  simp [Instr.sliceAt, run_underlying Try.underlying28, hcut]
theorem Rd.cut {w : World} {A : Option Addr} {l : List UInt8} {n c : Nat} (h : Rd w A l) (hn : l.length = n) (hc : n ≤ c) (k d : Nat) (hk : k + d ≤ n) : Rd w (cutB A c k) ((l.drop k).take d) := by
  unfold cutB
  split
  · rw [List.drop_of_length_le (by omega), List.take_nil]
    exact Rd.nil _ _
  · cases A with
    | none =>
      have hl0 : l = [] := by
        cases l with
        | nil => rfl
        | cons u r => obtain ⟨_, _, hA, _⟩ := h (by simp); cases hA
      subst hl0
      simp only [List.drop_nil, List.take_nil]
      exact Rd.nil _ _
    | some ad => exact (h.drop k).take d
theorem gives_slice2 {P : Program} {o : Oper} {a : Act} {w : World} {R : Value → World → Prop} {x y z : Operand} {t : Nat} {u p q v : Value} (h : o.op = .slice t x (some y) (some z) none) (hx : a.eval x = u) (hy : a.eval y = p) (hz : a.eval z = q) (hrun : (Instr.sliceAt t u (some p) (some q) none).run P w = .ok v w) (hR : R v w) : gives P o a w R := by
  refine gives_of_run (w' := w) (v := v) ?_ hR
  unfold execOp
  simp only [h, Option.map_none, Option.map_some, hx, hy, hz, Sem.run_bind, hrun, Result.andThen_ok, Sem.run_pure]
theorem CellO.mono {B B' : Nat} {x : Cl} {w : World} {v : Value} (h : CellO B x w v) (hB : B' ≤ B) : CellO B' x w v := by
  obtain ⟨v1, v2, e, o1, o2⟩ := h
  exact ⟨v1, v2, e, o1.mono hB, o2.mono hB⟩
theorem CellO.ext {B : Nat} {x : Cl} {w w' : World} {v : Value} (h : CellO B x w v) (hx : Ext w w') : CellO B x w' v := by
  obtain ⟨v1, v2, e, o1, o2⟩ := h
  exact ⟨v1, v2, e, o1.ext hx, o2.ext hx⟩
theorem own_same {w w' : World} {B hb : Nat} {v : Value} {l : List UInt8} (h : Own w B v l) (hB : hb < B) (hx : ∀ j, j ≠ hb → j < w.heap.size → w'.heap[j]? = w.heap[j]?) : Own w' B v l := by
  refine ⟨h.1, ?_⟩
  rcases h.2 with hn | ⟨g, cap, cur, e, hg, hh, rest⟩
  · exact .inl hn
  · refine .inr ⟨g, cap, cur, e, hg, ?_, rest⟩
    rw [hx g (by omega) ?_]
    · exact hh
    · rcases Nat.lt_or_ge g w.heap.size with h' | h'
      · exact h'
      · rw [Array.getElem?_eq_none h'] at hh; cases hh
theorem own_laid {w w' : World} {B hb : Nat} {v : Value} {l : List UInt8} (h : Own w B v l) (hB : hb < B) (hx : Laid1 hb w w') : Own w' B v l := own_same h hB (fun j hj _ => hx.other j hj)
def SpS.cellO {B B' hb : Nat} (hB : hb < B') (x : Cl) : SpS B hb := ⟨CellO B' x, fun _ _ _ h hx => by
  obtain ⟨v1, v2, e, o1, o2⟩ := h
  exact ⟨v1, v2, e, own_same o1 hB hx.2.2, own_same o2 hB hx.2.2⟩⟩
theorem Ext.alt {w w1 w2 : World} {B hb : Nat} (h : Ext w w1) (k : Alt B hb w1 w2) (hB : w.heap.size ≤ B) : Ext w w2 := Below.trans h (Below.mono k.1 hB)
set_option maxRecDepth 20000 in
set_option maxHeartbeats 3200000 in
theorem firstCell_yes (A : Option Addr) (l : List UInt8) (n c p q : Nat) (w : World) (hr : Rd w A l) (hn : l.length = n) (hl : n ≤ 1000) (hnc : n ≤ c) (h2 : 2 ≤ n) (b0 b1 : UInt8) (hb0 : l[0]? = some b0) (hb1 : l[1]? = some b1) (hpp : b0.toNat = p) (hqq : b1.toNat = q) (hend : 2 + p + q ≤ n) :
    Calls Try.prog 31 #[.slice A n c] w (Ret w (fun W v => ∃ u, v = .tuple #[u, .int .i64 (2 + (p : Int) + (q : Int))] ∧ CellO w.heap.size ((l.drop 2).take p, (l.drop (2 + p)).take q) W u)) := by
  obtain ⟨bl, off, rfl, hc⟩ := hr (by intro e; rw [e] at hn; simp at hn; omega)
  have m0 := hc 0 b0 hb0
  rw [Nat.add_zero] at m0
  have m1 := hc 1 b1 hb1
  have hni : (2 : Int) ≤ (n : Int) := by omega
  have hnl : (n : Int) ≤ 1000 := by omega
  rw [hpp] at m0
  rw [hqq] at m1
  have hp : (p : Int) ≤ 255 := by have := b0.toNat_lt; omega
  have hq : (q : Int) ≤ 255 := by have := b1.toNat_lt; omega
  have hei : (2 : Int) + (p : Int) + (q : Int) ≤ (n : Int) := by omega
  obtain ⟨x, HX⟩ : ∃ x : Cl, Hid (((l.drop 2).take p, (l.drop (2 + p)).take q) = x) := ⟨_, hide rfl⟩
  have hx1 : x.1.length = p := by rw [← HX.out]; simp; omega
  have hx2 : x.2.length = q := by rw [← HX.out]; simp; omega
  have KC0 := hide (fun (W : World) (hW : Ext w W) => (show Calls Try.prog 37 #[.slice (cutB (some ⟨bl, off, none⟩) c 2) p (c - 2), .slice (cutB (some ⟨bl, off, none⟩) c (2 + p)) q (c - (2 + p))] W (Ret W (CellO W.heap.size x)) from
    cell_any _ _ x p q (c - 2) (c - (2 + p)) W (by rw [← HX.out]; exact (hr.cut hn hnc 2 p (by omega)).ext hW) (by rw [← HX.out]; exact (hr.cut hn hnc (2 + p) q (by omega)).ext hW) hx1 hx2 (by omega) (by omega)))
  rw [HX.out]
  have HNC := hide hnc
  have HEND := hide hend
  go_enter Try.func31, Try.ntmps31
  go_upto_region 1 with fail
  obtain ⟨W1, hX1, hR1, hg⟩ : ∃ W1, Ext w W1 ∧ Rw W1 w.heap.size 40 [.slice none 0 0, .slice none 0 0] ∧ w.alloc (.cells #[.slice none 0 0, .slice none 0 0] 40) = W1 := ⟨_, Ext.alloc _ _, Rw.new _ _ _, rfl⟩
  rw [hg]
  obtain ⟨hb, HHB⟩ : ∃ hb, Hid (w.heap.size = hb) := ⟨_, hide rfl⟩
  rw [HHB.out] at hR1 ⊢
  have X1 := hide hX1
  have RB := hide hR1
  have M0 := hX1.keeps.cell m0
  have M1 := hX1.keeps.cell m1
  obtain ⟨B, HBE⟩ : ∃ B, Hid (w.heap.size = B) := ⟨_, hide rfl⟩
  have HB : Hid (B ≤ W1.heap.size) := hide (by rw [← HBE.out]; exact hX1.size)
  have HBB : Hid (B ≤ hb) := hide (by rw [← HBE.out, HHB.out]; exact Nat.le_refl _)
  have HH : Hid (w.heap.size ≤ B) := hide (by rw [HBE.out]; exact Nat.le_refl _)
  have KC := hide (fun (W : World) (hW : Alt B hb W1 W) => KC0.out W (X1.out.alt hW HH.out))
  clear m0 m1 hg hX1 hR1 hb0 hb1 hc hr hn hl hnc hpp hqq HX KC0 hend
  go_upto_region 7 with fail
  rename_i hKK
  refine wp_region_spS (B := B) hb 9 (fun w => ∃ v1 v2, Rw w hb 40 [v1, v2] ∧ CellO (hb + 1) x w (.agg #[v1, v2])) [
      SpS.is (.slice (some ⟨bl, off, none⟩) n c),
      SpS.is (.int .i64 (2 + (p : Int))),
      SpS.is (.slice (cutB (some ⟨bl, off, none⟩) c 2) p (c - 2)),
      SpS.is (.slice (some ⟨bl, off, none⟩) n c),
      SpS.is (.int .i64 (2 + (p : Int))),
      SpS.is (.int .i64 (2 + (p : Int) + (q : Int))),
      SpS.is (.slice (cutB (some ⟨bl, off, none⟩) c (2 + p)) q (c - (2 + p))),
      SpS.cellO (Nat.lt_succ_self hb) x,
      SpS.is (.int .i64 (2 + (p : Int) + (q : Int))),
      SpS.any,
      SpS.is (.int .i64 (2 + (p : Int) + (q : Int)))] _ rfl rfl HB.out (fun w w' ⟨v1, v2, h1, h2⟩ hx => ⟨v1, v2, h1.ext hx, h2.ext hx⟩) (by kernel_rfl) (by kernel_rfl) ?_ ?_ ?_
  · refine ⟨.inr ?_, .inr ?_, .inr ?_, .inr ?_, .inr ?_, .inr ?_, .inr ?_, .inr ?_, .inr ?_, .inl rfl, .inr ?_, trivial⟩
    · intro az wz hx hk H
      refine .inl ⟨wanted_none rfl, ?_⟩
      refine gives_move rfl ?_
      rw [(ev (show az.tmps[0]? = some (.slice (some ⟨bl, off, none⟩) n c) from hk 0 rfl))]
      exact ⟨Ext.refl _, rfl⟩
    · intro az wz hx hk H
      refine .inl ⟨wanted_none rfl, ?_⟩
      refine gives_move rfl ?_
      rw [(ev (show az.tmps[4]? = some (.int .i64 (2 + (p : Int))) from hk 4 rfl))]
      exact ⟨Ext.refl _, rfl⟩
    · intro az wz hx hk H
      obtain ⟨v26, h26, s26⟩ := H 0 rfl _ rfl 26 rfl
      obtain ⟨v27, h27, s27⟩ := H 1 rfl _ rfl 27 rfl
      refine .inl ⟨wanted_none rfl, ?_⟩
      refine gives_slice2 rfl (by rw [ev h26, s26]) rfl (by rw [ev h27, s27]; exact congrArg (Value.int IntKind.i64) (by omega)) (run_cut (some ⟨bl, off, none⟩) n c 2 (2 + p) p (by omega) (by omega) (by have := HNC.out; omega) wz) ⟨Ext.refl _, rfl⟩
    · intro az wz hx hk H
      refine .inl ⟨wanted_none rfl, ?_⟩
      refine gives_move rfl ?_
      rw [(ev (show az.tmps[0]? = some (.slice (some ⟨bl, off, none⟩) n c) from hk 0 rfl))]
      exact ⟨Ext.refl _, rfl⟩
    · intro az wz hx hk H
      refine .inl ⟨wanted_none rfl, ?_⟩
      refine gives_move rfl ?_
      rw [(ev (show az.tmps[4]? = some (.int .i64 (2 + (p : Int))) from hk 4 rfl))]
      exact ⟨Ext.refl _, rfl⟩
    · intro az wz hx hk H
      refine .inl ⟨wanted_none rfl, ?_⟩
      refine gives_move rfl ?_
      rw [(ev (show az.tmps[5]? = some (.int .i64 (2 + (p : Int) + (q : Int))) from hk 5 rfl))]
      exact ⟨Ext.refl _, rfl⟩
    · intro az wz hx hk H
      obtain ⟨v29, h29, s29⟩ := H 3 rfl _ rfl 29 rfl
      obtain ⟨v30, h30, s30⟩ := H 4 rfl _ rfl 30 rfl
      obtain ⟨v31, h31, s31⟩ := H 5 rfl _ rfl 31 rfl
      refine .inl ⟨wanted_none rfl, ?_⟩
      refine gives_slice2 rfl (by rw [ev h29, s29]) (by rw [ev h30, s30]; rfl) (by rw [ev h31, s31]; exact congrArg (Value.int IntKind.i64) (by omega)) (run_cut (some ⟨bl, off, none⟩) n c (2 + p) (2 + p + q) q (by omega) (by omega) (by have := HNC.out; omega) wz) ⟨Ext.refl _, rfl⟩
    · intro az wz hx hk H
      obtain ⟨v28, h28, s28⟩ := H 2 rfl _ rfl 28 rfl
      obtain ⟨v32, h32, s32⟩ := H 6 rfl _ rfl 32 rfl
      refine .inl ⟨wanted_none rfl, ?_⟩
      refine gives_call rfl Try.call37 (by simp only [List.map_toArray, List.map_cons, List.map_nil, ev h28, ev h32]; rw [s28, s32]) ?_
      exact (KC.out wz hx).mono fun _ _ h => by
        obtain ⟨v, he, hxx, ho⟩ := h
        exact ⟨v, he, hxx, ho.mono (Nat.succ_le_of_lt (Nat.lt_of_lt_of_le RB.out.lt hx.2.1))⟩
    · intro az wz hx hk H
      refine .inl ⟨wanted_none rfl, ?_⟩
      refine gives_move rfl ?_
      rw [(ev (show az.tmps[5]? = some (.int .i64 (2 + (p : Int) + (q : Int))) from hk 5 rfl))]
      exact ⟨Ext.refl _, rfl⟩
    · intro az wz hx hk H
      obtain ⟨v34, h34, s34⟩ := H 8 rfl _ rfl 34 rfl
      refine .inl ⟨wanted_none rfl, ?_⟩
      refine gives_assign rfl ?_
      rw [(ev h34)]
      exact ⟨Ext.refl _, s34⟩
  · intro az wz hx hk H
    obtain ⟨v33, h33, s33⟩ := H 7 rfl _ rfl 33 rfl
    obtain ⟨w1, w2, hv33, o1, o2⟩ := s33
    obtain ⟨A1, d1, rfl, -, -⟩ := Own.slice o1
    obtain ⟨A2, d2, rfl, -, -⟩ := Own.slice o2
    refine ⟨wanted_none rfl, ?_⟩
    refine gives_store_rw 40 (.tmp 2) (.tmp 33) rfl hb (by rw [ev (show az.tmps[2]? = some (.pointer (some ⟨hb, 0, none⟩)) from hk 2 rfl)]) [.slice A1 x.1.length d1, .slice A2 x.2.length d2] (by rw [ev h33, hv33]) 40 _ (RB.out.ext hx) 2 sizeCell rfl rfl rfl ?_
    intro w' hr' hl'
    exact ⟨⟨Below.mono hl'.below HBB.out, hl'.below.size, fun j hj _ => hl'.other j hj⟩, _, _, hr', _, _, rfl, own_laid o1 (Nat.lt_succ_self hb) hl', own_laid o2 (Nat.lt_succ_self hb) hl'⟩
  · intro az wz hx hF hd hs hv hsame
    obtain ⟨v26, h26, s26⟩ := hv 0 _ 26 rfl rfl
    obtain rfl : v26 = (.slice (some ⟨bl, off, none⟩) n c) := s26
    obtain ⟨v27, h27, s27⟩ := hv 1 _ 27 rfl rfl
    obtain rfl : v27 = (.int .i64 (2 + (p : Int))) := s27
    obtain ⟨v28, h28, s28⟩ := hv 2 _ 28 rfl rfl
    obtain rfl : v28 = (.slice (cutB (some ⟨bl, off, none⟩) c 2) p (c - 2)) := s28
    obtain ⟨v29, h29, s29⟩ := hv 3 _ 29 rfl rfl
    obtain rfl : v29 = (.slice (some ⟨bl, off, none⟩) n c) := s29
    obtain ⟨v30, h30, s30⟩ := hv 4 _ 30 rfl rfl
    obtain rfl : v30 = (.int .i64 (2 + (p : Int))) := s30
    obtain ⟨v31, h31, s31⟩ := hv 5 _ 31 rfl rfl
    obtain rfl : v31 = (.int .i64 (2 + (p : Int) + (q : Int))) := s31
    obtain ⟨v32, h32, s32⟩ := hv 6 _ 32 rfl rfl
    obtain rfl : v32 = (.slice (cutB (some ⟨bl, off, none⟩) c (2 + p)) q (c - (2 + p))) := s32
    obtain ⟨v33, h33, s33⟩ := hv 7 _ 33 rfl rfl
    obtain ⟨v34, h34, s34⟩ := hv 8 _ 34 rfl rfl
    obtain rfl : v34 = (.int .i64 (2 + (p : Int) + (q : Int))) := s34
    obtain ⟨v3, h3, s3⟩ := hv 10 _ 3 rfl rfl
    obtain rfl : v3 = (.int .i64 (2 + (p : Int) + (q : Int))) := s3
    have hfr := frame_last (k := 11) [(26, (.slice (some ⟨bl, off, none⟩) n c)), (27, (.int .i64 (2 + (p : Int)))), (28, (.slice (cutB (some ⟨bl, off, none⟩) c 2) p (c - 2))), (29, (.slice (some ⟨bl, off, none⟩) n c)), (30, (.int .i64 (2 + (p : Int)))), (31, (.int .i64 (2 + (p : Int) + (q : Int)))), (32, (.slice (cutB (some ⟨bl, off, none⟩) c (2 + p)) q (c - (2 + p)))), (33, v33), (34, (.int .i64 (2 + (p : Int) + (q : Int)))), (3, (.int .i64 (2 + (p : Int) + (q : Int))))] hs (by kernel_rfl) (by simp only [List.forall_mem_cons, List.not_mem_nil, false_implies, implies_true, and_true]; exact ⟨h26, h27, h28, h29, h30, h31, h32, h33, h34, h3⟩) (fun t' ht => hsame t' (fun i o ho => ht i o (fun e => by subst e; cases ho) ho))
    simp only [List.foldl_cons, List.foldl_nil, List.setIfInBounds_toArray, List.set_cons_succ, List.set_cons_zero] at hfr
    obtain ⟨tm, df⟩ := az
    simp only [] at hfr hd
    subst hfr hd
    clear hv hsame hs h26 h27 h28 h29 h30 h31 h32 h33 h34 h3
    obtain ⟨u1, u2, hrw, hcv⟩ := hF
    have e0 := hrw.cell (i := 0) rfl
    have e1 := hrw.cell (i := 1) rfl
    refine hKK _ _ ?_
    refine wp_ret ?_
    refine bodyPost_ret (v := .tuple #[.agg #[u1, u2], .int .i64 (2 + (p : Int) + (q : Int))]) (by simp [results, Try.results31, go_sem, e0, e1]; try rfl) rfl ?_
    exact ⟨_, rfl, X1.out.alt hx HH.out, _, rfl, hcv.mono (by have := HBB.out; have := HH.out; omega)⟩
end Go.Proofs.Ytmamhinpkioogaa
