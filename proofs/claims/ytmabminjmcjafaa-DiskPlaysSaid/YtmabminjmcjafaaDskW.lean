/-
  The disk's Write: contract.
-/
import Derived.Test.YtmabminjmcjafaaDskR
import Derived.Maps.AppendAt
import Derived.Great.BuildSlice
import Derived.Deep.Cut
import Derived.Deep.CutRange
namespace Go.Proofs.Ytmabminjmcjafaa
open Go.RowKit

section
variable {P : Program} {o : Oper} {a : Act} {w : World} {R : Value → World → Prop}
theorem gives_nilCheck {x : Operand} {ad : Addr} (h : o.op = .nilCheck x) (hx : a.eval x = .pointer (some ad)) (hR : R (.pointer (some ad)) w) : gives P o a w R := by
  refine gives_of_run (w' := w) (v := .pointer (some ad)) ?_ hR
  simp [execOp, h, hx]
theorem gives_fieldP {x : Operand} {t i : Nat} {u v : Value} (h : o.op = .fieldAddr t x i) (hx : a.eval x = u) (hrun : (Instr.fieldAt t u i).run P w = .ok v w) (hR : R v w) : gives P o a w R := by
  refine gives_of_run (w' := w) (v := v) ?_ hR
  unfold execOp
  simp only [h, hx, Sem.run_bind, hrun, Result.andThen_ok, Sem.run_pure]
theorem gives_load_one {x : Operand} {ty : TypeId} {ad : Addr} {v : Value} {e : Nat} (h : o.op = .load ty x) (hx : a.eval x = .pointer (some ad)) (hu : P.underlying ty = some (.slice e)) (hc : w.cell? ad = some v) (hR : R v w) : gives P o a w R := by
  have hl : (loadVar ty ad).run P w = .ok v w := by simp [loadVar, isAgg, run_underlying hu, go_sem, hc]
  unfold gives execOp
  simp only [h, hx, Instr.loadAt, Instr.sureAddr, Sem.run_bind, Sem.run_pure, Result.andThen_ok, hl]
  exact hR
theorem gives_store_one {x y : Operand} {ty : TypeId} {ad : Addr} {v : Value} (h : o.op = .store ty x y) (hx : a.eval x = .pointer (some ad)) (hy : a.eval y = v) (hrun : (storeVar ty ad v).run P w = .ok () (w.setCell ad v)) (hR : R undef (w.setCell ad v)) : gives P o a w R := by
  unfold gives execOp
  simp only [h, hx, hy, Instr.storeAt, Instr.sureAddr, Sem.run_bind, Sem.run_pure, Result.andThen_ok, hrun]
  exact hR
theorem gives_build {t : TypeId} {parts : Array (Nat × Operand)} (h : o.op = .build t parts) (cells : Array Value) (vs : List (Nat × Value)) (hv : parts.toList.map (fun x => (x.1, a.eval x.2)) = vs) (hb : P.built t vs = some cells) (hR : R (.agg cells) w) : gives P o a w R := by
  refine gives_of_run (w' := w) (v := .agg cells) ?_ hR
  have hb2 : P.built t (parts.map fun (i, x) => (i, a.eval x)).toList = some cells := by
    rw [← hb, ← hv, Array.toList_map]
  unfold execOp
  simp only [h, Sem.run_bind, run_build w t _ cells hb2, Result.andThen_ok, Sem.run_pure]
end
theorem zeroWr : (Try.prog.info? 69).map (fun i => (i.zero, i.size)) = some (some (.agg (penC (0, List.replicate 512 0)).toArray), 513) := by kernel_rfl
theorem sizeWr : (Try.prog.info? 69).map (·.size) = some 513 := by kernel_rfl
theorem bytesWr : (Try.prog.info? 69).map (·.bytes) = some 520 := by kernel_rfl
theorem builtWr (k : Int) : Try.prog.built 69 [(0, .int .i64 k)] = some (.int .i64 k :: bs (List.replicate 512 0)).toArray := by kernel_rfl
theorem build_one (x : Nat × List UInt8) (hx : x.2.length = 512) (w : World) : (Instr.buildSlice 58 1 #[(0, .agg (penC x).toArray)]).run Try.prog w = .ok (.slice (some ⟨w.heap.size, 0, none⟩) 1 1) (w.alloc (.cells (penC x).toArray 69)) := by
  have hz := zeroWr
  cases hq : Try.prog.info? 69 with
  | none => rw [hq] at hz; cases hz
  | some i =>
    rw [hq] at hz
    simp only [Option.map_some, Option.some.injEq, Prod.mk.injEq] at hz
    obtain ⟨hz1, hz2⟩ := hz
    have hl := penC_length x hx
    have hZ : (penC (0, List.replicate 512 0)).toArray.size = 513 := by rw [List.size_toArray]; exact penC_length _ (List.length_replicate ..)
    generalize (penC (0, List.replicate 512 0)).toArray = Z at hz1 hZ
    generalize penC x = y at hl
    refine run_buildSlice w 58 69 1 #[(0, .agg y.toArray)] y.toArray i _ Try.underlying58 hq hz1 (by rw [hz2]; decide) (by rw [hz2]; decide) ?_
    rw [hz2]
    have h := Great.fill_whole (s := 513) (by decide) [.agg y.toArray] ((Array.range (1 * 513)).map ((Value.agg Z).cells[· % (Value.agg Z).cells.size]!)) (by
      intro v hv
      rw [List.mem_singleton.1 hv]
      show y.toArray.size = 513
      rw [List.size_toArray, hl]) (by rw [Array.size_map, Array.size_range]; rfl)
    have e2 : ([Value.agg y.toArray].flatMap fun v => v.cells.toList).toArray = y.toArray := by simp [Value.cells]
    rw [e2] at h
    exact h
theorem gives_buildSlice {P : Program} {o : Oper} {a : Act} {w : World} {R : Value → World → Prop} {t : TypeId} {n : Nat} {parts : Array (Nat × Operand)} {v : Value} {w' : World} (h : o.op = .buildSlice t n parts) (vs : List (Nat × Value)) (hv : parts.toList.map (fun x => (x.1, a.eval x.2)) = vs)
    (hrun : (Instr.buildSlice t n vs.toArray).run P w = .ok v w') (hR : R v w') : gives P o a w R := by
  refine gives_of_run (w' := w') (v := v) ?_ hR
  have e : (parts.map fun (i, x) => (i, a.eval x)) = vs.toArray := by
    apply Array.ext'
    rw [Array.toList_map]
    exact hv
  unfold execOp
  simp only [h, e, Sem.run_bind, hrun, Result.andThen_ok, Sem.run_pure]
theorem gives_append {P : Program} {o : Oper} {a : Act} {w : World} {R : Value → World → Prop} {s x : Operand} {t : TypeId} {u y v : Value} {w' : World} (h : o.op = .call { callee := .builtin .append, args := #[s, x], argTypes := #[t, t] }) (hs : a.eval s = u) (hx : a.eval x = y)
    (hrun : (Builtin.append_ #[t, t] o.type #[u, y]).run P w = .ok v w') (hR : R v w') : gives P o a w R := by
  refine gives_of_run (w' := w') (v := v) ?_ hR
  unfold execOp
  simp only [h, resolve, invoke, builtin, Sem.run_bind, Sem.run_pure, Result.andThen_ok, List.map_toArray, List.map_cons, List.map_nil, hs, hx, hrun]
theorem run_fieldD1 (g : Nat) (w : World) : (Instr.fieldAt 60 (.pointer (some ⟨g, 0, none⟩)) 1).run Try.prog w = .ok (.pointer (some ⟨g, 1, none⟩)) w := by
  simp [go_sem]
theorem run_storeP {w : World} {g : Nat} {x : Value} (hc : w.cell? ⟨g, 1, none⟩ = some x) (hf : w.frozen? ⟨g, 1, none⟩ = false) (A : Option Addr) (n c : Nat) : (storeVar 58 ⟨g, 1, none⟩ (.slice A n c)).run Try.prog w = .ok () (w.setCell ⟨g, 1, none⟩ (.slice A n c)) := by
  simp [storeVar, go_sem, hc, hf]
theorem ne_own {A : Option Addr} {n c k : Nat} (h : ∀ a, A = some a → a.block ≠ k) : some k ≠ (Value.slice A n c).ownBlock := by
  cases A with
  | none => simp [Value.ownBlock]
  | some a => simp only [Value.ownBlock]; intro e; injection e with e; exact h a rfl e.symm
theorem splice_pen (k : Nat) (p : List UInt8) (hp : p.length = 512) : splice (penC (k, List.replicate 512 0)) 1 (bs p) = penC (k, p) := by
  unfold splice
  rw [bs_length, hp, List.drop_of_length_le (by rw [penC_length _ (List.length_replicate ..)]; decide), List.append_nil]
  rfl
theorem copy_src {w : World} {P : Option Addr} {p : List UInt8} (h : Rd w P p) (hn : p ≠ []) : ∃ ad, P = some ad ∧ ∀ (j : Nat) (v : Value), (bs p)[j]? = some v → w.cell? (ad.add j) = some v := by
  obtain ⟨b, off, rfl, _⟩ := id h hn
  exact ⟨_, rfl, h.cells rfl hn⟩
/-- A write more. -/
def Dk.put (D : Dk) (k : Nat) (p : List UInt8) : Dk := { D with pen := D.pen ++ [(k, p)] }
theorem append_wr (w : World) (B ty : Nat) (A : Option Addr) (c : Nat) (l : List (Nat × List UInt8)) (x : Nat × List UInt8) (hown : w.ownsRow B 69 513 (.slice A l.length c) l.length (pensC l)) (hx : x.2.length = 512) (hf : l.length < 1000000000) (g : Nat) (hg : Rw w g 69 (penC x)) (hB : B ≤ w.heap.size) :
    ∃ A' c' w', (Builtin.append_ #[58, 58] ty #[.slice A l.length c, .slice (some ⟨g, 0, none⟩) 1 1]).run Try.prog w = .ok (.slice A' (l.length + 1) c') w' ∧ w'.ownsRow B 69 513 (.slice A' (l.length + 1) c') (l.length + 1) (pensC (l ++ [x])) ∧
      w.grownBy w' (Value.slice A l.length c).ownBlock ∧ Newer w A A' := by
  have hz := zeroWr
  have hby := bytesWr
  cases hq : Try.prog.info? 69 with
  | none => rw [hq] at hz; cases hz
  | some i =>
    rw [hq] at hz hby
    simp only [Option.map_some, Option.some.injEq, Prod.mk.injEq] at hz hby
    obtain ⟨v', w', h1, h2, h3, _, h5⟩ := run_append_own_at (P := Try.prog) w B 58 ty 69 i _ 513 520 Try.underlying58 hq hz.1 hz.2 hby (by show (penC (0, List.replicate 512 0)).toArray.size = 513; rw [List.size_toArray]; exact penC_length _ (List.length_replicate ..)) (by decide) (.slice A l.length c) l.length (pensC l) hown ⟨g, 0, none⟩ 1 1 (penC x) (by rw [penC_length x hx]) (fun j u hu => by rw [add_flat, Nat.zero_add]; exact hg.cell hu) (penC_one x) (by unfold maxLen; omega) (by omega) hB
    obtain ⟨A', c', rfl⟩ : ∃ A' c', v' = .slice A' (l.length + 1) c' := by
      rcases h2.2 with ⟨_, h0⟩ | ⟨g', cap, _, hv, _⟩
      · omega
      · exact ⟨_, _, hv⟩
    refine ⟨A', c', w', h1, by rw [pensC_append]; simpa [pensC] using h2, h3, fun a' ha' => ?_⟩
    subst ha'
    rcases h5 with h5 | h5
    · cases A with
      | none => simp [Value.ownBlock] at h5
      | some a => simp [Value.ownBlock] at h5; exact .inl ⟨a, rfl, h5.symm⟩
    · simp [Value.ownBlock] at h5; exact .inr (by omega)
theorem put_at {B g gd gn c c' m k : Nat} {W : World} {A A' : Option Addr} {D : Dk} {p : List UInt8} (hg : Rw W g 60 ((diskC gd gn A c D).set 1 (.slice A' (m + 1) c'))) (hd : Rw W gd 67 (bs D.dur.flatten)) (hn : Rw W gn 3 (newL D.dur.length D.pen))
    (ho : W.ownsRow B 69 513 (.slice A' (m + 1) c') (m + 1) (pensC (D.pen ++ [(k, p)]))) (hb : B ≤ g ∧ B ≤ gd ∧ B ≤ gn) (hm : D.pen.length = m) (hk : k < D.dur.length) :
    DiskAt B (W.setCell ⟨gn, k, none⟩ (.int .i64 ((m : Int) + 1))).drew g gd gn A' c' (D.put k p) := by
  have n2 : g ≠ gn := hg.apart hn (by decide)
  have n3 : gd ≠ gn := hd.apart hn (by decide)
  have n4 := hn.apart_own ho (by decide)
  have hlen : (D.pen ++ [(k, p)]).length = m + 1 := by rw [List.length_append, hm]; rfl
  refine ⟨?_, ?_, ?_, ?_, hb⟩
  · have h := (hg.far (p := ⟨gn, k, none⟩) n2 (.int .i64 ((m : Int) + 1))).ext (Ext.drew _)
    have e : diskC gd gn A' c' (D.put k p) = (diskC gd gn A c D).set 1 (.slice A' (m + 1) c') := by
      unfold diskC Dk.put
      simp only [hlen, List.set_cons_succ, List.set_cons_zero]
    rw [e]; exact h
  · exact (hd.far (p := ⟨gn, k, none⟩) n3 (.int .i64 ((m : Int) + 1))).ext (Ext.drew _)
  · have h := (hn.set k (.int .i64 ((m : Int) + 1))).ext (Ext.drew _)
    have e : newL (D.put k p).dur.length (D.put k p).pen = (newL D.dur.length D.pen).set k (.int .i64 ((m : Int) + 1)) := by
      show newL D.dur.length (D.pen ++ [(k, p)]) = _
      rw [newL_snoc _ _ _ hk, hm]
      rfl
    rw [e]; exact h
  · show World.ownsRow _ B 69 513 (.slice A' (D.pen ++ [(k, p)]).length c') (D.pen ++ [(k, p)]).length (pensC (D.pen ++ [(k, p)]))
    rw [hlen]
    exact ownsRow_far ho fun a ha => Below.heap_setCell W ⟨gn, k, none⟩ _ a.block (n4 a ha)
set_option maxRecDepth 20000 in
set_option maxHeartbeats 3200000 in
theorem write_any {B g gd gn c d : Nat} {w : World} {A P : Option Addr} {D : Dk} (h : DiskAt B w g gd gn A c D) (ok : D.Ok) (hoff : D.off = false) (hf : D.pen.length < 1000000) (ho : D.ops < 1000000) (ha : D.arm < 9223372036854775808) (k : Nat) (hk : k < D.dur.length)
    (p : List UInt8) (hp : p.length = 512) (hP : Rd w P p) (hB : B ≤ w.heap.size) :
    Calls Try.prog 21 #[.pointer (some ⟨g, 0, none⟩), .int .i64 (k : Int), .slice P 512 d] w (DPost B g gd gn w A (.int .i64 (D.put k p).opE) (D.put k p).op) := by
  obtain ⟨c0, c1, c2, -, -, c5⟩ := disk_cells h
  rw [hoff] at c5
  have KH := has_any h (k : Int)
  rw [show (decide ((0 : Int) ≤ (k : Int)) && decide ((k : Int) < (D.dur.length : Int))) = true by simp; omega] at KH
  have H := hide h
  have OK := hide ok
  have HPR := hide hP
  have HPL := hide hp
  have HPN := hide (show p ≠ [] by intro e; rw [e] at hp; cases hp)
  obtain ⟨n, HN⟩ : ∃ n, Hid (D.dur.length = n) := ⟨_, hide rfl⟩
  obtain ⟨m, HM⟩ : ∃ m, Hid (D.pen.length = m) := ⟨_, hide rfl⟩
  have HF := hide hf
  have HOP := hide ho
  have HAR := hide ha
  have HKN := hide hk
  rw [HN.out] at c0 c2 hk
  rw [HM.out] at c1
  have hki : (k : Int) < (n : Int) := by omega
  have hki0 : (0 : Int) ≤ (k : Int) := by omega
  clear h ok hoff hP hp hf ho ha
  go_enter Try.func21, Try.ntmps21
  go_upto_region 11 with (first
    | (go_at_call 28; refine KH.mono ?_; rintro e w1 ⟨rfl, rfl⟩)
    | ((with_reducible show wpList _ _ _ (⟨some 26, .build _ _, _, _, _, _⟩ :: _) _ _); refine wpList_gives (gives_build rfl _ [(0, .int .i64 (k : Int))] rfl (builtWr (k : Int)) ⟨rfl, rfl⟩) rfl ?_)
    | ((with_reducible show wpList _ _ _ (⟨some 7, .alloc _, _, _, _, _⟩ :: _) _ _); refine wpList_gives (gives_alloc_z 69 rfl _ 513 zeroWr ⟨rfl, rfl⟩) rfl ?_)
    | ((with_reducible show wpList _ _ _ (⟨none, .store _ (.tmp 7) (.tmp 26), _, _, _, _⟩ :: _) _ _);
       refine wpList_store_rw rfl 69 (.tmp 7) (.tmp 26) rfl _ rfl (penC (k, List.replicate 512 0)) rfl 69 (penC (0, List.replicate 512 0)) (heap_alloc_new w _) 513 sizeWr rfl rfl (List.all_eq_true.2 (penC_one _)) ?_;
       intro w2 hr2 hl2;
       have hx2 : Ext w w2 := (Ext.alloc w _).laid hl2 (Nat.le_refl _);
       have HR2 := hide hr2; clear hr2 hl2)
    | ((with_reducible show wpList _ _ _ (⟨some 28, _, _, _, _, _⟩ :: _) _ _); refine wpList_gives (gives_cutall rfl rfl (run_all512 _ _ _) ⟨rfl, rfl⟩) rfl ?_)
    | ((with_reducible show wpList _ _ _ (⟨some 30, _, _, _, _, _⟩ :: _) _ _);
       refine wpList_copy_splice rfl (.tmp 28) (.tmp 29) 32 32 rfl 5 Try.underlying32 (by kernel_rfl) (some ⟨w.heap.size, 1, none⟩) P 512 512 512 d rfl rfl w.heap.size 1 (penC (k, List.replicate 512 0)) 69 HR2.out (bs p) (by rw [bs_length, HPL.out]; rfl) (fun _ => ⟨rfl, copy_src (HPR.out.ext hx2) HPN.out⟩) (by rw [bs_length, HPL.out, penC_length _ (List.length_replicate ..)]; decide) (bs_one p) w.heap.size w2 (Below.refl _ _) (Nat.le_refl _) ?_;
       intro w3 hw3 hb3;
       have hx3 : Ext w w3 := Below.trans hx2 hb3))
  have HR3 : Hid (Rw w3 w.heap.size 69 (penC (k, p))) := hide (by
    have h := hw3.out
    rw [splice_pen k p HPL.out] at h
    exact h)
  clear hw3 hb3 HR2 hx2
  dsimp only [Act.put, List.setIfInBounds_toArray, List.set_cons_succ, List.set_cons_zero]
  have HD3 := hide (H.out.ext hx3)
  have HW0 : Hid (DiskAt B w3.drew g gd gn A c D) := hide (HD3.out.ext (Ext.drew _))
  have HD1 : Hid (DiskAt B (w3.drew.alloc (.cells (penC (k, p)).toArray 69)) g gd gn A c D) := hide (HW0.out.ext (Ext.alloc _ _))
  have HN1 : Hid (Rw (w3.drew.alloc (.cells (penC (k, p)).toArray 69)) w3.drew.heap.size 69 (penC (k, p))) := hide (Rw.new w3.drew 69 (penC (k, p)))
  have HR0 : Hid (Rw w3.drew w.heap.size 69 (penC (k, p))) := hide (HR3.out.ext (Ext.drew _))
  obtain ⟨A', c', W2, hrun, hown, hgr, hnew⟩ := append_wr (w3.drew.alloc (.cells (penC (k, p)).toArray 69)) B 58 A c D.pen (k, p) HD1.out.pen HPL.out (by have := HF.out; omega) _ HN1.out (by have := hx3.size; simp; omega)
  rw [HM.out] at hrun hown
  obtain ⟨n1, n2, n3, n4⟩ := HD1.out.ne
  obtain ⟨g7, hg7⟩ : ∃ g7, g7 = w.heap.size := ⟨_, rfl⟩
  rw [← hg7] at HR0 ⊢
  have k1 := (disk_cells HW0.out).2.1
  have l1 := (disk_cells HD1.out).2.1
  rw [HM.out] at k1 l1
  -- the disk's own block behind the append
  have HB2 : Hid (Rw W2 g 60 (diskC gd gn A c D)) := hide ((hgr.block g HD1.out.blk.lt (ne_own (fun a ha => (n4 a ha).1))).trans HD1.out.blk)
  have HV2 : Hid (Rw W2 gd 67 (bs D.dur.flatten)) := hide ((hgr.block gd HD1.out.dur.lt (ne_own (fun a ha => (n4 a ha).2.1))).trans HD1.out.dur)
  have HL2 : Hid (Rw W2 gn 3 (newL D.dur.length D.pen)) := hide ((hgr.block gn HD1.out.new.lt (ne_own (fun a ha => (n4 a ha).2.2))).trans HD1.out.new)
  have HC2 := hide (HB2.out.cell (i := 1) rfl)
  have HF2 := hide (HB2.out.frozen 1)
  refine wp_region_chain [.pointer (some ⟨g, 0, none⟩), .pointer (some ⟨g, 0, none⟩), .pointer (some ⟨g, 0, none⟩), .pointer (some ⟨g, 1, none⟩), .slice A m c, .agg (penC (k, p)).toArray, .slice (some ⟨w3.drew.heap.size, 0, none⟩) 1 1, .slice A' (m + 1) c', .pointer (some ⟨g, 0, none⟩), .pointer (some ⟨g, 1, none⟩), undef]
    [w3.drew, w3.drew.alloc (.cells (penC (k, p)).toArray 69), W2, W2.setCell ⟨g, 1, none⟩ (.slice A' (m + 1) c')] [6, 7, 10] (by kernel_rfl) (by kernel_rfl) (by kernel_rfl) rfl ?_ ?_
  · refine ⟨?_, ?_, ?_, ?_, ?_, ?_, ?_, ?_, ?_, ?_, ?_, trivial⟩
    · intro az hk H
      rw [if_neg (by decide)]
      intro j _
      refine .inl ⟨wanted_none rfl, gives_move rfl ?_⟩
      rw [ev (show az.tmps[0]? = some (.pointer (some ⟨g, 0, none⟩)) from hk 0 rfl)]
      exact ⟨rfl, rfl⟩
    · intro az hk H
      rw [if_neg (by decide)]
      intro j _
      refine .inl ⟨wanted_none rfl, gives_move rfl ?_⟩
      rw [ev (show az.tmps[0]? = some (.pointer (some ⟨g, 0, none⟩)) from hk 0 rfl)]
      exact ⟨rfl, rfl⟩
    · intro az hk H
      rw [if_neg (by decide)]
      intro j _
      exact .inl ⟨wanted_none rfl, gives_nilCheck rfl (ev (H 1 rfl _ rfl 32 rfl)) ⟨rfl, rfl⟩⟩
    · intro az hk H
      rw [if_neg (by decide)]
      intro j _
      exact .inl ⟨wanted_none rfl, gives_fieldP rfl (ev (H 2 rfl _ rfl 33 rfl)) (run_fieldD1 g _) ⟨rfl, rfl⟩⟩
    · intro az hk H
      rw [if_neg (by decide)]
      intro j hj
      have hj2 : j ≤ 1 := hj
      refine .inl ⟨wanted_none rfl, ?_⟩
      rcases j with _ | _ | j
      · exact gives_load_one rfl (ev (H 3 rfl _ rfl 34 rfl)) Try.underlying58 k1 ⟨rfl, rfl⟩
      · exact gives_load_one rfl (ev (H 3 rfl _ rfl 34 rfl)) Try.underlying58 l1 ⟨rfl, rfl⟩
      · omega
    · intro az hk H
      rw [if_neg (by decide)]
      intro j hj
      have hj2 : j ≤ 0 := hj
      obtain rfl : j = 0 := by omega
      refine .inl ⟨wanted_none rfl, ?_⟩
      exact gives_load_at 69 (.tmp 7) rfl g7 0 (by rw [ev (show az.tmps[7]? = some (.pointer (some ⟨g7, 0, none⟩)) from hk 7 rfl)]) (penC (k, p)) 513 (agg_struct Try.underlying69 _) sizeWr (penC_length (k, p) HPL.out).symm (fun j v hj => by rw [Nat.zero_add]; exact HR0.out.cell hj) ⟨rfl, rfl⟩
    · intro az hk H
      rw [if_pos (by decide)]
      intro j hj
      obtain rfl : j = 0 := by
        rcases j with _ | _ | _ | j
        · rfl
        · exact absurd hj (by decide)
        · exact absurd hj (by decide)
        · exact absurd hj (by simp)
      refine ⟨wanted_none rfl, ?_⟩
      exact gives_buildSlice rfl [(0, .agg (penC (k, p)).toArray)] (by show [(0, az.eval (.tmp 36))] = _; rw [ev (H 5 rfl _ rfl 36 rfl)]; rfl) (build_one (k, p) HPL.out _) ⟨rfl, rfl⟩
    · intro az hk H
      rw [if_pos (by decide)]
      intro j hj
      obtain rfl : j = 1 := by
        rcases j with _ | _ | _ | j
        · exact absurd hj (by decide)
        · rfl
        · exact absurd hj (by decide)
        · exact absurd hj (by simp)
      refine ⟨wanted_none rfl, ?_⟩
      exact gives_append rfl (ev (H 4 rfl _ rfl 35 rfl)) (ev (H 6 rfl _ rfl 37 rfl)) hrun ⟨rfl, rfl⟩
    · intro az hk H
      rw [if_neg (by decide)]
      intro j _
      exact .inl ⟨wanted_none rfl, gives_nilCheck rfl (ev (H 0 rfl _ rfl 31 rfl)) ⟨rfl, rfl⟩⟩
    · intro az hk H
      rw [if_neg (by decide)]
      intro j _
      exact .inl ⟨wanted_none rfl, gives_fieldP rfl (ev (H 8 rfl _ rfl 39 rfl)) (run_fieldD1 g _) ⟨rfl, rfl⟩⟩
    · intro az hk H
      rw [if_pos (by decide)]
      intro j hj
      obtain rfl : j = 2 := by
        rcases j with _ | _ | _ | j
        · exact absurd hj (by decide)
        · exact absurd hj (by decide)
        · rfl
        · exact absurd hj (by simp)
      refine ⟨wanted_none rfl, ?_⟩
      exact gives_store_one rfl (ev (H 9 rfl _ rfl 40 rfl)) (ev (H 7 rfl _ rfl 38 rfl)) (run_storeP HC2.out HF2.out A' (m + 1) c') ⟨rfl, rfl⟩
  · simp only [setsOf, List.zipIdx_cons, List.zipIdx_nil, List.filterMap_cons, List.filterMap_nil, Option.map_some, Option.map_none, List.foldl_cons, List.foldl_nil, List.setIfInBounds_toArray, List.set_cons_succ, List.set_cons_zero, List.getD_cons_zero, List.getD_cons_succ, Nat.zero_add, List.length_cons, List.length_nil]
    obtain ⟨W3, hW3⟩ : ∃ W3, W3 = W2.setCell ⟨g, 1, none⟩ (.slice A' (m + 1) c') := ⟨_, rfl⟩
    have HG3 : Hid (Rw W3 g 60 ((diskC gd gn A c D).set 1 (.slice A' (m + 1) c'))) := hide (by rw [hW3]; exact HB2.out.set 1 _)
    have HV3 : Hid (Rw W3 gd 67 (bs D.dur.flatten)) := hide (by rw [hW3]; exact HV2.out.far (fun e => n1 e.symm) _)
    have HL3 : Hid (Rw W3 gn 3 (newL D.dur.length D.pen)) := hide (by rw [hW3]; exact HL2.out.far (fun e => n2 e.symm) _)
    have HO3 : Hid (W3.ownsRow B 69 513 (.slice A' (m + 1) c') (m + 1) (pensC (D.pen ++ [(k, p)]))) := hide (by
      rw [hW3]
      exact ownsRow_far hown fun a ha => Below.heap_setCell W2 ⟨g, 1, none⟩ _ a.block (HB2.out.apart_own hown (by decide) a ha))
    have HX3 : Hid (Dfr g gd gn A w W3) := hide (by
      rw [hW3]
      refine Dfr.trans (A' := A) (Dfr.trans (A' := A) (Dfr.ext (hx3.trans ((Ext.drew _).trans (Ext.alloc _ _)))) ⟨hgr.os, hgr.tape, hgr.output, hgr.size, fun b hb _ _ _ h4 => hgr.block b hb (ne_own h4)⟩ (Newer.refl _ _)) (Dfr.cell 1 _) (Newer.refl _ _))
    have HNW : Hid (Newer w A A') := hide (fun a' ha' => by
      rcases hnew a' ha' with h | h
      · exact .inl h
      · refine .inr (Nat.le_trans (Nat.le_trans hx3.size ?_) h)
        simp)
    rw [← hW3]
    have d1 := HG3.out.cell (i := 1) (v := .slice A' (m + 1) c') rfl
    have d2 := HG3.out.cell (i := 2) (v := .slice (some ⟨gn, 0, none⟩) n n) (by rw [← HN.out]; rfl)
    have dn := HL3.out.cell (i := k) (newL_get _ _ _ HKN.out)
    have fn := HL3.out.frozen k
    clear hW3 hgr hown hrun hnew HB2 HV2 HL2 HC2 HF2 HR0 HN1 HD1 HW0 HD3 HR3 k1 l1 hx3 n1 n2 n3 n4 c0 c1 c2 c5 KH hg7
    have hm1 : (m : Int) < 1000000 := by have := HF.out; have := HM.out; omega
    have HD4 : Hid (DiskAt B (W3.setCell ⟨gn, k, none⟩ (.int .i64 ((m : Int) + 1))).drew g gd gn A' c' (D.put k p)) := hide (put_at HG3.out HV3.out HL3.out HO3.out H.out.base HM.out HKN.out)
    have HF4 : Hid (Dfr g gd gn A w (W3.setCell ⟨gn, k, none⟩ (.int .i64 ((m : Int) + 1))).drew) := hide (HX3.out.trans (A' := A) ⟨rfl, rfl, rfl, by simp, fun b _ _ _ h3 _ => Below.heap_setCell W3 _ _ b h3⟩ (Newer.refl _ _))
    have HSZ : Hid (w.heap.size ≤ (W3.setCell ⟨gn, k, none⟩ (.int .i64 ((m : Int) + 1))).drew.heap.size) := hide HF4.out.size
    have KO := hide (operate_any HD4.out (by show D.ops < _; have := HOP.out; omega) (by show D.arm < _; exact HAR.out))
    go_wp2
    go_region
    go_wp2_with (go_at_call 29; refine KO.out.mono ?_; rintro e w5 ⟨A5, c5, rfl, hd5, hf5, hn5⟩)
    go_ret
    exact ⟨A5, c5, rfl, hd5, HF4.out.trans hf5 HNW.out, Newer.trans HNW.out hn5 HSZ.out⟩
end Go.Proofs.Ytmabminjmcjafaa
