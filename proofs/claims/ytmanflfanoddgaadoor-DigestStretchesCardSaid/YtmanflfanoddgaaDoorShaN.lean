/-
  A tag by a key's two states: (keyed).tag's contract, and Tag's.
-/
import Derived.Test.YtmanflfanoddgaaDoorShaK
namespace Go.Proofs.YtmanflfanoddgaaDoor
open Go.RowKit

theorem run_loadVar_at {P : Program} (w : World) (g off : Nat) (ty : TypeId) (vs : List Value) (n : Nat) (e : TypeId) (hu : P.underlying ty = some (.array n e)) (hi : (P.info? ty).map (·.size) = some n) (hn : n = vs.length)
    (hc : ∀ j v, vs[j]? = some v → w.cell? ⟨g, off + j, none⟩ = some v) : (loadVar ty ⟨g, off, none⟩).run P w = .ok (.agg vs.toArray) w := by
  have hl : (loadCells ⟨g, off, none⟩ vs.length).run P w = .ok vs.toArray w :=
    run_loadCells_list (P := P) w ⟨g, off, none⟩ vs (fun j v hv => by rw [add_flat]; exact hc j v hv)
  cases hq : P.info? ty with
  | none => simp [hq] at hi
  | some i =>
    have hs : i.size = vs.length := by simp [hq] at hi; omega
    have hagg : (isAgg ty).run P w = .ok true w := by
      unfold isAgg
      rw [Sem.run_bind, run_underlying hu w]
      simp
    simp [loadVar, Sem.run_bind, hagg, sizeOf, typeInfo, hq, hs, hl]
theorem gives_load_at {P : Program} {o : Oper} {a : Act} {w : World} {R : Value → World → Prop} (ty : TypeId) (x : Operand) (ho : o.op = .load ty x) (g off : Nat) (hx : a.eval x = .pointer (some ⟨g, off, none⟩)) (vs : List Value)
    (n : Nat) (e : TypeId) (hu : P.underlying ty = some (.array n e)) (hi : (P.info? ty).map (·.size) = some n) (hn : n = vs.length) (hc : ∀ j v, vs[j]? = some v → w.cell? ⟨g, off + j, none⟩ = some v) (hR : R (.agg vs.toArray) w) : gives P o a w R := by
  unfold gives execOp
  simp only [ho, hx, Instr.loadAt, Instr.sureAddr, Sem.run_bind, Sem.run_pure, Result.andThen_ok, run_loadVar_at w g off ty vs n e hu hi hn hc]
  exact hR
theorem wpList_load_at {P : Program} {ops : Array Oper} {rest : List Oper} {o : Oper} {a : Act} {w : World} {Q : Exit → Act → World → Prop} (hgd : o.guard = none) (ty : TypeId) (x : Operand) (ho : o.op = .load ty x) (g off : Nat) (hx : a.eval x = .pointer (some ⟨g, off, none⟩)) (vs : List Value)
    (n : Nat) (e : TypeId) (hu : P.underlying ty = some (.array n e)) (hi : (P.info? ty).map (·.size) = some n) (hn : n = vs.length) (hc : ∀ j v, vs[j]? = some v → w.cell? ⟨g, off + j, none⟩ = some v)
    (h : wpList P ops Q rest (a.put o.dst (.agg vs.toArray)) w) : wpList P ops Q (o :: rest) a w :=
  wpList_plain hgd fun _ hK => wp_of_gives (R := fun v w' => v = .agg vs.toArray ∧ w' = w) (gives_load_at ty x ho g off hx vs n e hu hi hn hc ⟨rfl, rfl⟩) (fun v w' ⟨hv, hw⟩ => by subst hv hw; exact hK _ _ h)
theorem gives_field {P : Program} {o : Oper} {a : Act} {w : World} {R : Value → World → Prop} {x : Operand} {t i : Nat} {u v : Value} (h : o.op = .fieldAddr t x i) (hx : a.eval x = u) (hrun : (Instr.fieldAt t u i).run P w = .ok v w) (hR : R v w) : gives P o a w R := by
  refine gives_of_run (w' := w) (v := v) ?_ hR
  unfold execOp
  simp only [h, hx, Sem.run_bind, hrun, Result.andThen_ok, Sem.run_pure]
theorem run_field1 (g : Nat) (w : World) : (Instr.fieldAt 84 (.pointer (some ⟨g, 0, none⟩)) 1).run Tryd.prog w = .ok (.pointer (some ⟨g, 8, none⟩)) w := by
  simp [go_sem]
theorem run_all32 (g : Nat) (w : World) : (Instr.sliceAt 24 (.pointer (some ⟨g, 0, none⟩)) none none none).run Tryd.prog w = .ok (.slice (some ⟨g, 0, none⟩) 32 32) w := by
  simp [go_sem, Tryd.underlying24]
theorem cells_first {w : World} {g t : Nat} {s1 s2 : Sta} (h : Rw w g t (us (s1.list ++ s2.list))) : ∀ j v, (us s1.list)[j]? = some v → w.cell? ⟨g, 0 + j, none⟩ = some v := fun j v hv => by
  rw [Nat.zero_add]
  refine Rw.cell h ?_
  have hlt := (List.getElem?_eq_some_iff.1 hv).1
  unfold us at hv hlt ⊢
  rw [List.map_append, List.getElem?_append_left hlt]
  exact hv
theorem cells_second {w : World} {g t : Nat} {s1 s2 : Sta} (h : Rw w g t (us (s1.list ++ s2.list))) : ∀ j v, (us s2.list)[j]? = some v → w.cell? ⟨g, 8 + j, none⟩ = some v := fun j v hv => by
  refine Rw.cell h ?_
  have hl : (us s1.list).length = 8 := by rw [us_length, list_length]
  unfold us at hv hl ⊢
  rw [List.map_append, List.getElem?_append_right (by omega), hl, Nat.add_sub_cancel_left]
  exact hv
def tagS (s1 s2 : Sta) (p : List UInt8) : List UInt8 := sumS s2 64 (sumS s1 64 p)

set_option maxRecDepth 20000 in
set_option maxHeartbeats 1600000 in
theorem tag_any (s1 s2 : Sta) (h1 : s1.ok) (h2 : s2.ok) (A : Option Addr) (c : Nat) (p : List UInt8) (w : World) (hr : Rd w A p) (hlc : p.length ≤ c) (hl : p.length ≤ 140737488355328) (ht : Tab w) :
    Calls Tryd.prog 46 #[.agg (us (s1.list ++ s2.list)).toArray, .slice A p.length c] w (Ret w (Is (.agg (bs (tagS s1 s2 p)).toArray))) := by
  obtain ⟨o1, HO1⟩ : ∃ o, Hid (sumS s1 64 p = o) := ⟨_, rfl⟩
  have hol1 : o1.length = 32 := by rw [← HO1.out]; rfl
  obtain ⟨o2, HO2⟩ : ∃ o, Hid (sumS s2 64 o1 = o) := ⟨_, rfl⟩
  have hol2 : o2.length = 32 := by rw [← HO2.out]; rfl
  have HT : Hid (tagS s1 s2 p = o2) := by show tagS s1 s2 p = o2; unfold tagS; rw [HO1.out, HO2.out]
  rw [HT.out]
  have KS := hide fun W (h : Ext w W) => (show Calls Tryd.prog 76 #[.agg (us s1.list).toArray, .int .i64 64, .slice A p.length c] W (Ret W (Is (.agg (bs o1).toArray)))
    from HO1.out ▸ sumFrom_any s1 h1 64 A c p W (hr.ext h) hlc hl (by omega) (ht.ext h))
  have KT0 := hide fun (g : Nat) W (h : Ext w W) (hg : Rd W (some ⟨g, 0, none⟩) o1) => (show Calls Tryd.prog 76 #[.agg (us s2.list).toArray, .int .i64 64, .slice (some ⟨g, 0, none⟩) 32 32] W (Ret W (Is (.agg (bs o2).toArray)))
    from (by
      have h3 := sumFrom_any s2 h2 64 (some ⟨g, 0, none⟩) 32 o1 W hg (by omega) (by omega) (by omega) (ht.ext h)
      rw [hol1, HO2.out] at h3
      exact h3))
  go_enter Tryd.func46, Tryd.ntmps46
  go_wp2_with (first
    | ((with_reducible show wpList _ _ _ (⟨some 7, .load _ _, _, _, _, _⟩ :: _) _ _);
       refine wpList_load_at rfl 28 (.tmp 6) rfl w.heap.size 0 rfl (us s1.list) 8 27 Tryd.underlying28 (by kernel_rfl) (by rw [us_length, list_length]) (cells_first (s2 := s2) (t := 84) (heap_alloc2_old w _ _)) ?_)
    | (go_at_call 76; refine (KS.out _ ((Ext.alloc w _).trans (Ext.alloc _ _))).mono ?_; rintro e w2 ⟨v2, rfl, hw2, rfl⟩;
       have hx2 : Ext w w2 := ((Ext.alloc w _).trans (Ext.alloc _ _)).trans hw2;
       have HK2 : Hid (Rw w2 w.heap.size 84 (us (s1.list ++ s2.list))) := Rw.ext (show Rw _ _ _ _ from heap_alloc2_old w _ _) hw2;
       have HZ2 : Hid (Rw w2 (w.heap.size + 1) 24 (bs (List.replicate 32 0))) := Rw.ext (show Rw _ _ _ _ from heap_alloc2_new w _ _) hw2)
    | ((with_reducible show wpList _ _ _ (⟨none, .store _ (.tmp 5) _, _, _, _, _⟩ :: _) _ _);
       refine wpList_store_rw rfl 24 (.tmp 5) (.tmp 9) rfl _ rfl (bs o1) rfl 24 (bs (List.replicate 32 0)) (heap_alloc_new w2 _) 32 (by kernel_rfl) (by rw [bs_length, hol1]) (by rw [bs_length, bs_length, hol1]; rfl) (List.all_eq_true.2 (bs_one _)) ?_;
       intro w3 hr3 hl3;
       have hs2 : w.heap.size + 2 ≤ w2.heap.size := (by have := Rw.lt HZ2.out; omega);
       have HZ : Hid (Rw w3 (w.heap.size + 1) 24 (bs (List.replicate 32 0))) := Rw.other (Rw.ext HZ2.out (Ext.alloc _ _)) hl3 (by omega);
       have HK : Hid (Rw w3 w.heap.size 84 (us (s1.list ++ s2.list))) := Rw.other (Rw.ext HK2.out (Ext.alloc _ _)) hl3 (by omega);
       have hx0 : Ext w w3 := (hx2.trans (Ext.alloc _ _)).laid hl3 (by omega)))
  generalize hg5 : w2.heap.size = g5 at *
  have KT := hide fun W (h : Ext w3 W) => KT0.out g5 W (hx0.trans h) ((Rw.rd hr3).ext h)
  clear HZ2 HK2 hx2 hw2 KS hl3 hg5
  dsimp only [Act.put, List.setIfInBounds_toArray, List.set_cons_succ, List.set_cons_zero]
  refine wp_region_last (Nat.le_refl _) [
      Sp.is (.pointer (some ⟨w.heap.size, 8, none⟩)),
      Sp.is (.agg (us s2.list).toArray),
      Sp.is (.slice (some ⟨g5, 0, none⟩) 32 32),
      Sp.is (.agg (bs o2).toArray)] 4 _ rfl (by kernel_rfl) (by kernel_rfl) (by kernel_rfl) ?_ ?_
  · refine ⟨.inr ?_, .inr ?_, .inr ?_, .inr ?_, .inl rfl, trivial⟩
    · intro az wz hx hB hk H
      refine .inl ⟨wanted_none rfl, ?_⟩
      exact gives_field rfl (by rw [(ev (show az.tmps[2]? = some (.pointer (some ⟨w.heap.size, 0, none⟩)) from hk 2 rfl))]) (run_field1 _ _) ⟨Grw.refl _ _, rfl⟩
    · intro az wz hx hB hk H
      obtain ⟨v10, h10, s10⟩ := H 0 rfl _ rfl 10 rfl
      refine .inl ⟨wanted_none rfl, ?_⟩
      exact gives_load_at 28 (.tmp 10) rfl w.heap.size 8 (by rw [ev h10]; exact s10) (us s2.list) 8 27 Tryd.underlying28 (by kernel_rfl) (by rw [us_length, list_length]) (cells_second (Rw.below HK.out hx.below (Rw.lt HK.out))) ⟨Grw.refl _ _, rfl⟩
    · intro az wz hx hB hk H
      refine .inl ⟨wanted_none rfl, ?_⟩
      exact gives_all (n := 32) rfl (by rw [(ev (show az.tmps[5]? = some (.pointer (some ⟨g5, 0, none⟩)) from hk 5 rfl))]) (run_all32 _ _) ⟨Grw.refl _ _, rfl⟩
    · intro az wz hx hB hk H
      obtain ⟨v11, h11, s11⟩ := H 1 rfl _ rfl 11 rfl
      obtain ⟨v12, h12, s12⟩ := H 2 rfl _ rfl 12 rfl
      refine .inl ⟨wanted_none rfl, ?_⟩
      refine gives_call rfl Tryd.call76 (by simp only [List.map_toArray, List.map_cons, List.map_nil, ev h11, ev h12]; rw [s11, s12]) ?_
      exact (KT.out wz (Below.mono hx.below (Nat.le_refl _))).mono fun _ _ h => h.grw hB
  · intro az wz hx hd hs hv hsame
    obtain ⟨v10, h10, s10⟩ := hv 0 _ 10 (by decide) rfl rfl
    obtain rfl : v10 = (.pointer (some ⟨w.heap.size, 8, none⟩)) := s10
    obtain ⟨v11, h11, s11⟩ := hv 1 _ 11 (by decide) rfl rfl
    obtain rfl : v11 = (.agg (us s2.list).toArray) := s11
    obtain ⟨v12, h12, s12⟩ := hv 2 _ 12 (by decide) rfl rfl
    obtain rfl : v12 = (.slice (some ⟨g5, 0, none⟩) 32 32) := s12
    obtain ⟨v13, h13, s13⟩ := hv 3 _ 13 (by decide) rfl rfl
    obtain rfl : v13 = (.agg (bs o2).toArray) := s13
    have hfr := frame_last [(10, (.pointer (some ⟨w.heap.size, 8, none⟩))), (11, (.agg (us s2.list).toArray)), (12, (.slice (some ⟨g5, 0, none⟩) 32 32)), (13, (.agg (bs o2).toArray))] hs (by kernel_rfl) (by simp only [List.forall_mem_cons, List.not_mem_nil, false_implies, implies_true, and_true]; exact ⟨h10, h11, h12, h13⟩) hsame
    simp only [List.foldl_cons, List.foldl_nil, List.setIfInBounds_toArray, List.set_cons_succ, List.set_cons_zero] at hfr
    obtain ⟨tm, df⟩ := az
    simp only [] at hfr hd
    subst hfr hd
    clear hv hsame hs h10 h11 h12 h13
    refine ⟨wanted_none rfl, ?_⟩
    refine gives_store_rw 24 (.tmp 4) (.tmp 13) rfl (w.heap.size + 1) rfl (bs o2) rfl 24 (bs (List.replicate 32 0)) (Rw.below HZ.out hx.below (Rw.lt HZ.out)) 32 (by kernel_rfl) (by rw [bs_length, hol2]) (by rw [bs_length, bs_length, hol2]; rfl) (List.all_eq_true.2 (bs_one _)) ?_
    intro w5 hr5 hl5
    have hx5 : Ext w w5 := Ext.laid (Below.trans hx0 (Below.mono hx.below hx0.size)) hl5 (by omega)
    clear hx KT KT0 HK HZ hl5
    dsimp only [Act.put]
    go_wp2
    exact ret_rw rfl rfl _ rfl _ _ hr5 32 5 Tryd.underlying24 (by kernel_rfl) (by rw [bs_length, hol2]) (Ret.mk hx5 rfl)
end Go.Proofs.YtmanflfanoddgaaDoor
