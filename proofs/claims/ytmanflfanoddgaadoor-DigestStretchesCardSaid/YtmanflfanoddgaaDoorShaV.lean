/-
  A password's digest by many rounds: Stretch's contract.
-/
import Derived.Test.YtmanflfanoddgaaDoorShaU
namespace Go.Proofs.YtmanflfanoddgaaDoor
open Go.RowKit

theorem xorL_get (a b : List UInt8) (k : Nat) (x y : UInt8) (hx : a[k]? = some x) (hy : b[k]? = some y) : (xorL a b)[k]? = some (x ^^^ y) := by
  unfold xorL
  rw [List.getElem?_zipWith, hx, hy]
theorem xorL_length (a b : List UInt8) (h : a.length = 32) (h2 : b.length = 32) : (xorL a b).length = 32 := by
  unfold xorL
  rw [List.length_zipWith, h, h2]
  rfl
theorem gives_load_st {P : Program} {o : Oper} {a : Act} {w : World} {R : Value → World → Prop} (ty : TypeId) (x : Operand) (ho : o.op = .load ty x) (g : Nat) (hx : a.eval x = .pointer (some ⟨g, 0, none⟩)) (t : TypeId) (vs : List Value) (hr : Rw w g t vs)
    (d : TypeDesc) (hu : P.underlying ty = some d) (hd : (match d with | .struct _ | .array _ _ => true | _ => false) = true) (hi : (P.info? ty).map (·.size) = some vs.length) (hR : R (.agg vs.toArray) w) : gives P o a w R := by
  unfold gives execOp
  simp only [ho, hx, Instr.loadAt, Instr.sureAddr, Sem.run_bind, Sem.run_pure, Result.andThen_ok, run_loadVar_row w g t ty vs.toArray (0, 0) _ hr hu hd (by rw [hi]; simp)]
  exact hR
theorem gives_alloc {P : Program} {o : Oper} {a : Act} {w : World} {R : Value → World → Prop} {t : TypeId} (h : o.op = .alloc t) (cs : Array Value) (hrun : (Instr.alloc t true (.tuple #[])).run P w = .ok (.pointer (some ⟨w.heap.size, 0, none⟩)) (w.alloc (.cells cs t))) (hR : R (.pointer (some ⟨w.heap.size, 0, none⟩)) (w.alloc (.cells cs t))) : gives P o a w R := by
  refine gives_of_run (w' := w.alloc (.cells cs t)) (v := .pointer (some ⟨w.heap.size, 0, none⟩)) ?_ hR
  unfold execOp
  simp only [h, Sem.run_bind, hrun, Result.andThen_ok, Sem.run_pure]
/-- A new block. -/
def Fresh (B : Nat) (t : TypeId) (vs : List Value) (w : World) (v : Value) : Prop := ∃ g, v = .pointer (some ⟨g, 0, none⟩) ∧ B ≤ g ∧ Rw w g t vs
def Whole.Sp.fresh (B : Nat) (t : TypeId) (vs : List Value) : Whole.Sp := ⟨Fresh B t vs, fun _ _ _ h hx => by
  obtain ⟨g, hv, hB, hr⟩ := h
  exact ⟨g, hv, hB, hx _ _ hr⟩⟩
theorem grow_keeps {w w' : World} (h : Whole.Keeps w w') : Keeps w w' := fun k o ho => .inl (h k o ho)
def Whole.Sp.bytes (l : List UInt8) : Whole.Sp := ⟨Bytes l, fun _ _ _ h hx => h.keep (grow_keeps hx)⟩
theorem alloc32 (w : World) : (Instr.alloc 24 true (.tuple #[])).run Tryd.prog w = .ok (.pointer (some ⟨w.heap.size, 0, none⟩)) (w.alloc (.cells (bs (List.replicate 32 0)).toArray 24)) := by
  kernel_rfl

set_option maxRecDepth 20000 in
set_option maxHeartbeats 4000000 in
theorem stretch_any (A B : Option Addr) (c d : Nat) (pass salt : List UInt8) (r : Nat) (w : World) (hA : Rd w A pass) (hB : Rd w B salt) (hpc : pass.length ≤ c) (hsc : salt.length ≤ d) (hp : pass.length ≤ 1000000) (hs : salt.length ≤ 1000000) (hr : r < 64) (ht : Tab w) :
    Calls Tryd.prog 19 #[.slice A pass.length c, .slice B salt.length d, .int .i64 ((r : Int) + 1)] w (Ret w (Is (.tuple #[.agg (bs (stretchS pass salt r).2).toArray, .int .i64 0]))) := by
  obtain ⟨s1, HS1⟩ : ∃ s, Hid (innerS pass = s) := ⟨_, rfl⟩
  obtain ⟨s2, HS2⟩ : ∃ s, Hid (outerS pass = s) := ⟨_, rfl⟩
  have k1 : s1.ok := by rw [← HS1.out]; exact innerS_ok pass
  have k2 : s2.ok := by rw [← HS2.out]; exact outerS_ok pass
  have KK := hide fun W (h : Ext w W) => (show Calls Tryd.prog 45 #[.slice A pass.length c] W (Ret W (Is (.agg (us (s1.list ++ s2.list)).toArray))) from (by
    have h3 := keyedBy_any A c pass W (hA.ext h) hpc (by omega) (ht.ext h)
    rw [HS1.out, HS2.out] at h3
    exact h3))
  have KN := hide fun W (h : Ext w W) => numbered_any B d salt W (hB.ext h) (by omega)
  have HTS : Hid (∀ p, tagS s1 s2 p = tagK pass p) := fun p => by rw [← HS1.out, ← HS2.out]; rfl
  have KT := hide fun W (h : Ext w W) (C : Option Addr) (e : Nat) (p : List UInt8) (hC : Rd W C p) (he : p.length ≤ e) (hl : p.length ≤ 2000000) => (show Calls Tryd.prog 46 #[.agg (us (s1.list ++ s2.list)).toArray, .slice C p.length e] W (Ret W (Is (.agg (bs (tagK pass p)).toArray))) from (by
    have h3 := tag_any s1 s2 k1 k2 C e p W hC he (by omega) (ht.ext h)
    rw [HTS.out p] at h3
    exact h3))
  have hnl : (numberedL salt).length ≤ 2000000 := by simp [numberedL]; omega
  have HNL := hide hnl
  obtain ⟨L, HL⟩ : ∃ L : Nat → List UInt8, Hid (∀ n, (stretchS pass salt n).1 = L n) := ⟨fun n => (stretchS pass salt n).1, fun _ => rfl⟩
  obtain ⟨M, HM⟩ : ∃ M : Nat → List UInt8, Hid (∀ n, (stretchS pass salt n).2 = M n) := ⟨fun n => (stretchS pass salt n).2, fun _ => rfl⟩
  have HLL : Hid (∀ n, (L n).length = 32) := fun n => by rw [← HL.out]; exact (stretchS_length pass salt n).1
  have HML : Hid (∀ n, (M n).length = 32) := fun n => by rw [← HM.out]; exact (stretchS_length pass salt n).2
  have HL0 : Hid (tagK pass (numberedL salt) = L 0) := HL.out 0
  have HM0 : Hid (L 0 = M 0) := by show L 0 = M 0; rw [← HL.out, ← HM.out]; rfl
  have HLS : Hid (∀ n, tagK pass (L n) = L (n + 1)) := fun n => by rw [← HL.out, ← HL.out]; rfl
  have HMS : Hid (∀ n, xorL (M n) (L (n + 1)) = M (n + 1)) := fun n => by rw [← HL.out, ← HM.out, ← HM.out]; rfl
  rw [HM.out]
  have hr1 : (1 : Int) ≤ (r : Int) + 1 := by omega
  have hr2 : (r : Int) + 1 ≤ 64 := by omega
  clear hp hs hpc hsc hnl k1 k2
  go_enter Tryd.func19, Tryd.ntmps19
  go_wp2_with (first
    | (go_at_call 45; refine (KK.out _ (Ext.alloc w _)).mono ?_; rintro e w2 ⟨v2, rfl, hw2, rfl⟩;
       have hx2 : Ext w w2 := (Ext.alloc w _).trans hw2;
       have HZ2 : Hid (Rw w2 w.heap.size 24 (bs (List.replicate 32 0))) := Rw.ext (show Rw _ _ _ _ from heap_alloc_new w _) hw2)
    | ((with_reducible show wpList _ _ _ (⟨none, .store _ (.tmp 8) _, _, _, _, _⟩ :: _) _ _);
       refine wpList_store_rw rfl 84 (.tmp 8) (.tmp 20) rfl _ rfl (us (s1.list ++ s2.list)) rfl 84 (us (List.replicate 16 0)) (heap_alloc_new w2 _) 16 (by kernel_rfl) rfl rfl (us_one _) ?_;
       intro w3 hr3 hl3;
       have HK3 := hide hr3;
       have hs2 : w.heap.size + 1 ≤ w2.heap.size := (by have := Rw.lt HZ2.out; omega);
       have HZ3 : Hid (Rw w3 w.heap.size 24 (bs (List.replicate 32 0))) := Rw.other (Rw.ext HZ2.out (Ext.alloc _ _)) hl3 (by omega);
       have hx3 : Ext w w3 := (hx2.trans (Ext.alloc _ _)).laid hl3 (by omega);
       clear hr3 hl3))
  generalize hg8 : w2.heap.size = g8 at *
  have HG8 : Hid (w.heap.size + 1 ≤ g8) := hide (by omega)
  clear HZ2 hx2 hw2 hg8 KK hs2
  dsimp only [Act.put, List.setIfInBounds_toArray, List.set_cons_succ, List.set_cons_zero]
  refine Whole.wp_region_last (Nat.le_refl _) [
      ⟨fun _ v => v = .agg (us (s1.list ++ s2.list)).toArray, fun _ _ _ h _ => h⟩,
      ⟨fun _ v => v = .slice B salt.length d, fun _ _ _ h _ => h⟩,
      Whole.Sp.bytes (numberedL salt),
      ⟨fun _ v => v = .agg (bs (L 0)).toArray, fun _ _ _ h _ => h⟩,
      Whole.Sp.fresh w3.heap.size 24 (bs (List.replicate 32 0))] 5 _ rfl (by kernel_rfl) (by kernel_rfl) (by kernel_rfl) ?_ ?_
  · refine ⟨.inr ?_, .inr ?_, .inr ?_, .inr ?_, .inr ?_, .inl rfl, trivial⟩
    · intro az wz hx hB0 hk H
      refine .inl ⟨wanted_none rfl, ?_⟩
      exact gives_load_st 84 (.tmp 8) rfl g8 (by rw [(ev (show az.tmps[8]? = some (.pointer (some ⟨g8, 0, none⟩)) from hk 8 rfl))]) 84 _ (Rw.below HK3.out hx.below (Rw.lt HK3.out)) _ Tryd.underlying84 rfl (by kernel_rfl) ⟨Whole.Grw.refl _ _, rfl⟩
    · intro az wz hx hB0 hk H
      refine .inl ⟨wanted_none rfl, ?_⟩
      refine gives_move rfl ?_
      rw [(ev (show az.tmps[1]? = some (.slice B salt.length d) from hk 1 rfl))]
      exact ⟨Whole.Grw.refl _ _, rfl⟩
    · intro az wz hx hB0 hk H
      obtain ⟨v22, h22, s22⟩ := H 1 rfl _ rfl 22 rfl
      refine .inl ⟨wanted_none rfl, ?_⟩
      refine gives_call rfl Tryd.call50 (by simp only [List.map_toArray, List.map_cons, List.map_nil, ev h22]; rw [s22]) ?_
      exact (KN.out wz (Below.trans hx3 (Below.mono hx.below hx3.size))).mono fun _ _ h => Whole.ret_grw h hB0
    · intro az wz hx hB0 hk H
      obtain ⟨v21, h21, s21⟩ := H 0 rfl _ rfl 21 rfl
      obtain ⟨v23, h23, C, e3, hv3, he3, hrd3⟩ := H 2 rfl _ rfl 23 rfl
      refine .inl ⟨wanted_none rfl, ?_⟩
      refine gives_call rfl Tryd.call46 (by simp only [List.map_toArray, List.map_cons, List.map_nil, ev h21, ev h23]; rw [s21, hv3]) ?_
      have h := KT.out wz (Below.trans hx3 (Below.mono hx.below hx3.size)) C e3 (numberedL salt) hrd3 he3 HNL.out
      rw [HL0.out] at h
      exact h.mono fun _ _ h => Whole.ret_grw h hB0
    · intro az wz hx hB0 hk H
      refine .inl ⟨wanted_none rfl, ?_⟩
      exact gives_alloc rfl _ (alloc32 wz) ⟨Whole.Grw.alloc hB0 _, wz.heap.size, rfl, hB0, heap_alloc_new wz _⟩
  · intro az wz hx hd hs hv hsame
    obtain ⟨v21, h21, s21⟩ := hv 0 _ 21 (by decide) rfl rfl
    obtain rfl : v21 = (.agg (us (s1.list ++ s2.list)).toArray) := s21
    obtain ⟨v22, h22, s22⟩ := hv 1 _ 22 (by decide) rfl rfl
    obtain rfl : v22 = (.slice B salt.length d) := s22
    obtain ⟨v23, h23, s23⟩ := hv 2 _ 23 (by decide) rfl rfl
    obtain ⟨v24, h24, s24⟩ := hv 3 _ 24 (by decide) rfl rfl
    obtain rfl : v24 = (.agg (bs (L 0)).toArray) := s24
    obtain ⟨v9, h9, g9, rfl, hg9, hr9⟩ := hv 4 _ 9 (by decide) rfl rfl
    have hfr := frame_last [(21, (.agg (us (s1.list ++ s2.list)).toArray)), (22, (.slice B salt.length d)), (23, v23), (24, (.agg (bs (L 0)).toArray)), (9, .pointer (some ⟨g9, 0, none⟩))] hs (by kernel_rfl) (by simp only [List.forall_mem_cons, List.not_mem_nil, false_implies, implies_true, and_true]; exact ⟨h21, h22, h23, h24, h9⟩) hsame
    simp only [List.foldl_cons, List.foldl_nil, List.setIfInBounds_toArray, List.set_cons_succ, List.set_cons_zero] at hfr
    obtain ⟨tm, df⟩ := az
    simp only [] at hfr hd
    subst hfr hd
    clear hv hsame hs h21 h22 h23 h24 h9 s23
    refine ⟨wanted_none rfl, ?_⟩
    refine gives_store_rw 24 (.tmp 9) (.tmp 24) rfl g9 rfl (bs (L 0)) rfl 24 (bs (List.replicate 32 0)) hr9 32 (by kernel_rfl) (by rw [bs_length, HLL.out]) (by rw [bs_length, bs_length, HLL.out]; rfl) (List.all_eq_true.2 (bs_one _)) ?_
    intro w5 hr5 hl5
    have hx5 : Ext w w5 := Ext.laid (Below.trans hx3 (Below.mono hx.below hx3.size)) hl5 (Nat.le_trans hx3.size hg9)
    have h8 : g8 < w3.heap.size := Rw.lt HK3.out
    have HK5 : Hid (Rw w5 g8 84 (us (s1.list ++ s2.list))) := Rw.other (Rw.below HK3.out hx.below h8) hl5 (by omega)
    have HZ5 : Hid (Rw w5 w.heap.size 24 (bs (List.replicate 32 0))) := Rw.other (Rw.below HZ3.out hx.below (Rw.lt HZ3.out)) hl5 (by have := Rw.lt HZ3.out; omega)
    have HG9 : Hid (w3.heap.size ≤ g9) := hide hg9
    have HG98 : Hid (g8 < g9) := hide (by omega)
    have HR5 := hide hr5
    clear hx HK3 HZ3 hl5 hr9 hg9 h8 hr5
    dsimp only [Act.put]
    go_wp2_with (first
      | ((with_reducible show wpList _ _ _ (⟨some 25, .load _ _, _, _, _, _⟩ :: _) _ _);
         refine wpList_load_rw rfl 24 (.tmp 9) rfl g9 rfl 24 (bs (L 0)) HR5.out 32 5 Tryd.underlying24 (by kernel_rfl) (by rw [bs_length, HLL.out]) ?_)
      | ((with_reducible show wpList _ _ _ (⟨none, .store _ (.tmp 10) _, _, _, _, _⟩ :: _) _ _);
         refine wpList_store_rw rfl 24 (.tmp 10) (.tmp 25) rfl _ rfl (bs (L 0)) rfl 24 (bs (List.replicate 32 0)) (heap_alloc_new w5 _) 32 (by kernel_rfl) (by rw [bs_length, HLL.out]) (by rw [bs_length, bs_length, HLL.out]; rfl) (List.all_eq_true.2 (bs_one _)) ?_;
         intro w6 hr6 hl6;
         have h95 := Rw.lt HR5.out;
         have HX6 : Hid (Ext w w6) := hide ((hx5.trans (Ext.alloc _ _)).laid hl6 (by have := hx5.size; omega));
         have HK6 : Hid (Rw w6 g8 84 (us (s1.list ++ s2.list))) := Rw.other (Rw.ext HK5.out (Ext.alloc _ _)) hl6 (by have := Rw.lt HK5.out; omega);
         have HZ6 : Hid (Rw w6 w.heap.size 24 (bs (List.replicate 32 0))) := Rw.other (Rw.ext HZ5.out (Ext.alloc _ _)) hl6 (by have := Rw.lt HZ5.out; omega);
         have HR6 : Hid (Rw w6 g9 24 (bs (L 0))) := Rw.other (Rw.ext HR5.out (Ext.alloc _ _)) hl6 (by omega);
         have HM6 := hide hr6;
         clear hr6 hl6 hx5))
    generalize hg10 : w5.heap.size = g10 at *
    have HG10 : Hid (g9 < g10) := hide (by omega)
    have HB8 : Hid (w.heap.size < g8) := hide (by have := HG8.out; omega)
    have HB9 : Hid (w.heap.size < g9) := hide (by have := HB8.out; have := HG98.out; omega)
    clear HK5 HZ5 HR5 h95 hg10
    go_loopw [28] (fun i wr => ∃ k : Nat, k ≤ r ∧ i = .int .i64 k ∧ Hid (Rw wr g9 24 (bs (L k))) ∧ Hid (Rw wr g10 24 (bs (M k))) ∧ Hid (Rw wr g8 84 (us (s1.list ++ s2.list))) ∧ Hid (Rw wr w.heap.size 24 (bs (List.replicate 32 0))) ∧ Hid (Ext w wr)) (fun i _ => r - (intOf i).toNat)
    case atStart => exact ⟨0, Nat.zero_le _, rfl, HR6, HM0.out ▸ HM6, HK6, HZ6, HX6⟩
    clear HR6 HM6 HK6 HZ6 HX6
    case round =>
      obtain ⟨k, hk, rfl, HRk, HMk, HKk, HZk, HXk⟩ := hrel
      by_cases hlt : k < r
      · have hki : (k : Int) < (r : Int) := by omega
        go_wp2
        refine Whole.wp_region_last (Nat.le_refl _) [
            ⟨fun _ v => v = .agg (us (s1.list ++ s2.list)).toArray, fun _ _ _ h _ => h⟩,
            ⟨fun _ v => v = .slice (some ⟨g9, 0, none⟩) 32 32, fun _ _ _ h _ => h⟩,
            ⟨fun _ v => v = .agg (bs (L (k + 1))).toArray, fun _ _ _ h _ => h⟩] 3 _ rfl (by kernel_rfl) (by kernel_rfl) (by kernel_rfl) ?_ ?_
        · refine ⟨.inr ?_, .inr ?_, .inr ?_, .inl rfl, trivial⟩
          · intro az wz hx hB0 hk H
            refine .inl ⟨wanted_none rfl, ?_⟩
            exact gives_load_st 84 (.tmp 8) rfl g8 (by rw [(ev (show az.tmps[8]? = some (.pointer (some ⟨g8, 0, none⟩)) from hk 8 rfl))]) 84 _ (Rw.below HKk.out hx.below (Rw.lt HKk.out)) _ Tryd.underlying84 rfl (by kernel_rfl) ⟨Whole.Grw.refl _ _, rfl⟩
          · intro az wz hx hB0 hk H
            refine .inl ⟨wanted_none rfl, ?_⟩
            exact gives_all (n := 32) rfl (by rw [(ev (show az.tmps[9]? = some (.pointer (some ⟨g9, 0, none⟩)) from hk 9 rfl))]) (run_all32 _ _) ⟨Whole.Grw.refl _ _, rfl⟩
          · intro az wz hx hB0 hk H
            obtain ⟨v30, h30, s30⟩ := H 0 rfl _ rfl 30 rfl
            obtain ⟨v31, h31, s31⟩ := H 1 rfl _ rfl 31 rfl
            refine .inl ⟨wanted_none rfl, ?_⟩
            refine gives_call rfl Tryd.call46 (by simp only [List.map_toArray, List.map_cons, List.map_nil, ev h30, ev h31]; rw [s30, s31]) ?_
            have h := KT.out wz (Below.trans HXk.out (Below.mono hx.below HXk.out.size)) (some ⟨g9, 0, none⟩) 32 (L k) (Rw.rd (Rw.below HRk.out hx.below (Rw.lt HRk.out))) (by rw [HLL.out]; exact Nat.le_refl _) (by rw [HLL.out]; decide)
            rw [HLS.out, HLL.out] at h
            exact h.mono fun _ _ h => Whole.ret_grw h hB0
        · intro az wz hx hd hs hv hsame
          obtain ⟨v30, h30, s30⟩ := hv 0 _ 30 (by decide) rfl rfl
          obtain rfl : v30 = (.agg (us (s1.list ++ s2.list)).toArray) := s30
          obtain ⟨v31, h31, s31⟩ := hv 1 _ 31 (by decide) rfl rfl
          obtain rfl : v31 = (.slice (some ⟨g9, 0, none⟩) 32 32) := s31
          obtain ⟨v32, h32, s32⟩ := hv 2 _ 32 (by decide) rfl rfl
          obtain rfl : v32 = (.agg (bs (L (k + 1))).toArray) := s32
          have hfr := frame_last [(30, (.agg (us (s1.list ++ s2.list)).toArray)), (31, (.slice (some ⟨g9, 0, none⟩) 32 32)), (32, (.agg (bs (L (k + 1))).toArray))] hs (by kernel_rfl) (by simp only [List.forall_mem_cons, List.not_mem_nil, false_implies, implies_true, and_true]; exact ⟨h30, h31, h32⟩) hsame
          simp only [List.foldl_cons, List.foldl_nil, List.setIfInBounds_toArray, List.set_cons_succ, List.set_cons_zero] at hfr
          obtain ⟨tm, df⟩ := az
          simp only [] at hfr hd
          subst hfr hd
          clear hv hsame hs h30 h31 h32
          refine ⟨wanted_none rfl, ?_⟩
          have hl9 := Rw.lt HRk.out
          have hl10 := Rw.lt HMk.out
          have hl8 := Rw.lt HKk.out
          have hl6 := Rw.lt HZk.out
          refine gives_store_rw 24 (.tmp 9) (.tmp 32) rfl g9 rfl (bs (L (k + 1))) rfl 24 (bs (L k)) (Rw.below HRk.out hx.below hl9) 32 (by kernel_rfl) (by rw [bs_length, HLL.out]) (by rw [bs_length, bs_length, HLL.out, HLL.out]) (List.all_eq_true.2 (bs_one _)) ?_
          intro w7 hr7 hl7
          have h98 := HG98.out
          have h910 := HG10.out
          have hb9 := HB9.out
          have HX7 : Hid (Ext w w7) := hide (Ext.laid (Below.trans HXk.out (Below.mono hx.below HXk.out.size)) hl7 (by omega))
          have HK7 : Hid (Rw w7 g8 84 (us (s1.list ++ s2.list))) := Rw.other (Rw.below HKk.out hx.below hl8) hl7 (by omega)
          have HZ7 : Hid (Rw w7 w.heap.size 24 (bs (List.replicate 32 0))) := Rw.other (Rw.below HZk.out hx.below hl6) hl7 (by omega)
          have HM7 : Hid (Rw w7 g10 24 (bs (M k))) := Rw.other (Rw.below HMk.out hx.below hl10) hl7 (by omega)
          have HR7 := hide hr7
          clear hx HXk HKk HZk HMk HRk hl7 hr7 hl9 hl10 hl8 hl6 h98 h910 hb9
          dsimp only [Act.put]
          go_wp2
          go_loopw [11, 33] (fun _ i wr => ∃ j : Nat, j ≤ 32 ∧ i = .int .i64 j ∧ Hid (Rw wr g10 24 (bs ((M (k + 1)).take j ++ (M k).drop j))) ∧ Hid (Rw wr g9 24 (bs (L (k + 1)))) ∧ Hid (Rw wr g8 84 (us (s1.list ++ s2.list))) ∧ Hid (Rw wr w.heap.size 24 (bs (List.replicate 32 0))) ∧ Hid (Ext w wr)) (fun _ i _ => 32 - (intOf i).toNat)
          case atStart => exact ⟨0, Nat.zero_le _, rfl, HM7, HR7, HK7, HZ7, HX7⟩
          clear HM7 HR7 HK7 HZ7 HX7
          case round =>
            obtain ⟨j, hj, rfl, HMj, HRj, HKj, HZj, HXj⟩ := hrel
            by_cases hjt : j < 32
            · have hji : (j : Int) < 32 := by omega
              have hji0 : (0 : Int) ≤ (j : Int) := by omega
              obtain ⟨x, hxj⟩ : ∃ x, (M k)[j]? = some x := ⟨_, List.getElem?_eq_getElem (by rw [HML.out]; exact hjt)⟩
              obtain ⟨y, hyj⟩ : ∃ y, (L (k + 1))[j]? = some y := ⟨_, List.getElem?_eq_getElem (by rw [HLL.out]; exact hjt)⟩
              have hxy := xorL_get _ _ _ _ _ hxj hyj
              rw [HMS.out] at hxy
              have cx := Rw.cell HMj.out (i := j) (v := .int .u8 (x.toNat : Int)) (by rw [bs_get, get_part _ _ _ (by rw [HML.out]; exact hjt), hxj]; rfl)
              have cy := Rw.cell HRj.out (i := j) (v := .int .u8 (y.toNat : Int)) (by rw [bs_get, hyj]; rfl)
              have fx := Rw.frozen HMj.out j
              have hx2 := x.toNat_lt
              have hy2 := y.toNat_lt
              have e1 := u8_xor_nat x.toNat y.toNat (by omega) (by omega)
              have HS : Hid (Rw (wr.setCell ⟨g10, j, none⟩ (.int .u8 ((x.toNat ^^^ y.toNat : Nat) : Int))) g10 24 (bs ((M (k + 1)).take (j + 1) ++ (M k).drop (j + 1)))) := by
                have h := Rw.set HMj.out j (.int .u8 ((x.toNat ^^^ y.toNat : Nat) : Int))
                have e : (bs ((M (k + 1)).take j ++ (M k).drop j)).set j (.int .u8 ((x.toNat ^^^ y.toNat : Nat) : Int)) = bs (((M (k + 1)).take j ++ (M k).drop j).set j (x ^^^ y)) := by
                  unfold bs
                  rw [List.map_set, UInt8.toNat_xor]
                rw [e, set_part _ _ _ _ hxy (by rw [HML.out]; exact hjt)] at h
                exact h
              have h910 := HG10.out
              have h98 := HG98.out
              have hb9 := HB9.out
              clear hxj hyj hxy
              go_wp2
              go_region
              all_goals
                go_wp2
                refine ⟨⟨j + 1, by omega, by go_num, hide HS.out, hide (Rw.far HRj.out (by show g9 ≠ g10; omega) _), hide (Rw.far HKj.out (by show g8 ≠ g10; omega) _), hide (Rw.far HZj.out (by show w.heap.size ≠ g10; omega) _), hide ((Below.set (B := w.heap.size) (p := ⟨g10, j, none⟩) HXj.out (by show w.heap.size ≤ g10; omega) _).drew)⟩, by simp [intOf]; omega⟩
            · have hj32 : j = 32 := by omega
              have hji : ¬ (j : Int) < 32 := by omega
              have HMn : Hid (Rw wr g10 24 (bs (M (k + 1)))) := by
                have h := HMj.out
                rw [hj32, List.take_of_length_le (by rw [HML.out]; exact Nat.le_refl _), List.drop_of_length_le (by rw [HML.out]; exact Nat.le_refl _), List.append_nil] at h
                exact h
              clear hj32 hjt HMj
              go_wp2
              exact ⟨⟨k + 1, by omega, by go_num, HRj, HMn, HKj, HZj, HXj⟩, by simp [intOf]; omega⟩
      · have hkr : k = r := by omega
        have hki : ¬ (k : Int) < (r : Int) := by omega
        have hlM : (M k).length = 32 := HML.out k
        have HMr : Hid (M k = M r) := hide (by rw [hkr])
        clear hkr hlt
        go_wp2_with (first
          | ((with_reducible show wpList _ _ _ (⟨some 46, .load _ _, _, _, _, _⟩ :: _) _ _);
             refine wpList_load_rw rfl 24 (.tmp 10) rfl g10 rfl 24 (bs (M k)) HMk.out 32 5 Tryd.underlying24 (by kernel_rfl) (by rw [bs_length, HML.out]) ?_)
          | ((with_reducible show wpList _ _ _ (⟨none, .store _ (.tmp 6) _, _, _, _, _⟩ :: _) _ _);
             refine wpList_store_rw rfl 24 (.tmp 6) (.tmp 46) rfl _ rfl (bs (M k)) rfl 24 (bs (List.replicate 32 0)) HZk.out 32 (by kernel_rfl) (by rw [bs_length, HML.out]) (by rw [bs_length, bs_length, HML.out]; rfl) (List.all_eq_true.2 (bs_one _)) ?_;
             intro w8 hr8 hl8))
        exact ret_rw2 rfl rfl _ rfl _ _ hr8 32 5 Tryd.underlying24 (by kernel_rfl) (by rw [bs_length, HML.out]) _ rfl (Ret.mk (HXk.out.laid hl8 (Nat.le_refl _)) (by rw [HMr.out]; rfl))
end Go.Proofs.YtmanflfanoddgaaDoor
