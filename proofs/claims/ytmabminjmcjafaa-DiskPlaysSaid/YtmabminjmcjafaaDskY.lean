/-
  The disk's settle: contract, at the closure of Sync.
-/
import Derived.Test.YtmabminjmcjafaaDskS
namespace Go.Proofs.Ytmabminjmcjafaa
open Go.RowKit

set_option maxRecDepth 20000 in
set_option maxHeartbeats 6400000 in
theorem settleY_any {B g gd gn c : Nat} {w : World} {A : Option Addr} {D : Dk} (kept : Nat → Bool) (h : DiskAt B w g gd gn A c D) (ok : D.Ok) (hf : D.pen.length < 1000000) (hB : B ≤ w.heap.size)
    (KC : ∀ (k : Nat) (W : World), k < D.pen.length → Dfr g gd gn A w W → Calls Try.prog 30 #[.int .i64 (k : Int)] W (Same W (.bool (kept k)))) :
    Calls Try.prog 26 #[.pointer (some ⟨g, 0, none⟩), .func (.func 30) #[] #[]] w (DPost B g gd gn w A (.tuple #[]) (D.settled kept)) := by
  obtain ⟨c0, c1, c2, -, -, -⟩ := disk_cells h
  obtain ⟨m, HM⟩ : ∃ m, Hid (D.pen.length = m) := ⟨_, hide rfl⟩
  obtain ⟨n, HN⟩ : ∃ n, Hid (D.dur.length = n) := ⟨_, hide rfl⟩
  rw [HM.out] at c1 hf
  have H := hide h
  have OK := hide ok
  have HB := hide hB
  have HKC := hide KC
  rw [HM.out] at HKC
  clear h ok KC hB c0 c2
  go_enter Try.func26, Try.ntmps26
  go_wp2
  go_loopw [11] (fun i wr => ∃ k : Nat, k ≤ m ∧ i = .int .i64 (k : Int) ∧ Hid (Rw wr g 60 (diskC gd gn A c D)) ∧ Hid (Rw wr gd 67 (bs (durK kept D.dur D.pen k).flatten)) ∧ Hid (Rw wr gn 3 (newK n D.pen k)) ∧ Hid (wr.ownsRow B 69 513 (.slice A D.pen.length c) D.pen.length (pensC D.pen)) ∧ Hid (Dfr g gd gn A w wr)) (fun i _ => m - (intOf i).toNat)
  case atStart => exact ⟨0, Nat.zero_le _, rfl, hide H.out.blk, hide H.out.dur, hide (by rw [newK_zero, ← HN.out]; exact H.out.new), hide H.out.pen, hide (Dfr.refl _ _ _ _ _)⟩
  case round =>
    obtain ⟨k, hk, rfl, HG, HV, HL, HO, HX⟩ := hrel
    by_cases hlt : k < m
    · have hki : (k : Int) < (m : Int) := by omega
      have hkp : k < D.pen.length := by rw [HM.out]; exact hlt
      obtain ⟨x, HXG⟩ : ∃ x, Hid (D.pen[k]? = some x) := ⟨_, hide (List.getElem?_eq_getElem hkp)⟩
      obtain ⟨hx1, hx2⟩ := OK.out.pen x (List.mem_of_getElem? HXG.out)
      have HX2 := hide hx2
      have HX1 : Hid (x.1 < n) := hide (by rw [← HN.out]; exact hx1)
      obtain ⟨pb, hpb⟩ : ∃ pb, A = some ⟨pb, 0, none⟩ := by
        rcases HO.out.2 with ⟨_, h0⟩ | ⟨g', _, _, hv, _⟩
        · omega
        · injection hv with hv; exact ⟨g', hv⟩
      subst hpb
      have HCP : Hid (∀ j v, (penC x)[j]? = some v → wr.cell? ⟨pb, k * 513 + j, none⟩ = some v) := hide fun j v hj => by
        have h1 := HO.out.cells (g := pb) rfl (k * 513 + j) v (by
          unfold pensC
          rw [flat_get (m := 513) (pensC_lens OK.out.pens) (i := k) (s := penC x) (by rw [List.getElem?_map, HXG.out]; rfl) (by
            have := (List.getElem?_eq_some_iff.1 hj).1
            rw [penC_length x HX2.out] at this
            exact this)]
          exact hj)
        rw [add_flat, Nat.zero_add] at h1
        exact h1
      obtain ⟨b, HBK⟩ : ∃ b, Hid (kept k = b) := ⟨_, hide rfl⟩
      have KK := hide fun W (hW : Dfr g gd gn (some ⟨pb, 0, none⟩) w W) => HKC.out k W hlt hW
      rw [HBK.out] at KK
      clear hkp hx1 hx2
      go_upto_if 18 with (first
        | ((with_reducible show wpList _ _ _ (⟨some 15, .load _ _, _, _, _, _⟩ :: _) _ _); refine wpList_gives (gives_load_at 69 (.tmp 14) rfl pb (k * 513) rfl (penC x) 513 (agg_struct Try.underlying69 _) sizeWr (penC_length x HX2.out).symm HCP.out ⟨rfl, rfl⟩) rfl ?_)
        | ((with_reducible show wpList _ _ _ (⟨some 5, .alloc _, _, _, _, _⟩ :: _) _ _); refine wpList_gives (gives_alloc_z 69 rfl _ 513 zeroWr ⟨rfl, rfl⟩) rfl ?_)
        | ((with_reducible show wpList _ _ _ (⟨none, .store _ (.tmp 5) (.tmp 15), _, _, _, _⟩ :: _) _ _);
           refine wpList_store_rw rfl 69 (.tmp 5) (.tmp 15) rfl _ rfl (penC x) rfl 69 (penC (0, List.replicate 512 0)) (heap_alloc_new wr _) 513 sizeWr (penC_length x HX2.out).symm (by rw [penC_length x HX2.out, penC_length _ (List.length_replicate ..)]) (List.all_eq_true.2 (penC_one _)) ?_;
           intro w5 hr5 hl5;
           have hx5 : Ext wr w5 := (Ext.alloc wr _).laid hl5 (Nat.le_refl _);
           have HR5 := hide hr5;
           have HX5 : Hid (Dfr g gd gn (some ⟨pb, 0, none⟩) w w5) := hide (HX.out.trans (Dfr.ext hx5) (Newer.refl _ _)); clear hr5 hl5)
        | (go_at_call 30; refine (KK.out _ HX5.out).mono ?_; rintro e w6 ⟨rfl, rfl⟩))
      have HG5 := hide (HG.out.ext hx5)
      have HV5 := hide (HV.out.ext hx5)
      have HL5 := hide (HL.out.ext hx5)
      have HO5 : Hid (w5.ownsRow B 69 513 (.slice (some ⟨pb, 0, none⟩) D.pen.length c) D.pen.length (pensC D.pen)) := hide (ownsRow_far HO.out fun a ha => Below.block hx5 a.block (by
        rcases HO.out.2 with ⟨h0, _⟩ | ⟨g', _, _, hv, _, hg', _⟩
        · cases h0
        · injection hv with hv; injection hv with hv; injection hv with hv; injection ha with ha; subst hv; subst ha; exact (Array.getElem?_eq_some_iff.1 hg').1))
      have HLEN : Hid ((durK kept D.dur D.pen k).length = n) := hide (by rw [durK_len]; exact HN.out)
      have HLNS := hide (durK_lens (kept := kept) OK.out.dur OK.out.pens k)
      have HSUC := hide (durK_succ kept D.dur D.pen k x HXG.out)
      rw [HBK.out] at HSUC
      obtain ⟨g5, hg5⟩ : ∃ g5, g5 = wr.heap.size := ⟨_, rfl⟩
      rw [← hg5] at HR5 ⊢
      have HG59 : Hid (gd ≠ g5) := hide (HV5.out.apart HR5.out (by decide))
      clear HG HV HL HO HX HCP KK hx5 hg5
      cases b with
      | true =>
        go_wp2
        have HGd := hide (HG5.out.ext (Ext.drew _))
        have HVd := hide (HV5.out.ext (Ext.drew _))
        have HRd := hide (HR5.out.ext (Ext.drew _))
        refine wp_region_chain [.pointer (some ⟨g, 0, none⟩), .pointer (some ⟨g, 0, none⟩), .pointer (some ⟨g, 0, none⟩), .slice (some ⟨gd, 0, none⟩) n n, .pointer (some ⟨g5, 0, none⟩), .int .i64 (x.1 : Int), .pointer (some ⟨g5, 1, none⟩), .agg (bs x.2).toArray, .pointer (some ⟨gd, x.1 * 512, none⟩), undef]
          [w5.drew, w5.drew.setRow gd (lay (bs (durK kept D.dur D.pen k).flatten) (x.1 * 512) (bs x.2)).toArray] [9] (by kernel_rfl) (by kernel_rfl) (by kernel_rfl) rfl ?_ ?_
        · refine ⟨?_, ?_, ?_, ?_, ?_, ?_, ?_, ?_, ?_, ?_, trivial⟩
          · intro az hk H
            rw [if_neg (by decide)]
            intro j _
            refine .inl ⟨wanted_none rfl, gives_move rfl ?_⟩
            rw [ev (show az.tmps[0]? = some (.pointer (some ⟨g, 0, none⟩)) from hk 0 rfl)]
            exact ⟨rfl, rfl⟩
          · intro az hk H
            rw [if_neg (by decide)]
            intro j _
            exact .inl ⟨wanted_none rfl, gives_nilCheck rfl (ev (H 0 rfl _ rfl 19 rfl)) ⟨rfl, rfl⟩⟩
          · intro az hk H
            rw [if_neg (by decide)]
            intro j _
            exact .inl ⟨wanted_none rfl, gives_fieldP rfl (ev (H 1 rfl _ rfl 20 rfl)) (run_fieldD0 g _) ⟨rfl, rfl⟩⟩
          · intro az hk H
            rw [if_neg (by decide)]
            intro j hj
            have hj2 : j ≤ 0 := hj
            obtain rfl : j = 0 := by omega
            exact .inl ⟨wanted_none rfl, gives_load_one rfl (ev (H 2 rfl _ rfl 21 rfl)) Try.underlying56 (HGd.out.cell (i := 0) (v := .slice (some ⟨gd, 0, none⟩) n n) (by rw [← HN.out]; rfl)) ⟨rfl, rfl⟩⟩
          · intro az hk H
            rw [if_neg (by decide)]
            intro j _
            exact .inl ⟨wanted_none rfl, gives_fieldP rfl (ev (show az.tmps[5]? = some (.pointer (some ⟨g5, 0, none⟩)) from hk 5 rfl)) (run_fieldW g5 0 (.inl rfl) _) ⟨rfl, rfl⟩⟩
          · intro az hk H
            rw [if_neg (by decide)]
            intro j hj
            have hj2 : j ≤ 0 := hj
            obtain rfl : j = 0 := by omega
            exact .inl ⟨wanted_none rfl, gives_load_int rfl (ev (H 4 rfl _ rfl 23 rfl)) Try.underlying3 (HRd.out.cell (i := 0) rfl) ⟨rfl, rfl⟩⟩
          · intro az hk H
            rw [if_neg (by decide)]
            intro j _
            exact .inl ⟨wanted_none rfl, gives_fieldP rfl (ev (show az.tmps[5]? = some (.pointer (some ⟨g5, 0, none⟩)) from hk 5 rfl)) (run_fieldW g5 1 (.inr rfl) _) ⟨rfl, rfl⟩⟩
          · intro az hk H
            rw [if_neg (by decide)]
            intro j hj
            have hj2 : j ≤ 0 := hj
            obtain rfl : j = 0 := by omega
            exact .inl ⟨wanted_none rfl, gives_load_at 67 (.tmp 25) rfl g5 1 (ev (H 6 rfl _ rfl 25 rfl)) (bs x.2) 512 (agg_arr Try.underlying67 _) sizeSec (by rw [bs_length, HX2.out]) (fun j v hj => HRd.out.cell (i := 1 + j) (by rw [Nat.add_comm]; exact hj)) ⟨rfl, rfl⟩⟩
          · intro az hk H
            rw [if_neg (by decide)]
            intro j _
            exact .inl ⟨wanted_none rfl, gives_indexP rfl (ev (H 3 rfl _ rfl 22 rfl)) (ev (H 5 rfl _ rfl 24 rfl)) (run_indexS gd n x.1 HX1.out _) ⟨rfl, rfl⟩⟩
          · intro az hk H
            rw [if_pos (by decide)]
            intro j hj
            obtain rfl : j = 0 := by
              rcases j with _ | j
              · rfl
              · exact absurd hj (by simp)
            refine ⟨wanted_none rfl, ?_⟩
            exact gives_store_at 67 (.tmp 27) (.tmp 26) rfl gd (x.1 * 512) (ev (H 8 rfl _ rfl 27 rfl)) (bs x.2) (ev (H 7 rfl _ rfl 26 rfl)) 67 _ HVd.out (by rw [bs_length, HX2.out]; exact sizeSec) (by rw [bs_length, bs_length, HX2.out, flat_len (m := 512) _ HLNS.out, HLEN.out]; have := HX1.out; omega) (bs_one _) ⟨rfl, rfl⟩
        · simp only [setsOf, List.zipIdx_cons, List.zipIdx_nil, List.filterMap_cons, List.filterMap_nil, Option.map_some, Option.map_none, List.foldl_cons, List.foldl_nil, List.setIfInBounds_toArray, List.set_cons_succ, List.set_cons_zero, List.getD_cons_zero, List.getD_cons_succ, Nat.zero_add, List.length_cons, List.length_nil]
          obtain ⟨W6, hW6⟩ : ∃ W6, W6 = w5.drew.setRow gd (lay (bs (durK kept D.dur D.pen k).flatten) (x.1 * 512) (bs x.2)).toArray := ⟨_, rfl⟩
          have n1 : g ≠ gd := HG5.out.apart HV5.out (by decide)
          have n2 : gn ≠ gd := fun e => HV5.out.apart HL5.out (by decide) e.symm
          have n3 := HV5.out.apart_own HO5.out (by decide)
          have n4 := HG59.out
          have HG6 : Hid (Rw W6 g 60 (diskC gd gn (some ⟨pb, 0, none⟩) c D)) := hide (by rw [hW6]; exact (setRow_other _ gd g _ n1).trans HGd.out)
          have HV6 : Hid (Rw W6 gd 67 (bs (durK kept D.dur D.pen (k + 1)).flatten)) := hide (by
            rw [HSUC.out, if_pos trivial, hW6, ← lay_flat HLNS.out (by rw [HLEN.out]; exact HX1.out) HX2.out]
            exact Rw.lay HVd.out _ _)
          have HL6 : Hid (Rw W6 gn 3 (newK n D.pen k)) := hide (by rw [hW6]; exact (setRow_other _ gd gn _ n2).trans (HL5.out.ext (Ext.drew _)))
          have HR6 : Hid (Rw W6 g5 69 (penC x)) := hide (by rw [hW6]; exact (setRow_other _ gd g5 _ (fun e => n4 e.symm)).trans HRd.out)
          have HO6 : Hid (W6.ownsRow B 69 513 (.slice (some ⟨pb, 0, none⟩) D.pen.length c) D.pen.length (pensC D.pen)) := hide (by rw [hW6]; exact ownsRow_far HO5.out fun a ha => setRow_other _ gd a.block _ (n3 a ha))
          have HX6 : Hid (Dfr g gd gn (some ⟨pb, 0, none⟩) w W6) := hide (by
            rw [hW6]
            exact HX5.out.trans (A' := some ⟨pb, 0, none⟩) ⟨rfl, rfl, rfl, by simp [World.setRow], fun b _ _ h2 _ _ => setRow_other w5.drew gd b _ h2⟩ (Newer.refl _ _))
          rw [← hW6]
          clear hW6 n1 n2 n3 n4 HG5 HV5 HL5 HR5 HO5 HX5 HGd HVd HRd HG59
          -- the sector's number in 'newest'
          have c2 := HG6.out.cell (i := 2) (v := .slice (some ⟨gn, 0, none⟩) n n) (by rw [← HN.out]; rfl)
          have c50 := HR6.out.cell (i := 0) (v := .int .i64 (x.1 : Int)) rfl
          obtain ⟨z, hz⟩ := newK_value n D.pen k x.1 HX1.out
          have dn := HL6.out.cell hz
          have fn := HL6.out.frozen x.1
          have hxi : (x.1 : Int) < (n : Int) := by have := HX1.out; omega
          have hxi0 : (0 : Int) ≤ (x.1 : Int) := by omega
          clear hz
          go_wp2
          go_region
          go_wp2
          have n6 := HG6.out.apart HL6.out (by decide)
          have n7 := HV6.out.apart HL6.out (by decide)
          have n8 := HL6.out.apart_own HO6.out (by decide)
          refine ⟨⟨k + 1, by omega, by go_num, hide ((HG6.out.far (p := ⟨gn, x.1, none⟩) n6 _).ext (Ext.drew _)), hide ((HV6.out.far (p := ⟨gn, x.1, none⟩) n7 _).ext (Ext.drew _)), hide ?_, hide (ownsRow_far HO6.out fun a ha => Below.heap_setCell W6 ⟨gn, x.1, none⟩ _ a.block (n8 a ha)), hide (HX6.out.trans (A' := some ⟨pb, 0, none⟩) ⟨rfl, rfl, rfl, by simp, fun b _ _ _ h3 _ => Below.heap_setCell W6 ⟨gn, x.1, none⟩ _ b h3⟩ (Newer.refl _ _))⟩, by simp [intOf]; omega⟩
          rw [newK_succ n D.pen k x HXG.out HX1.out]
          exact (HL6.out.set x.1 (.int .i64 0)).ext (Ext.drew _)
      | false =>
        obtain ⟨W6, hW6⟩ : ∃ W6, W6 = w5 := ⟨_, rfl⟩
        have HG6 := HG5
        have HV6 : Hid (Rw w5 gd 67 (bs (durK kept D.dur D.pen (k + 1)).flatten)) := hide (by rw [HSUC.out, if_neg (by simp)]; exact HV5.out)
        have HL6 := HL5
        have HR6 := HR5
        have HO6 := HO5
        have HX6 := HX5
        rw [← hW6] at HG6 HV6 HL6 HR6 HO6 HX6 ⊢
        clear hW6 HG5 HV5 HL5 HR5 HO5 HX5 HG59
        -- the sector's number in 'newest'
        have c2 := HG6.out.cell (i := 2) (v := .slice (some ⟨gn, 0, none⟩) n n) (by rw [← HN.out]; rfl)
        have c50 := HR6.out.cell (i := 0) (v := .int .i64 (x.1 : Int)) rfl
        obtain ⟨z, hz⟩ := newK_value n D.pen k x.1 HX1.out
        have dn := HL6.out.cell hz
        have fn := HL6.out.frozen x.1
        have hxi : (x.1 : Int) < (n : Int) := by have := HX1.out; omega
        have hxi0 : (0 : Int) ≤ (x.1 : Int) := by omega
        clear hz
        go_wp2
        go_region
        go_wp2
        have n6 := HG6.out.apart HL6.out (by decide)
        have n7 := HV6.out.apart HL6.out (by decide)
        have n8 := HL6.out.apart_own HO6.out (by decide)
        refine ⟨⟨k + 1, by omega, by go_num, hide ((HG6.out.far (p := ⟨gn, x.1, none⟩) n6 _).ext (Ext.drew _)), hide ((HV6.out.far (p := ⟨gn, x.1, none⟩) n7 _).ext (Ext.drew _)), hide ?_, hide (ownsRow_far HO6.out fun a ha => Below.heap_setCell W6 ⟨gn, x.1, none⟩ _ a.block (n8 a ha)), hide (HX6.out.trans (A' := some ⟨pb, 0, none⟩) ⟨rfl, rfl, rfl, by simp, fun b _ _ _ h3 _ => Below.heap_setCell W6 ⟨gn, x.1, none⟩ _ b h3⟩ (Newer.refl _ _))⟩, by simp [intOf]; omega⟩
        rw [newK_succ n D.pen k x HXG.out HX1.out]
        exact (HL6.out.set x.1 (.int .i64 0)).ext (Ext.drew _)
    · obtain rfl : k = m := by omega
      have hki : ¬ (k : Int) < (k : Int) := Int.lt_irrefl _
      have c1' := HG.out.cell (i := 1) (v := .slice A k c) (by rw [← HM.out]; rfl)
      have f1 := HG.out.frozen 1
      go_wp2
      go_end0
      exact ⟨none, 0, rfl, settled_at HG.out HV.out HL.out H.out.base HM.out HN.out, HX.out.trans (A' := A) (Dfr.cell 1 _) (Newer.refl _ _), fun a' ha' => by cases ha'⟩
end Go.Proofs.Ytmabminjmcjafaa
