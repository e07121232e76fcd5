/-
  The document's Restart.
-/
import Derived.Test.YtmabminjmcjafaaDskUs
namespace Go.Proofs.Ytmabminjmcjafaa
open Go.RowKit

section
variable {B g gl cl c ck : Nat} {w : World} {A P : Option Addr} {D : Dk} {rest : List Value}
set_option maxRecDepth 20000 in
set_option maxHeartbeats 3200000 in
theorem rrestart_any (h : RefAt B w g gl cl A c rest D) (ok : D.Ok) (hf : D.pen.length < 1000000) (hB : B ≤ w.heap.size) (keep : List Bool) (kl : Nat) (hkl : keep.length = kl) (hk : ∀ W, Ufr B w W → RdB W P keep) :
    Calls Try.prog 17 #[.pointer (some ⟨g, 0, none⟩), .slice P kl ck] w (UPost B g w (.tuple #[]) (D.fallen keep)) := by
  have HB0 := hide hB
  have HOK := hide ok
  have HK := hide hk
  have HKL := hide hkl
  have H2 := hide h
  obtain ⟨DF, HDF⟩ : ∃ DF, Hid (D.fallen keep = DF) := ⟨_, hide rfl⟩
  rw [HDF.out]
  obtain ⟨m, HM⟩ : ∃ m, Hid (D.pen.length = m) := ⟨_, hide rfl⟩
  obtain ⟨n, HN⟩ : ∃ n, Hid (D.dur.length = n) := ⟨_, hide rfl⟩
  have hm : (m : Int) < 1000000 := by have := HM.out; omega
  obtain ⟨kept, HKEPT⟩ : ∃ kept : Nat → Bool, Hid (kept = fun k => keep.getD k false) := ⟨_, hide rfl⟩
  clear h ok hB hk hkl hf
  go_enter Try.func17, Try.ntmps17
  go_upto_region 1 with fail
  go_loopw [4] (fun iv wr => ∃ i : Nat, i ≤ m ∧ iv = .int .i64 (i : Int) ∧ Hid (RefAt B wr g gl cl A c rest ⟨durK kept D.dur D.pen i, D.pen, D.ops, D.arm, D.off⟩) ∧ Hid (Ufr B w wr)) (fun iv _ => m - (intOf iv).toNat)
  case atStart => exact ⟨0, Nat.zero_le _, rfl, hide H2.out, hide (Ufr.refl _ _)⟩
  case round =>
    obtain ⟨i, hi, rfl, HR, HU⟩ := hrel
    obtain ⟨wr, HWR⟩ := worldU HU
    subst HWR
    have q1 := HR.out.blk.cell (i := 1) rfl
    rw [show (⟨durK kept D.dur D.pen i, D.pen, D.ops, D.arm, D.off⟩ : Dk).pen.length = m from HM.out] at q1
    by_cases hlt : i < m
    · have hii : (i : Int) < (m : Int) := by omega
      by_cases hkp : keep.getD i false = true
      · have hik : i < kl := by
          rw [← HKL.out]
          rcases Nat.lt_or_ge i keep.length with h | h
          · exact h
          · rw [List.getD_eq_getElem?_getD, List.getElem?_eq_none h] at hkp; cases hkp
        have hikI : (i : Int) < (kl : Int) := by omega
        have hkv : keep[i]? = some true := by
          have h := List.getElem?_eq_getElem (l := keep) (i := i) (by rw [HKL.out]; exact hik)
          rw [List.getD_eq_getElem?_getD, h] at hkp
          rw [h]
          exact congrArg some hkp
        obtain ⟨pb, po, hP, hpc⟩ := HK.out wr HU.out (by intro e; rw [e] at hkv; cases hkv)
        subst hP
        have pc := hpc i true hkv
        have HKT : Hid (kept i = true) := hide (by rw [HKEPT.out]; exact hkp)
        clear hpc hkv hkp
        obtain ⟨x, hx⟩ : ∃ x, D.pen[i]? = some x := ⟨_, List.getElem?_eq_getElem (by rw [HM.out]; exact hlt)⟩
        have hxn : x.1 < D.dur.length := (HOK.out.pen x (List.mem_of_getElem? hx)).1
        have hown := HR.out.pen
        obtain ⟨e1, e2⟩ := wvs_get D.pen i x hx
        obtain ⟨b, hA⟩ : ∃ b, A = some ⟨b, 0, none⟩ := by
          rcases hown.2 with ⟨_, h0⟩ | ⟨g2, cap, cur, hv, _⟩
          · have h0 : D.pen.length = 0 := h0
            rw [HM.out] at h0; omega
          · injection hv with hv; exact ⟨g2, hv⟩
        subst hA
        have HRD := hide (HR.out.ext (Ext.drew wr))
        have HNN : Hid ((durK kept D.dur D.pen i).length = n) := hide (by rw [durK_len, HN.out])
        have KG0 := hide (show wr.drew.cell? ⟨g, 0, none⟩ = some (.slice (some ⟨gl, 0, none⟩) n cl) from by have h := HRD.out.blk.cell (i := 0) rfl; rw [show (⟨durK kept D.dur D.pen i, D.pen, D.ops, D.arm, D.off⟩ : Dk).dur.length = n from HNN.out] at h; exact h)
        have KG1 := hide (show wr.drew.cell? ⟨g, 1, none⟩ = some (.slice (some ⟨b, 0, none⟩) m c) from by have h := HRD.out.blk.cell (i := 1) rfl; rw [show (⟨durK kept D.dur D.pen i, D.pen, D.ops, D.arm, D.off⟩ : Dk).pen.length = m from HM.out] at h; exact h)
        have k1 := HRD.out.pen.cells (g := b) rfl (i * 2) _ e1
        have k2 := HRD.out.pen.cells (g := b) rfl (i * 2 + 1) _ e2
        rw [add_flat, Nat.zero_add] at k1 k2
        have KW0 := hide k1
        have KW1 := hide k2
        have HLT := hide hlt
        have HXN := hide (show x.1 < n from by rw [← HN.out]; exact hxn)
        have hcl : wr.drew.cell? ⟨gl, x.1, none⟩ = some (.string ⟨((durK kept D.dur D.pen i).getD x.1 []).toArray⟩) := HRD.out.dur.cell (by
          rw [List.getElem?_append_left (by rw [tvs_length, durK_len]; exact hxn)]
          refine tvs_get _ _ _ ?_
          rw [List.getD_eq_getElem?_getD, List.getElem?_eq_getElem (by rw [durK_len]; exact hxn)]
          rfl)
        have KST := hide (store_str7 hcl (HRD.out.dur.frozen x.1) ⟨x.2.toArray⟩)
        have HR2 := hide (show RefAt B (wr.drew.setCell ⟨gl, x.1, none⟩ (.string ⟨x.2.toArray⟩)) g gl cl (some ⟨b, 0, none⟩) c rest ⟨(durK kept D.dur D.pen i).set x.1 x.2, D.pen, D.ops, D.arm, D.off⟩ from ref_lay HRD.out x.1 x.2 (by show x.1 < (durK kept D.dur D.pen i).length; rw [durK_len]; exact hxn))
        have HU2 := hide (show Ufr B w (wr.drew.setCell ⟨gl, x.1, none⟩ (.string ⟨x.2.toArray⟩)) from (HU.out.trans (Ufr.ext (Ext.drew wr) (Nat.le_trans HB0.out HU.out.below.size))).trans (ufr_lay HRD.out x.1 _))
        have HSUC := hide (durK_succ kept D.dur D.pen i x hx)
        clear k1 k2 hown e1 e2 hxn hcl hx
        go_upto_region 4 with fail
        refine wp_region_chain [.pointer (some ⟨g, 0, none⟩), .pointer (some ⟨g, 0, none⟩), .pointer (some ⟨g, 0, none⟩), .slice (some ⟨gl, 0, none⟩) n cl, .pointer (some ⟨g, 0, none⟩), .pointer (some ⟨g, 0, none⟩), .pointer (some ⟨g, 1, none⟩), .slice (some ⟨b, 0, none⟩) m c, .int .i64 (i : Int), .pointer (some ⟨b, i * 2, none⟩), .pointer (some ⟨b, i * 2, none⟩), .int .i64 (x.1 : Int), .pointer (some ⟨g, 0, none⟩), .pointer (some ⟨g, 0, none⟩), .pointer (some ⟨g, 1, none⟩), .slice (some ⟨b, 0, none⟩) m c, .int .i64 (i : Int), .pointer (some ⟨b, i * 2, none⟩), .pointer (some ⟨b, i * 2 + 1, none⟩), .string ⟨x.2.toArray⟩, .pointer (some ⟨gl, x.1, none⟩), undef] [wr.drew, wr.drew.setCell ⟨gl, x.1, none⟩ (.string ⟨x.2.toArray⟩)] [21] (by kernel_rfl) (by kernel_rfl) (by kernel_rfl) rfl ?_ ?_
        · refine ⟨?_, ?_, ?_, ?_, ?_, ?_, ?_, ?_, ?_, ?_, ?_, ?_, ?_, ?_, ?_, ?_, ?_, ?_, ?_, ?_, ?_, ?_, trivial⟩
          · intro az hk H
            rw [if_neg (by decide)]
            intro j hj
            refine .inl ⟨wanted_none rfl, gives_move rfl ?_⟩
            rw [(ev (show az.tmps[0]? = some (.pointer (some ⟨g, 0, none⟩)) from hk 0 rfl))]
            exact ⟨rfl, rfl⟩
          · intro az hk H
            rw [if_neg (by decide)]
            intro j hj
            exact .inl ⟨wanted_none rfl, gives_nilCheck rfl (ev (H 0 rfl _ rfl 24 rfl)) ⟨rfl, rfl⟩⟩
          · intro az hk H
            rw [if_neg (by decide)]
            intro j hj
            exact .inl ⟨wanted_none rfl, gives_fieldP rfl (ev (H 1 rfl _ rfl 25 rfl)) (run_field7 g 0 _) ⟨rfl, rfl⟩⟩
          · intro az hk H
            rw [if_neg (by decide)]
            intro j hj
            have hj2 : j ≤ 0 := hj
            obtain rfl : j = 0 := by omega
            exact .inl ⟨wanted_none rfl, gives_load_v rfl (ev (H 2 rfl _ rfl 26 rfl)) (load_slice Try.underlying36 KG0.out) ⟨rfl, rfl⟩⟩
          · intro az hk H
            rw [if_neg (by decide)]
            intro j hj
            refine .inl ⟨wanted_none rfl, gives_move rfl ?_⟩
            rw [(ev (show az.tmps[0]? = some (.pointer (some ⟨g, 0, none⟩)) from hk 0 rfl))]
            exact ⟨rfl, rfl⟩
          · intro az hk H
            rw [if_neg (by decide)]
            intro j hj
            exact .inl ⟨wanted_none rfl, gives_nilCheck rfl (ev (H 4 rfl _ rfl 28 rfl)) ⟨rfl, rfl⟩⟩
          · intro az hk H
            rw [if_neg (by decide)]
            intro j hj
            exact .inl ⟨wanted_none rfl, gives_fieldP rfl (ev (H 5 rfl _ rfl 29 rfl)) (run_field7 g 1 _) ⟨rfl, rfl⟩⟩
          · intro az hk H
            rw [if_neg (by decide)]
            intro j hj
            have hj2 : j ≤ 0 := hj
            obtain rfl : j = 0 := by omega
            exact .inl ⟨wanted_none rfl, gives_load_v rfl (ev (H 6 rfl _ rfl 30 rfl)) (load_slice Try.underlying37 KG1.out) ⟨rfl, rfl⟩⟩
          · intro az hk H
            rw [if_neg (by decide)]
            intro j hj
            refine .inl ⟨wanted_none rfl, gives_move rfl ?_⟩
            rw [(ev (show az.tmps[4]? = some (.int .i64 (i : Int)) from hk 4 rfl))]
            exact ⟨rfl, rfl⟩
          · intro az hk H
            rw [if_neg (by decide)]
            intro j hj
            exact .inl ⟨wanted_none rfl, gives_indexP rfl (ev (H 7 rfl _ rfl 31 rfl)) (ev (H 8 rfl _ rfl 32 rfl)) (run_indexW7 b m c i HLT.out _) ⟨rfl, rfl⟩⟩
          · intro az hk H
            rw [if_neg (by decide)]
            intro j hj
            exact .inl ⟨wanted_none rfl, gives_fieldP rfl (ev (H 9 rfl _ rfl 33 rfl)) (run_fieldW7 b (i * 2) 0 _) ⟨rfl, rfl⟩⟩
          · intro az hk H
            rw [if_neg (by decide)]
            intro j hj
            have hj2 : j ≤ 0 := hj
            obtain rfl : j = 0 := by omega
            exact .inl ⟨wanted_none rfl, gives_load_v rfl (ev (H 10 rfl _ rfl 34 rfl)) (load_int7 KW0.out) ⟨rfl, rfl⟩⟩
          · intro az hk H
            rw [if_neg (by decide)]
            intro j hj
            refine .inl ⟨wanted_none rfl, gives_move rfl ?_⟩
            rw [(ev (show az.tmps[0]? = some (.pointer (some ⟨g, 0, none⟩)) from hk 0 rfl))]
            exact ⟨rfl, rfl⟩
          · intro az hk H
            rw [if_neg (by decide)]
            intro j hj
            exact .inl ⟨wanted_none rfl, gives_nilCheck rfl (ev (H 12 rfl _ rfl 36 rfl)) ⟨rfl, rfl⟩⟩
          · intro az hk H
            rw [if_neg (by decide)]
            intro j hj
            exact .inl ⟨wanted_none rfl, gives_fieldP rfl (ev (H 13 rfl _ rfl 37 rfl)) (run_field7 g 1 _) ⟨rfl, rfl⟩⟩
          · intro az hk H
            rw [if_neg (by decide)]
            intro j hj
            have hj2 : j ≤ 0 := hj
            obtain rfl : j = 0 := by omega
            exact .inl ⟨wanted_none rfl, gives_load_v rfl (ev (H 14 rfl _ rfl 38 rfl)) (load_slice Try.underlying37 KG1.out) ⟨rfl, rfl⟩⟩
          · intro az hk H
            rw [if_neg (by decide)]
            intro j hj
            refine .inl ⟨wanted_none rfl, gives_move rfl ?_⟩
            rw [(ev (show az.tmps[4]? = some (.int .i64 (i : Int)) from hk 4 rfl))]
            exact ⟨rfl, rfl⟩
          · intro az hk H
            rw [if_neg (by decide)]
            intro j hj
            exact .inl ⟨wanted_none rfl, gives_indexP rfl (ev (H 15 rfl _ rfl 39 rfl)) (ev (H 16 rfl _ rfl 40 rfl)) (run_indexW7 b m c i HLT.out _) ⟨rfl, rfl⟩⟩
          · intro az hk H
            rw [if_neg (by decide)]
            intro j hj
            exact .inl ⟨wanted_none rfl, gives_fieldP rfl (ev (H 17 rfl _ rfl 41 rfl)) (run_fieldW7 b (i * 2) 1 _) ⟨rfl, rfl⟩⟩
          · intro az hk H
            rw [if_neg (by decide)]
            intro j hj
            have hj2 : j ≤ 0 := hj
            obtain rfl : j = 0 := by omega
            exact .inl ⟨wanted_none rfl, gives_load_v rfl (ev (H 18 rfl _ rfl 42 rfl)) (load_str7 KW1.out) ⟨rfl, rfl⟩⟩
          · intro az hk H
            rw [if_neg (by decide)]
            intro j hj
            exact .inl ⟨wanted_none rfl, gives_indexP rfl (ev (H 3 rfl _ rfl 27 rfl)) (ev (H 11 rfl _ rfl 35 rfl)) (run_indexT7 gl n cl x.1 HXN.out _) ⟨rfl, rfl⟩⟩
          · intro az hk H
            rw [if_pos (by decide)]
            intro j hj
            obtain rfl : j = 0 := ch_at hj 0 rfl (by decide)
            exact ⟨wanted_none rfl, gives_store_one rfl (ev (H 20 rfl _ rfl 44 rfl)) (ev (H 19 rfl _ rfl 43 rfl)) (KST.out) ⟨rfl, rfl⟩⟩
        · simp only [setsOf, List.zipIdx_cons, List.zipIdx_nil, List.filterMap_cons, List.filterMap_nil, Option.map_some, Option.map_none, List.foldl_cons, List.foldl_nil, List.setIfInBounds_toArray, List.set_cons_succ, List.set_cons_zero, List.getD_cons_zero, List.getD_cons_succ, Nat.zero_add, List.length_cons, List.length_nil]
          have HSE : Hid (durK kept D.dur D.pen (i + 1) = (durK kept D.dur D.pen i).set x.1 x.2) := hide (by rw [HSUC.out, if_pos HKT.out])
          obtain ⟨wz, HWZ⟩ : ∃ wz, Hid (wr.drew.setCell ⟨gl, x.1, none⟩ (.string ⟨x.2.toArray⟩) = wz) := ⟨_, hide rfl⟩
          rw [HWZ.out] at HR2 HU2 ⊢
          rw [← HSE.out] at HR2
          clear KST KG0 KG1 KW0 KW1 HRD q1 pc
          go_wp2
          exact ⟨⟨i + 1, by omega, by go_num, HR2, HU2⟩, by simp [intOf]; omega⟩
      · have HKT : Hid (kept i = false) := hide (by rw [HKEPT.out]; simpa using hkp)
        obtain ⟨x, hx⟩ : ∃ x, D.pen[i]? = some x := ⟨_, List.getElem?_eq_getElem (by rw [HM.out]; exact hlt)⟩
        have HSE : Hid (durK kept D.dur D.pen (i + 1) = durK kept D.dur D.pen i) := hide (by rw [durK_succ kept D.dur D.pen i x hx, if_neg (by rw [HKT.out]; decide)])
        have HR2 := HR
        rw [← HSE.out] at HR2
        by_cases hik : i < kl
        · have hikI : (i : Int) < (kl : Int) := by omega
          have hkv : keep[i]? = some false := by
            have h := List.getElem?_eq_getElem (l := keep) (i := i) (by rw [HKL.out]; exact hik)
            rw [List.getD_eq_getElem?_getD, h] at hkp
            rw [h]
            exact congrArg some (by simpa using hkp)
          obtain ⟨pb, po, hP, hpc⟩ := HK.out wr HU.out (by intro e; rw [e] at hkv; cases hkv)
          subst hP
          have pc := hpc i false hkv
          clear hpc hkv hkp hx
          go_wp2
          exact ⟨⟨i + 1, by omega, by go_num, HR2, HU⟩, by simp [intOf]; omega⟩
        · have hikI : ¬ (i : Int) < (kl : Int) := by omega
          clear hkp hx
          go_wp2
          exact ⟨⟨i + 1, by omega, by go_num, HR2, HU⟩, by simp [intOf]; omega⟩
    · obtain rfl : m = i := by omega
      have hii : ¬ (m : Int) < (m : Int) := by omega
      have f1 := HR.out.blk.frozen 1
      have R1 := ref_empty HR.out
      have f3 := R1.blk.frozen 3
      have d3 := R1.blk.cell (i := 3) rfl
      have R2 := R1.put 3 (.bool false) ⟨durK kept D.dur D.pen m, [], D.ops, D.arm, false⟩ rfl rfl rfl
      have f2 := R2.blk.frozen 2
      have d2 := R2.blk.cell (i := 2) rfl
      have R3 := R2.put 2 (.int .i64 0) ⟨durK kept D.dur D.pen m, [], D.ops, 0, false⟩ rfl rfl rfl
      have HE := hide R3
      have HUE := hide (((HU.out.trans (Ufr.cell HR.out 1 (.slice none 0 0))).trans (Ufr.cell R1 3 (.bool false))).trans (Ufr.cell R2 2 (.int .i64 0)))
      obtain rfl : DF = ⟨durK kept D.dur D.pen m, [], D.ops, 0, false⟩ := by rw [← HDF.out]; unfold Dk.fallen; rw [HM.out, HKEPT.out]
      clear R1 R2 R3
      go_wp2
      go_end0
      exact ⟨gl, cl, none, 0, rest, rfl, HE.out, HUE.out⟩
end
end Go.Proofs.Ytmabminjmcjafaa
