/-
  The reference's stretched password: Stretch's contract.
-/
import Derived.Test.YtmanflfanoddgaaDoorRefT
import Derived.Test.YtmanflfanoddgaaDoorShaV
namespace Go.Proofs.YtmanflfanoddgaaDoor
open Go.RowKit

set_option maxRecDepth 20000 in
set_option maxHeartbeats 8000000 in
theorem rstretch_any (tb : List Nat) (htb : Hid (tb = startW ++ roundW)) (A B : Option Addr) (c d : Nat) (pass salt : List UInt8) (r : Nat) (w : World) (hA : Rd w A pass) (hB : Rd w B salt) (hp : pass.length ≤ 1000000) (hs : salt.length ≤ 1000000) (hr : r < 64) :
    Calls Tryd.prog 20 #[.agg (us tb).toArray, .slice A pass.length c, .slice B salt.length d, .int .i64 ((r : Int) + 1)] w (Ret w (Is (.agg (bs (stretchS pass salt r).2).toArray))) := by
  have HTL : Hid (tb.length = 72) := hide (by rw [htb.out]; rfl)
  obtain ⟨np, HNP⟩ : ∃ n, Hid (pass.length = n) := ⟨_, hide rfl⟩
  obtain ⟨ns, HNS⟩ : ∃ n, Hid (salt.length = n) := ⟨_, hide rfl⟩
  have KT := hide fun W (h : Ext w W) (C : Option Addr) (e : Nat) (q : List UInt8) (hC : Rd W C q) (hl : q.length ≤ 2000000) => (show Calls Tryd.prog 17 #[.agg (us tb).toArray, .slice A np c, .slice C q.length e] W (Ret W (Is (.agg (bs (tagK pass q)).toArray))) from (by
    have h3 := rtag_any tb htb A C c e pass q W (hA.ext h) hC (by omega) (by omega)
    rw [HNP.out] at h3
    exact h3))
  obtain ⟨nl, HNL⟩ : ∃ l, Hid (numberedL salt = l) := ⟨_, hide rfl⟩
  have HNLL : Hid (nl.length ≤ 2000000) := hide (by rw [← HNL.out]; simp [numberedL]; omega)
  obtain ⟨L, HL⟩ : ∃ L : Nat → List UInt8, Hid (∀ n, (stretchS pass salt n).1 = L n) := ⟨fun n => (stretchS pass salt n).1, fun _ => rfl⟩
  obtain ⟨M, HM⟩ : ∃ M : Nat → List UInt8, Hid (∀ n, (stretchS pass salt n).2 = M n) := ⟨fun n => (stretchS pass salt n).2, fun _ => rfl⟩
  have HLL : Hid (∀ n, (L n).length = 32) := fun n => by rw [← HL.out]; exact (stretchS_length pass salt n).1
  have HML : Hid (∀ n, (M n).length = 32) := fun n => by rw [← HM.out]; exact (stretchS_length pass salt n).2
  have HL0 : Hid (tagK pass nl = L 0) := by rw [← HNL.out]; exact HL.out 0
  have HM0 : Hid (L 0 = M 0) := by show L 0 = M 0; rw [← HL.out, ← HM.out]; rfl
  have HLS : Hid (∀ n, tagK pass (L n) = L (n + 1)) := fun n => by rw [← HL.out, ← HL.out]; rfl
  have HMS : Hid (∀ n, xorL (M n) (L (n + 1)) = M (n + 1)) := fun n => by rw [← HL.out, ← HM.out, ← HM.out]; rfl
  rw [HM.out, HNP.out, HNS.out]
  have hr1 : (1 : Int) ≤ (r : Int) + 1 := by omega
  have hr2 : (r : Int) + 1 ≤ 64 := by omega
  have HSS := hide hs
  clear hp hs
  obtain ⟨g4, hg4⟩ : ∃ g, g = w.heap.size := ⟨_, rfl⟩
  have HW0 := hide (show Wds ((w.alloc (.cells (us tb).toArray 31)).alloc (.cells (bs (List.replicate 32 0)).toArray 24)) w.heap.size 31 tb from heap_alloc2_old w _ _)
  have HZ0 := hide (show Rw ((w.alloc (.cells (us tb).toArray 31)).alloc (.cells (bs (List.replicate 32 0)).toArray 24)) (w.heap.size + 1) 24 (bs (List.replicate 32 0)) from heap_alloc2_new w _ _)
  have hx0 : Ext w ((w.alloc (.cells (us tb).toArray 31)).alloc (.cells (bs (List.replicate 32 0)).toArray 24)) := (Ext.alloc _ _).trans (Ext.alloc _ _)
  have hs0 : w.heap.size + 2 ≤ ((w.alloc (.cells (us tb).toArray 31)).alloc (.cells (bs (List.replicate 32 0)).toArray 24)).heap.size := by simp
  go_enter Tryd.func20, Tryd.ntmps20
  go_wp2_with (first
    | ((with_reducible show wpList _ _ _ (⟨some 16, .call _, _, _, _, _⟩ :: _) _ _); refine wpList_cat rfl (.tmp 14) (.tmp 15) rfl (w.heap.size + 2) _ [] salt B ns d rfl rfl HNS.out.symm (Own.nil _ _) (hB.ext hx0) hs0 (by have := HSS.out; simp only [List.length_nil]; omega) ?_; intro v1 w1 hown1 hb1; rw [List.nil_append] at hown1;
       have HW1 : Hid (Wds w1 w.heap.size 31 tb) := hide (Wds.below HW0.out hb1 (by omega));
       have HZ1 : Hid (Rw w1 (w.heap.size + 1) 24 (bs (List.replicate 32 0))) := hide (Rw.below HZ0.out hb1 (by omega));
       have hx1 : Ext w w1 := Below.trans hx0 (Below.mono hb1 (by omega));
       have hs1 : w.heap.size + 2 ≤ w1.heap.size := Nat.le_trans hs0 hb1.size;
       have HO1 := hide hown1; clear hown1 hb1)
    | ((with_reducible show wpList _ _ _ (⟨some 19, .call _, _, _, _, _⟩ :: _) _ _); refine wpList_cat rfl (.tmp 17) (.tmp 18) rfl (w.heap.size + 2) _ salt [0, 0, 0, 1] (some ⟨w1.heap.size, 0, none⟩) 4 4 rfl rfl rfl (HO1.out.alloc _) (Rd.new w1 _ [0, 0, 0, 1] []) (by simp; omega) (by have := HSS.out; simp only [List.length_cons, List.length_nil]; omega) ?_; intro v2 w2 hown2 hb2; rw [show salt ++ [0, 0, 0, 1] = nl from HNL.out] at hown2;
       have HW2 : Hid (Wds w2 w.heap.size 31 tb) := hide (Wds.below (Wds.ext HW1.out (Ext.alloc _ _)) hb2 (by omega));
       have HZ2 : Hid (Rw w2 (w.heap.size + 1) 24 (bs (List.replicate 32 0))) := hide (Rw.below (Rw.ext HZ1.out (Ext.alloc _ _)) hb2 (by omega));
       have hx2 : Ext w w2 := Below.trans (hx1.trans (Ext.alloc _ _)) (Below.mono hb2 (by omega));
       obtain ⟨C2, c2, rfl, _, hr2'⟩ := hown2.bytes;
       have HR2 := hide hr2'; clear hown2 hb2 hr2')
    | ((with_reducible show wpList _ _ _ (⟨some 20, .load _ _, _, _, _, _⟩ :: _) _ _);
       refine wpList_load_row rfl 31 (.tmp 4) rfl w.heap.size rfl 31 (us tb).toArray (0, 0) _ HW2.out Tryd.underlying31 rfl (by rw [List.size_toArray, us_length, HTL.out]; kernel_rfl) ?_)
    | (go_at_call 17; (with_reducible refine (KT.out _ hx2 C2 c2 nl HR2.out HNLL.out).mono ?_); rw [HL0.out]; rintro e w3 ⟨v3, rfl, hw3, rfl⟩;
       have hx3 : Ext w w3 := hx2.trans hw3;
       have HW3 : Hid (Wds w3 w.heap.size 31 tb) := hide (Wds.ext HW2.out hw3);
       have HZ3 : Hid (Rw w3 (w.heap.size + 1) 24 (bs (List.replicate 32 0))) := hide (Rw.ext HZ2.out hw3))
    | ((with_reducible show wpList _ _ _ (⟨none, .store _ (.tmp 10) _, _, _, _, _⟩ :: _) _ _);
       refine wpList_store_rw rfl 24 (.tmp 10) (.tmp 23) rfl _ rfl (bs (L 0)) rfl 24 (bs (List.replicate 32 0)) (heap_alloc_new w3 _) 32 (by kernel_rfl) (by rw [bs_length, HLL.out]) (by rw [bs_length, bs_length, HLL.out]; rfl) (List.all_eq_true.2 (bs_one _)) ?_;
       intro w4 hr4 hl4;
       have hl3 := Wds.lt HW3.out; have hl3' := Rw.lt HZ3.out;
       have hx4 : Ext w w4 := (hx3.trans (Ext.alloc _ _)).laid hl4 hx3.size;
       have HW4 : Hid (Wds w4 w.heap.size 31 tb) := hide (Wds.other (Wds.ext HW3.out (Ext.alloc _ _)) hl4 (by omega));
       have HZ4 : Hid (Rw w4 (w.heap.size + 1) 24 (bs (List.replicate 32 0))) := hide (Rw.other (Rw.ext HZ3.out (Ext.alloc _ _)) hl4 (by omega));
       have HU4 := hide hr4; clear hr4 hl4)
    | ((with_reducible show wpList _ _ _ (⟨some 24, .load _ _, _, _, _, _⟩ :: _) _ _);
       refine wpList_load_rw rfl 24 (.tmp 10) rfl _ rfl 24 (bs (L 0)) HU4.out 32 5 Tryd.underlying24 (by kernel_rfl) (by rw [bs_length, HLL.out]) ?_)
    | ((with_reducible show wpList _ _ _ (⟨none, .store _ (.tmp 11) _, _, _, _, _⟩ :: _) _ _);
       refine wpList_store_rw rfl 24 (.tmp 11) (.tmp 24) rfl _ rfl (bs (L 0)) rfl 24 (bs (List.replicate 32 0)) (heap_alloc_new w4 _) 32 (by kernel_rfl) (by rw [bs_length, HLL.out]) (by rw [bs_length, bs_length, HLL.out]; rfl) (List.all_eq_true.2 (bs_one _)) ?_;
       intro w6 hr6 hl6;
       have h94 := Rw.lt HU4.out; have h93 := Wds.lt HW4.out; have h92 := Rw.lt HZ4.out;
       have HX6 : Hid (Ext w w6) := hide ((hx4.trans (Ext.alloc _ _)).laid hl6 hx4.size);
       have HK6 : Hid (Wds w6 w.heap.size 31 tb) := hide (Wds.other (Wds.ext HW4.out (Ext.alloc _ _)) hl6 (by omega));
       have HZ6 : Hid (Rw w6 (w.heap.size + 1) 24 (bs (List.replicate 32 0))) := hide (Rw.other (Rw.ext HZ4.out (Ext.alloc _ _)) hl6 (by omega));
       have HR6 : Hid (Rw w6 w3.heap.size 24 (bs (L 0))) := hide (Rw.other (Rw.ext HU4.out (Ext.alloc _ _)) hl6 (by omega));
       have HM6 : Hid (Rw w6 w4.heap.size 24 (bs (L 0))) := hide hr6;
       have HG := hide (show w.heap.size + 1 < w3.heap.size ∧ w3.heap.size < w4.heap.size by omega);
       clear hr6 hl6 h94 h93 h92 hx4))
  generalize hg9 : w3.heap.size = g9 at *
  generalize hg10 : w4.heap.size = g10 at *
  clear HW0 HZ0 hx0 hs0 HW1 HZ1 hx1 hs1 HO1 HW2 HZ2 hx2 HR2 HW3 HZ3 hx3 hw3 HW4 HZ4 HU4 hg9 hg10 hl3 hl3'
  go_loopw [12, 13] (fun i _ wr => ∃ k : Nat, k ≤ r ∧ i = .int .i64 ((k : Int) + 1) ∧ Hid (Rw wr g9 24 (bs (L k))) ∧ Hid (Rw wr g10 24 (bs (M k))) ∧ Hid (Wds wr w.heap.size 31 tb) ∧ Hid (Rw wr (w.heap.size + 1) 24 (bs (List.replicate 32 0))) ∧ Hid (Ext w wr)) (fun i _ _ => r + 1 - (intOf i).toNat)
  case atStart => exact ⟨0, Nat.zero_le _, rfl, HR6, HM0.out ▸ HM6, HK6, HZ6, HX6⟩
  clear HR6 HM6 HK6 HZ6 HX6
  case round =>
    obtain ⟨k, hk, rfl, HRk, HMk, HKk, HZk, HXk⟩ := hrel
    by_cases hlt : k < r
    · have hki : (k : Int) + 1 < (r : Int) + 1 := by omega
      go_wp2
      refine Whole.wp_region_last (Nat.le_refl _) [
          ⟨fun _ v => v = .agg (us tb).toArray, fun _ _ _ h _ => h⟩,
          ⟨fun _ v => v = .slice A np c, fun _ _ _ h _ => h⟩,
          ⟨fun _ v => v = .slice (some ⟨g9, 0, none⟩) 32 32, fun _ _ _ h _ => h⟩,
          ⟨fun _ v => v = .agg (bs (L (k + 1))).toArray, fun _ _ _ h _ => h⟩] 4 _ rfl (by kernel_rfl) (by kernel_rfl) (by kernel_rfl) ?_ ?_
      · refine ⟨.inr ?_, .inr ?_, .inr ?_, .inr ?_, .inl rfl, trivial⟩
        · intro az wz hx hB0 hk H
          refine .inl ⟨wanted_none rfl, ?_⟩
          exact gives_load_st 31 (.tmp 4) rfl w.heap.size (by rw [(ev (show az.tmps[4]? = some (.pointer (some ⟨w.heap.size, 0, none⟩)) from hk 4 rfl))]) 31 _ (Rw.below HKk.out hx.below (Wds.lt HKk.out)) _ Tryd.underlying31 rfl (by rw [us_length, HTL.out]; kernel_rfl) ⟨Whole.Grw.refl _ _, rfl⟩
        · intro az wz hx hB0 hk H
          refine .inl ⟨wanted_none rfl, ?_⟩
          refine gives_move rfl ?_
          rw [(ev (show az.tmps[1]? = some (.slice A np c) from hk 1 rfl))]
          exact ⟨Whole.Grw.refl _ _, rfl⟩
        · intro az wz hx hB0 hk H
          refine .inl ⟨wanted_none rfl, ?_⟩
          exact gives_all (n := 32) rfl (by rw [(ev (show az.tmps[10]? = some (.pointer (some ⟨g9, 0, none⟩)) from hk 10 rfl))]) (run_all32 _ _) ⟨Whole.Grw.refl _ _, rfl⟩
        · intro az wz hx hB0 hk H
          obtain ⟨v30, h30, s30⟩ := H 0 rfl _ rfl 30 rfl
          obtain ⟨v31, h31, s31⟩ := H 1 rfl _ rfl 31 rfl
          obtain ⟨v32, h32, s32⟩ := H 2 rfl _ rfl 32 rfl
          refine .inl ⟨wanted_none rfl, ?_⟩
          refine gives_call rfl Tryd.call17 (by simp only [List.map_toArray, List.map_cons, List.map_nil, ev h30, ev h31, ev h32]; rw [s30, s31, s32]) ?_
          have h := KT.out wz (Below.trans HXk.out (Below.mono hx.below HXk.out.size)) (some ⟨g9, 0, none⟩) 32 (L k) (Rw.rd (Rw.below HRk.out hx.below (Rw.lt HRk.out))) (by rw [HLL.out]; decide)
          rw [HLS.out, HLL.out] at h
          exact h.mono fun _ _ h => Whole.ret_grw h hB0
      · intro az wz hx hd hs hv hsame
        obtain ⟨v30, h30, s30⟩ := hv 0 _ 30 (by decide) rfl rfl
        obtain rfl : v30 = (.agg (us tb).toArray) := s30
        obtain ⟨v31, h31, s31⟩ := hv 1 _ 31 (by decide) rfl rfl
        obtain rfl : v31 = (.slice A np c) := s31
        obtain ⟨v32, h32, s32⟩ := hv 2 _ 32 (by decide) rfl rfl
        obtain rfl : v32 = (.slice (some ⟨g9, 0, none⟩) 32 32) := s32
        obtain ⟨v33, h33, s33⟩ := hv 3 _ 33 (by decide) rfl rfl
        obtain rfl : v33 = (.agg (bs (L (k + 1))).toArray) := s33
        have hfr := frame_last [(30, (.agg (us tb).toArray)), (31, (.slice A np c)), (32, (.slice (some ⟨g9, 0, none⟩) 32 32)), (33, (.agg (bs (L (k + 1))).toArray))] hs (by kernel_rfl) (by simp only [List.forall_mem_cons, List.not_mem_nil, false_implies, implies_true, and_true]; exact ⟨h30, h31, h32, h33⟩) hsame
        simp only [List.foldl_cons, List.foldl_nil, List.setIfInBounds_toArray, List.set_cons_succ, List.set_cons_zero] at hfr
        obtain ⟨tm, df⟩ := az
        simp only [] at hfr hd
        subst hfr hd
        clear hv hsame hs h30 h31 h32 h33
        refine ⟨wanted_none rfl, ?_⟩
        have hl9 := Rw.lt HRk.out
        have hl10 := Rw.lt HMk.out
        have hl8 := Wds.lt HKk.out
        have hl6 := Rw.lt HZk.out
        refine gives_store_rw 24 (.tmp 10) (.tmp 33) rfl g9 rfl (bs (L (k + 1))) rfl 24 (bs (L k)) (Rw.below HRk.out hx.below hl9) 32 (by kernel_rfl) (by rw [bs_length, HLL.out]) (by rw [bs_length, bs_length, HLL.out, HLL.out]) (List.all_eq_true.2 (bs_one _)) ?_
        intro w7 hr7 hl7
        have hG := HG.out
        have HX7 : Hid (Ext w w7) := hide (Ext.laid (Below.trans HXk.out (Below.mono hx.below HXk.out.size)) hl7 (by omega))
        have HK7 : Hid (Wds w7 w.heap.size 31 tb) := hide (Wds.other (Wds.below HKk.out hx.below hl8) hl7 (by omega))
        have HZ7 : Hid (Rw w7 (w.heap.size + 1) 24 (bs (List.replicate 32 0))) := hide (Rw.other (Rw.below HZk.out hx.below hl6) hl7 (by omega))
        have HM7 : Hid (Rw w7 g10 24 (bs (M k))) := hide (Rw.other (Rw.below HMk.out hx.below hl10) hl7 (by omega))
        have HR7 := hide hr7
        clear hx HXk HKk HZk HMk HRk hl7 hr7 hl9 hl10 hl8 hl6 hG
        dsimp only [Act.put]
        go_wp2
        go_loopw [13] (fun i wr => ∃ j : Nat, j ≤ 32 ∧ i = .int .i64 j ∧ Hid (Rw wr g10 24 (bs ((M (k + 1)).take j ++ (M k).drop j))) ∧ Hid (Rw wr g9 24 (bs (L (k + 1)))) ∧ Hid (Wds wr w.heap.size 31 tb) ∧ Hid (Rw wr (w.heap.size + 1) 24 (bs (List.replicate 32 0))) ∧ Hid (Ext w wr)) (fun i _ => 32 - (intOf i).toNat)
        case atStart => exact ⟨0, Nat.zero_le _, rfl, HM7, HR7, HK7, HZ7, HX7⟩
        clear HM7 HR7 HK7 HZ7 HX7
        case round =>
          obtain ⟨j, hj, rfl, HMj, HRj, HKj, HZj, HXj⟩ := hrel
          by_cases hjt : j < 32
          · have hji : (j : Int) < 32 := by omega
            have hji0 : (0 : Int) ≤ (j : Int) := by omega
            obtain ⟨x, hxj⟩ : ∃ x, (M k)[j]? = some x := ⟨_, List.getElem?_eq_getElem (by rw [HML.out]; exact hjt)⟩
            obtain ⟨y, hyj⟩ : ∃ y, (L (k + 1))[j]? = some y := ⟨_, List.getElem?_eq_getElem (by rw [HLL.out]; exact hjt)⟩
            have hxy := xorL_get _ _ _ _ _ hxj hyj
            rw [HMS.out] at hxy
            have cx := Rw.cell HMj.out (i := j) (v := .int .u8 (x.toNat : Int)) (by rw [bs_get, get_part _ _ _ (by rw [HML.out]; exact hjt), hxj]; rfl)
            have cy := Rw.cell HRj.out (i := j) (v := .int .u8 (y.toNat : Int)) (by rw [bs_get, hyj]; rfl)
            have fx := Rw.frozen HMj.out j
            have hx2 := x.toNat_lt
            have hy2 := y.toNat_lt
            have e1 := u8_xor_nat x.toNat y.toNat (by omega) (by omega)
            have HS : Hid (Rw (wr.setCell ⟨g10, j, none⟩ (.int .u8 ((x.toNat ^^^ y.toNat : Nat) : Int))) g10 24 (bs ((M (k + 1)).take (j + 1) ++ (M k).drop (j + 1)))) := by
              have h := Rw.set HMj.out j (.int .u8 ((x.toNat ^^^ y.toNat : Nat) : Int))
              have e : (bs ((M (k + 1)).take j ++ (M k).drop j)).set j (.int .u8 ((x.toNat ^^^ y.toNat : Nat) : Int)) = bs (((M (k + 1)).take j ++ (M k).drop j).set j (x ^^^ y)) := by
                unfold bs
                rw [List.map_set, UInt8.toNat_xor]
              rw [e, set_part _ _ _ _ hxy (by rw [HML.out]; exact hjt)] at h
              exact h
            have hG := HG.out
            have hG1 := hG.1
            have hG2 := hG.2
            clear hxj hyj hxy hG
            go_wp2
            go_region
            all_goals
              go_wp2
              refine ⟨⟨j + 1, by omega, by go_num, hide HS.out, hide (Rw.far HRj.out (by show g9 ≠ g10; omega) _), hide (Wds.far HKj.out (by show w.heap.size ≠ g10; omega) _), hide (Rw.far HZj.out (by show w.heap.size + 1 ≠ g10; omega) _), hide ((Below.set (B := w.heap.size) (p := ⟨g10, j, none⟩) HXj.out (by show w.heap.size ≤ g10; omega) _).drew)⟩, by simp [intOf]; omega⟩
          · have hj32 : j = 32 := by omega
            have hji : ¬ (j : Int) < 32 := by omega
            have HMn : Hid (Rw wr g10 24 (bs (M (k + 1)))) := by
              have h := HMj.out
              rw [hj32, List.take_of_length_le (by rw [HML.out]; exact Nat.le_refl _), List.drop_of_length_le (by rw [HML.out]; exact Nat.le_refl _), List.append_nil] at h
              exact h
            clear hj32 hjt HMj
            go_wp2
            exact ⟨⟨k + 1, by omega, by go_num, HRj, HMn, HKj, HZj, HXj⟩, by simp [intOf]; omega⟩
    · have hkr : k = r := by omega
      have hki : ¬ (k : Int) + 1 < (r : Int) + 1 := by omega
      have HMr : Hid (M k = M r) := hide (by rw [hkr])
      clear hkr hlt
      go_wp2_with (first
        | ((with_reducible show wpList _ _ _ (⟨some 47, .load _ _, _, _, _, _⟩ :: _) _ _);
           refine wpList_load_rw rfl 24 (.tmp 11) rfl g10 rfl 24 (bs (M k)) HMk.out 32 5 Tryd.underlying24 (by kernel_rfl) (by rw [bs_length, HML.out]) ?_)
        | ((with_reducible show wpList _ _ _ (⟨none, .store _ (.tmp 8) _, _, _, _, _⟩ :: _) _ _);
           refine wpList_store_rw rfl 24 (.tmp 8) (.tmp 47) rfl _ rfl (bs (M k)) rfl 24 (bs (List.replicate 32 0)) HZk.out 32 (by kernel_rfl) (by rw [bs_length, HML.out]) (by rw [bs_length, bs_length, HML.out]; rfl) (List.all_eq_true.2 (bs_one _)) ?_;
           intro w8 hr8 hl8))
      exact ret_rw rfl rfl _ rfl _ _ hr8 32 5 Tryd.underlying24 (by kernel_rfl) (by rw [bs_length, HML.out]) (Ret.mk (HXk.out.laid hl8 (Nat.le_succ _)) (by rw [HMr.out]; rfl))
end Go.Proofs.YtmanflfanoddgaaDoor
