/-
  The reference's tag: Tag's contract.
-/
import Derived.Test.YtmanflfanoddgaaDoorRefS
import Derived.Test.YtmanflfanoddgaaDoorRefU
import Derived.Test.YtmanflfanoddgaaDoorTwo
namespace Go.Proofs.YtmanflfanoddgaaDoor
open Go.RowKit

theorem xorB_next (p : UInt8) (l : List UInt8) (i : Nat) (x : UInt8) (hx : l[i]? = some x) : xorB p (l.take (i + 1)) = xorB p (l.take i) ++ [x ^^^ p] := by
  unfold xorB
  rw [List.take_add_one, hx]
  simp
theorem byte_xor (x : UInt8) (p : Nat) (hp : p < 256) : b8 ((x.toNat ^^^ p : Nat) : Int) = x ^^^ UInt8.ofNat p := by
  apply UInt8.toNat_inj.1
  rw [UInt8.toNat_xor, UInt8.toNat_ofNat', Nat.mod_eq_of_lt (show p < 2 ^ 8 from hp)]
  have h : x.toNat ^^^ p < 256 := Nat.xor_lt_two_pow (n := 8) x.toNat_lt hp
  have h2 := b8_toNat (n := ((x.toNat ^^^ p : Nat) : Int)) (by omega) (by omega)
  omega
theorem keyB_small (key : List UInt8) (h : ¬ 64 < key.length) : keyB key = key ++ List.replicate (64 - key.length) 0 := by unfold keyB; rw [if_neg h]
theorem keyB_big (key : List UInt8) (h : 64 < key.length) : keyB key = sha key ++ List.replicate 32 0 := by unfold keyB; rw [if_pos h]

set_option maxRecDepth 20000 in
set_option maxHeartbeats 6400000 in
theorem rtag_any (tb : List Nat) (htb : Hid (tb = startW ++ roundW)) (A B0 : Option Addr) (c d : Nat) (key p : List UInt8) (w : World) (hA : Rd w A key) (hP : Rd w B0 p) (hk : key.length ≤ 140737488340000) (hp : p.length ≤ 140737488340000) :
    Calls Tryd.prog 17 #[.agg (us tb).toArray, .slice A key.length c, .slice B0 p.length d] w (Ret w (Is (.agg (bs (tagK key p)).toArray))) := by
  obtain ⟨nk, HNK⟩ : ∃ n, Hid (key.length = n) := ⟨_, hide rfl⟩
  obtain ⟨np, HNP⟩ : ∃ n, Hid (p.length = n) := ⟨_, hide rfl⟩
  obtain ⟨kb, HKB⟩ : ∃ k, Hid (keyB key = k) := ⟨_, hide rfl⟩
  have HKL : Hid (kb.length = 64) := hide (by rw [← HKB.out]; exact keyB_length key)
  obtain ⟨q1, HQ1⟩ : ∃ q, Hid (xorB 54 kb ++ p = q) := ⟨_, hide rfl⟩
  obtain ⟨o1, HO1⟩ : ∃ o, Hid (sha q1 = o) := ⟨_, hide rfl⟩
  have HL1 : Hid (o1.length = 32) := hide (by rw [← HO1.out]; rfl)
  obtain ⟨q2, HQ2⟩ : ∃ q, Hid (xorB 92 kb ++ o1 = q) := ⟨_, hide rfl⟩
  obtain ⟨o2, HO2⟩ : ∃ o, Hid (sha q2 = o) := ⟨_, hide rfl⟩
  have HL2 : Hid (o2.length = 32) := hide (by rw [← HO2.out]; rfl)
  have HT : Hid (tagK key p = o2) := hide (by rw [tag_sha, HKB.out, HQ1.out, HO1.out, HQ2.out, HO2.out])
  have HPS := hide hp
  have HQ1L : Hid (q1.length ≤ 140737488350000) := hide (by rw [← HQ1.out]; simp only [xorB, List.length_append, List.length_map, HKL.out]; omega)
  have HQ2L : Hid (q2.length ≤ 140737488350000) := hide (by rw [← HQ2.out]; simp only [xorB, List.length_append, List.length_map, HKL.out, HL1.out]; omega)
  have HKS := hide hk
  have KR := hide fun (C : Option Addr) (e : Nat) (q : List UInt8) W (h : Rd W C q) (hl : q.length ≤ 140737488350000) => rsum_any tb htb C e q W h hl
  rw [HT.out, HNK.out, HNP.out]
  by_cases hbig : 64 < key.length
  · have hbi : (64 : Int) < (nk : Int) := by rw [← HNK.out]; omega
    obtain ⟨ok, HOK⟩ : ∃ o, Hid (sha key = o) := ⟨_, hide rfl⟩
    have HOKL : Hid (ok.length = 32) := hide (by rw [← HOK.out]; rfl)
    have HKK : Hid (kb = ok ++ List.replicate 32 0) := hide (by rw [← HKB.out, keyB_big key hbig, HOK.out])
    have KR0 := hide fun W (h : Ext w W) => (show Calls Tryd.prog 47 #[.agg (us tb).toArray, .slice A nk c] W (Ret W (Is (.agg (bs ok).toArray))) from (by
      have h3 := KR.out A c key W (hA.ext h) (by omega)
      rw [HOK.out, HNK.out] at h3
      exact h3))
    clear hbig hk hp
    go_enter Tryd.func17, Tryd.ntmps17
    go_wp2_with (first
      | ((with_reducible show wpList _ _ _ (⟨some 16, .load _ _, _, _, _, _⟩ :: _) _ _);
         refine wpList_load_row rfl 31 (.tmp 3) rfl w.heap.size rfl 31 (us tb).toArray (0, 0) _ (heap_alloc2_old w _ _) Tryd.underlying31 rfl (by rw [List.size_toArray, us_length, htb.out]; kernel_rfl) ?_)
      | (go_at_call 47; refine (KR0.out _ ((Ext.alloc w _).trans (Ext.alloc _ _))).mono ?_; rintro e w1 ⟨v1, rfl, hw1, rfl⟩;
         have hT1 : Hid (Wds w1 w.heap.size 31 tb) := hide (Wds.ext (heap_alloc2_old w _ _) hw1);
         have hZ1 : Hid (Rw w1 (w.heap.size + 1) 24 (bs (List.replicate 32 0))) := hide (Rw.ext (heap_alloc2_new w _ _) hw1);
         have hx1 : Ext w w1 := ((Ext.alloc w _).trans (Ext.alloc _ _)).trans hw1;
         have hs1 : w.heap.size + 2 ≤ w1.heap.size := by (have := hw1.size; simpa using this))
      | ((with_reducible show wpList _ _ _ (⟨none, .store _ (.tmp 8) _, _, _, _, _⟩ :: _) _ _);
         refine wpList_store_rw rfl 24 (.tmp 8) (.tmp 18) rfl _ rfl (bs ok) rfl 24 (bs (List.replicate 32 0)) (heap_alloc_new w1 _) 32 (by kernel_rfl) (by rw [bs_length, HOKL.out]) (by rw [bs_length, bs_length, HOKL.out]; rfl) (List.all_eq_true.2 (bs_one _)) ?_;
         intro w2 hr2 hl2;
         have hT2 : Hid (Wds w2 w.heap.size 31 tb) := hide (Wds.other (Wds.ext hT1.out (Ext.alloc _ _)) hl2 (by omega));
         have hZ2 : Hid (Rw w2 (w.heap.size + 1) 24 (bs (List.replicate 32 0))) := hide (Rw.other (Rw.ext hZ1.out (Ext.alloc _ _)) hl2 (by omega));
         have hx2 : Ext w w2 := (hx1.trans (Ext.alloc _ _)).laid hl2 hx1.size;
         have hs2 : w.heap.size + 2 ≤ w2.heap.size := by (have := hl2.below.size; simp at this; omega))
      | (at_builtin; refine wpList_cat rfl (.tmp 19) (.tmp 20) rfl (w.heap.size + 2) _ [] ok _ 32 32 rfl rfl HOKL.out.symm (Own.nil _ _) (Rw.rd hr2) hs2 (by simp; rw [HOKL.out]; decide) ?_; intro v3 w3 hown3 hb3; rw [List.nil_append] at hown3;
         have hT3 : Hid (Wds w3 w.heap.size 31 tb) := hide (Wds.below hT2.out hb3 (by omega));
         have hZ3 : Hid (Rw w3 (w.heap.size + 1) 24 (bs (List.replicate 32 0))) := hide (Rw.below hZ2.out hb3 (by omega));
         have hx3 : Ext w w3 := Below.trans hx2 (Below.mono hb3 (by omega));
         have hs3 : w.heap.size + 2 ≤ w3.heap.size := by (have := hb3.size; omega);
         have HO3 := hide hown3; clear hown3))
    have HKF : Hid (∀ j, ok.length + j = 64 → ok ++ List.replicate j 0 = kb) := hide fun j hj => by rw [HKK.out, show j = 32 by have := HOKL.out; omega]
    have HK64 : Hid (ok.length ≤ 64) := hide (by rw [HOKL.out]; decide)
    obtain ⟨B, hB⟩ : ∃ B, B = w.heap.size + 2 := ⟨_, rfl⟩
    obtain ⟨g, hg⟩ : ∃ g, g = w.heap.size := ⟨_, rfl⟩
    rw [← hB] at hb3 HO3 hs3
    rw [← hg] at hT3 hZ3 ⊢
    have hgl : w.heap.size ≤ g ∧ g + 1 < B := by omega
    have HX3 := hide hx3
    clear hB hg hx3 hb3
    go_loopw [7] (fun v wr => ∃ j : Nat, ok.length + j ≤ 64 ∧ Hid (Own wr B v (ok ++ List.replicate j 0)) ∧ Below B w3 wr) (fun v _ => match v with | .slice _ m _ => 1000 - m | _ => 0)
    case atStart => exact ⟨0, by have := HK64.out; omega, hide (by rw [List.replicate_zero, List.append_nil]; exact HO3.out), Below.refl _ _⟩
    clear HO3
    case round =>
      obtain ⟨j, hj, HOj, hbj⟩ := hrel
      obtain ⟨C, c9, rfl, hlc9, hr9⟩ := HOj.out.bytes
      obtain ⟨m, HM⟩ : ∃ m, Hid ((ok ++ List.replicate j (0 : UInt8)).length = m) := ⟨_, hide rfl⟩
      have HML : Hid (ok.length + j = m) := hide (by rw [← HM.out]; simp)
      rw [HM.out] at HOj hlc9 ⊢
      rw [HML.out] at hj
      obtain ⟨wb, hwb⟩ : ∃ x, x = wr := ⟨_, rfl⟩
      subst hwb
      have hsB : B ≤ wb.heap.size := Nat.le_trans hs3 (Below.size hbj)
      by_cases hgo : m < 64
      · have hgo2 : (m : Int) < 64 := by omega
        clear hr9 hlc9
        go_wp2_with (at_builtin; refine wpList_push rfl (.tmp 28) (.tmp 29) rfl B _ _ rfl rfl HOj.out (by decide) (by decide) hsB (by rw [HM.out]; omega) ?_; intro v6 w6 hown6 hb6; have HO6 : Hid (Own w6 B v6 (ok ++ List.replicate (j + 1) 0)) := hide (by rw [List.replicate_succ', ← List.append_assoc]; exact hown6); clear hown6)
        obtain ⟨C6, c6, rfl, _, _⟩ := HO6.out.bytes
        refine ⟨⟨j + 1, by have := HML.out; omega, HO6, Below.trans hbj hb6⟩, ?_⟩
        show 1000 - (ok ++ List.replicate (j + 1) (0 : UInt8)).length < 1000 - m
        rw [List.length_append, List.length_replicate]
        have := HML.out
        omega
      · have hgo2 : ¬ (m : Int) < 64 := by omega
        have hk2 : ok ++ List.replicate j 0 = kb := HKF.out j (by have := HML.out; omega)
        rw [hk2] at hr9
        have HR9 := hide hr9
        have HTb : Hid (Wds wb g 31 tb) := hide (Wds.below hT3.out hbj (by omega))
        have HZb : Hid (Rw wb (g + 1) 24 (bs (List.replicate 32 0))) := hide (Rw.below hZ3.out hbj (by omega))
        have HXb : Hid (Ext w wb) := hide (Below.trans HX3.out (Below.mono hbj (by omega)))
        clear hr9 hk2 HOj
        have hm64 : 64 ≤ m := by omega
        go_wp2
        go_loopw [9, 10, 11] (fun vi vo i wr => ∃ a : Nat, a ≤ 64 ∧ i = .int .i64 (a : Int) ∧ Hid (Own wr wb.heap.size vi (xorB 54 (kb.take a))) ∧ Hid (Own wr wb.heap.size vo (xorB 92 (kb.take a))) ∧ Hid (Apart vi vo) ∧ Hid (Ext wb wr)) (fun _ _ i _ => 64 - (intOf i).toNat)
        case atStart => exact ⟨0, by omega, rfl, hide (Own.nil _ _), hide (Own.nil _ _), hide (.inl rfl), hide (Ext.refl _)⟩
        case round =>
          obtain ⟨a, ha, rfl, HI, HU, HAP, HX⟩ := hrel
          by_cases hla : a < 64
          · obtain ⟨b9, off9, x, rfl, hxa, hcx0⟩ := HR9.out.at (k := a) (by rw [HKL.out]; exact hla)
            have hcx := (Ext.keeps HX.out).cell hcx0
            have HC0 := hide hcx0
            have HXA := hide hxa
            have hla2 : (a : Int) < (m : Int) := by omega
            have hla3 : (a : Int) < 64 := by omega
            have hla4 : a < m := by omega
            have hx2 := x.toNat_lt
            have e1 : bits .xor .u8 (x.toNat : Int) 54 = ((x.toNat ^^^ 54 : Nat) : Int) := u8_xor_nat x.toNat 54 (by omega) (by decide)
            have e2 : bits .xor .u8 (x.toNat : Int) 92 = ((x.toNat ^^^ 92 : Nat) : Int) := u8_xor_nat x.toNat 92 (by omega) (by decide)
            have z1 : x.toNat ^^^ 54 < 256 := Nat.xor_lt_two_pow (n := 8) x.toNat_lt (by decide)
            have z2 : x.toNat ^^^ 92 < 256 := Nat.xor_lt_two_pow (n := 8) x.toNat_lt (by decide)
            have HLI : Hid ((xorB 54 (kb.take a)).length < 140737488355328 ∧ (xorB 92 (kb.take a)).length < 140737488355328) := hide (by simp only [xorB, List.length_map, List.length_take]; omega)
            have hsx := HX.out.size
            clear hcx0 hxa
            go_wp2_with (first
              | (at_builtin; refine wpList_push_at rfl (.tmp 35) (.tmp 41) rfl wb.heap.size _ _ rfl rfl HI.out (by omega) (by omega) hsx HLI.out.1 ?_; intro v6 w6 hown6 hb6 hk6;
                 obtain ⟨hU6, hap6, hap6'⟩ := hk6 _ _ HU.out HAP.out.of_self;
                 have HI6 := hide hown6; have HU6 := hide hU6; have HAP6 := hide hap6'; have HAQ6 := hide hap6;
                 have HX6 : Hid (Ext wb w6) := hide (Below.trans HX.out hb6);
                 have hs6 := HX6.out.size;
                 have hcx6 := (Ext.keeps HX6.out).cell HC0.out;
                 clear hown6 hb6 hk6 hU6 hap6 hap6')
              | (at_builtin; refine wpList_push_at rfl (.tmp 43) (.tmp 49) rfl wb.heap.size _ _ rfl rfl HU6.out (by omega) (by omega) hs6 HLI.out.2 ?_; intro v7 w7 hown7 hb7 hk7;
                 obtain ⟨hI7, hap7, hap7'⟩ := hk7 _ _ HI6.out HAP6.out;
                 have HX7 : Hid (Ext wb w7) := hide (Below.trans HX6.out hb7)))
            refine ⟨⟨a + 1, by omega, by go_num, hide ?_, hide ?_, hide hap7, HX7⟩, by simp [intOf]; omega⟩
            · rw [xorB_next 54 kb a x HXA.out, ← show b8 ((x.toNat ^^^ 54 : Nat) : Int) = x ^^^ 54 from byte_xor x 54 (by decide)]; exact hI7
            · rw [xorB_next 92 kb a x HXA.out, ← show b8 ((x.toNat ^^^ 92 : Nat) : Int) = x ^^^ 92 from byte_xor x 92 (by decide)]; exact hown7
          · have hge2 : ¬ (a : Int) < 64 := by omega
            have ea : a = 64 := by omega
            have hI := HI.out
            have hU := HU.out
            rw [ea, List.take_of_length_le (by rw [HKL.out]; exact Nat.le_refl _)] at hI hU
            have HI2 := hide hI
            have HU2 := hide hU
            have HLX : Hid ((xorB 54 kb).length = 64 ∧ (xorB 92 kb).length = 64) := hide (by simp only [xorB, List.length_map, HKL.out, and_self])
            have hsx := HX.out.size
            clear hI hU HI HU ea hla ha
            go_wp2_with (first
              | (at_builtin; refine wpList_cat_at rfl (.tmp 51) (.tmp 52) rfl wb.heap.size _ _ p B0 np d rfl rfl HNP.out.symm HI2.out ((hP.ext HXb.out).ext HX.out) hsx (by rw [HLX.out.1]; have := HPS.out; omega) ?_; intro v6 w6 hown6 hb6 hk6; rw [HQ1.out] at hown6;
                 obtain ⟨hU6, _, _⟩ := hk6 _ _ HU2.out HAP.out.of_self;
                 have HU6 := hide hU6;
                 have HX6 : Hid (Ext wb w6) := hide (Below.trans HX.out hb6);
                 have HT6 : Hid (Wds w6 g 31 tb) := hide (Wds.ext HTb.out HX6.out);
                 have HZ6 : Hid (Rw w6 (g + 1) 24 (bs (List.replicate 32 0))) := hide (Rw.ext HZb.out HX6.out);
                 obtain ⟨C6, c6, rfl, hlc6, hr6⟩ := Own.bytes hown6;
                 have HR6 := hide hr6; have HLC6 := hide hlc6;
                 clear hown6 hb6 hk6 hU6 hr6 hlc6)
              | ((with_reducible show wpList _ _ _ (⟨some 54, .load _ _, _, _, _, _⟩ :: _) _ _);
                 refine wpList_load_row rfl 31 (.tmp 3) rfl g rfl 31 (us tb).toArray (0, 0) _ HT6.out Tryd.underlying31 rfl (by rw [List.size_toArray, us_length, htb.out]; kernel_rfl) ?_)
              | (go_at_call 47; (with_reducible refine (KR.out C6 c6 q1 _ HR6.out HQ1L.out).mono ?_); rw [HO1.out]; rintro e w7 ⟨v7, rfl, hw7, rfl⟩;
                 have HU7 : Hid (Own w7 wb.heap.size _ (xorB 92 kb)) := hide (HU6.out.ext hw7);
                 have HX7 : Hid (Ext wb w7) := hide (HX6.out.trans hw7);
                 have HT7 : Hid (Wds w7 g 31 tb) := hide (Wds.ext HT6.out hw7);
                 have HZ7 : Hid (Rw w7 (g + 1) 24 (bs (List.replicate 32 0))) := hide (Rw.ext HZ6.out hw7))
              | ((with_reducible show wpList _ _ _ (⟨none, .store _ (.tmp 12) _, _, _, _, _⟩ :: _) _ _);
                 refine wpList_store_rw rfl 24 (.tmp 12) (.tmp 56) rfl _ rfl (bs o1) rfl 24 (bs (List.replicate 32 0)) (heap_alloc_new w7 _) 32 (by kernel_rfl) (by rw [bs_length, HL1.out]) (by rw [bs_length, bs_length, HL1.out]; rfl) (List.all_eq_true.2 (bs_one _)) ?_;
                 intro w8 hr8 hl8;
                 have hw8 : Ext w7 w8 := (Ext.alloc w7 _).laid hl8 (Nat.le_refl _);
                 have HU8 : Hid (Own w8 wb.heap.size _ (xorB 92 kb)) := hide (HU7.out.ext hw8);
                 have HX8 : Hid (Ext wb w8) := hide (HX7.out.trans hw8);
                 have HT8 : Hid (Wds w8 g 31 tb) := hide (Wds.ext HT7.out hw8);
                 have HZ8 : Hid (Rw w8 (g + 1) 24 (bs (List.replicate 32 0))) := hide (Rw.ext HZ7.out hw8);
                 have hs8 := HX8.out.size)
              | (at_builtin; refine wpList_cat rfl (.tmp 57) (.tmp 58) rfl wb.heap.size _ _ o1 _ 32 32 rfl rfl HL1.out.symm HU8.out (Rw.rd hr8) hs8 (by rw [HLX.out.2, HL1.out]; decide) ?_; intro v9 w9 hown9 hb9; rw [HQ2.out] at hown9;
                 have HX9 : Hid (Ext wb w9) := hide (Below.trans HX8.out hb9);
                 have HT9 : Hid (Wds w9 g 31 tb) := hide (Wds.ext HTb.out HX9.out);
                 have HZ9 : Hid (Rw w9 (g + 1) 24 (bs (List.replicate 32 0))) := hide (Rw.ext HZb.out HX9.out);
                 obtain ⟨C9, c10, rfl, hlc10, hr10⟩ := Own.bytes hown9;
                 have HR10 := hide hr10;
                 clear hown9 hb9 hr10 hlc10)
              | ((with_reducible show wpList _ _ _ (⟨some 60, .load _ _, _, _, _, _⟩ :: _) _ _);
                 refine wpList_load_row rfl 31 (.tmp 3) rfl g rfl 31 (us tb).toArray (0, 0) _ HT9.out Tryd.underlying31 rfl (by rw [List.size_toArray, us_length, htb.out]; kernel_rfl) ?_)
              | (go_at_call 47; (with_reducible refine (KR.out C9 c10 q2 _ HR10.out HQ2L.out).mono ?_); rw [HO2.out]; rintro e w10 ⟨v10, rfl, hw10, rfl⟩)
              | ((with_reducible show wpList _ _ _ (⟨none, .store _ (.tmp 6) _, _, _, _, _⟩ :: _) _ _);
                 refine wpList_store_rw rfl 24 (.tmp 6) (.tmp 62) rfl _ rfl (bs o2) rfl 24 (bs (List.replicate 32 0)) (Rw.ext HZ9.out hw10) 32 (by kernel_rfl) (by rw [bs_length, HL2.out]) (by rw [bs_length, bs_length, HL2.out]; rfl) (List.all_eq_true.2 (bs_one _)) ?_;
                 intro w11 hr11 hl11))
            exact ret_rw rfl rfl _ rfl _ _ hr11 32 5 Tryd.underlying24 (by kernel_rfl) (by rw [bs_length, HL2.out]) (Ret.mk (((HXb.out.trans HX9.out).trans hw10).laid hl11 (by omega)) rfl)
  · have hbi : ¬ (64 : Int) < (nk : Int) := by rw [← HNK.out]; omega
    have HK64 : Hid (key.length ≤ 64) := hide (by omega)
    have HKF : Hid (∀ j, key.length + j = 64 → key ++ List.replicate j 0 = kb) := hide fun j hj => by rw [← HKB.out, keyB_small key hbig, show j = 64 - key.length by omega]
    clear hbig hk hp
    go_enter Tryd.func17, Tryd.ntmps17
    go_wp2_with (first
      | (at_builtin; refine wpList_cat rfl (.tmp 22) (.tmp 23) rfl (w.heap.size + 2) _ [] key A nk c rfl rfl HNK.out.symm (Own.nil _ _) ((hA.ext (Ext.alloc _ _)).ext (Ext.alloc _ _)) (by simp) (by simp; have := HK64.out; omega) ?_; intro v3 w3 hown3 hb3; rw [List.nil_append] at hown3;
         have hT3 : Hid (Wds w3 w.heap.size 31 tb) := hide (Wds.below (heap_alloc2_old w _ _) hb3 (by omega));
         have hZ3 : Hid (Rw w3 (w.heap.size + 1) 24 (bs (List.replicate 32 0))) := hide (Rw.below (heap_alloc2_new w _ _) hb3 (by omega));
         have hx3 : Ext w w3 := Below.trans ((Ext.alloc w _).trans (Ext.alloc _ _)) (Below.mono hb3 (by omega));
         have hs3 : w.heap.size + 2 ≤ w3.heap.size := by (have := hb3.size; simpa using this);
         have HO3 := hide hown3; clear hown3))
    obtain ⟨B, hB⟩ : ∃ B, B = w.heap.size + 2 := ⟨_, rfl⟩
    obtain ⟨g, hg⟩ : ∃ g, g = w.heap.size := ⟨_, rfl⟩
    rw [← hB] at hb3 HO3 hs3
    rw [← hg] at hT3 hZ3 ⊢
    have hgl : w.heap.size ≤ g ∧ g + 1 < B := by omega
    have HX3 := hide hx3
    clear hB hg hx3 hb3
    go_loopw [7] (fun v wr => ∃ j : Nat, key.length + j ≤ 64 ∧ Hid (Own wr B v (key ++ List.replicate j 0)) ∧ Below B w3 wr) (fun v _ => match v with | .slice _ m _ => 1000 - m | _ => 0)
    case atStart => exact ⟨0, by have := HK64.out; omega, hide (by rw [List.replicate_zero, List.append_nil]; exact HO3.out), Below.refl _ _⟩
    clear HO3
    case round =>
      obtain ⟨j, hj, HOj, hbj⟩ := hrel
      obtain ⟨C, c9, rfl, hlc9, hr9⟩ := HOj.out.bytes
      obtain ⟨m, HM⟩ : ∃ m, Hid ((key ++ List.replicate j (0 : UInt8)).length = m) := ⟨_, hide rfl⟩
      have HML : Hid (key.length + j = m) := hide (by rw [← HM.out]; simp)
      rw [HM.out] at HOj hlc9 ⊢
      rw [HML.out] at hj
      obtain ⟨wb, hwb⟩ : ∃ x, x = wr := ⟨_, rfl⟩
      subst hwb
      have hsB : B ≤ wb.heap.size := Nat.le_trans hs3 (Below.size hbj)
      by_cases hgo : m < 64
      · have hgo2 : (m : Int) < 64 := by omega
        clear hr9 hlc9
        go_wp2_with (at_builtin; refine wpList_push rfl (.tmp 28) (.tmp 29) rfl B _ _ rfl rfl HOj.out (by decide) (by decide) hsB (by rw [HM.out]; omega) ?_; intro v6 w6 hown6 hb6; have HO6 : Hid (Own w6 B v6 (key ++ List.replicate (j + 1) 0)) := hide (by rw [List.replicate_succ', ← List.append_assoc]; exact hown6); clear hown6)
        obtain ⟨C6, c6, rfl, _, _⟩ := HO6.out.bytes
        refine ⟨⟨j + 1, by have := HML.out; omega, HO6, Below.trans hbj hb6⟩, ?_⟩
        show 1000 - (key ++ List.replicate (j + 1) (0 : UInt8)).length < 1000 - m
        rw [List.length_append, List.length_replicate]
        have := HML.out
        omega
      · have hgo2 : ¬ (m : Int) < 64 := by omega
        have hk2 : key ++ List.replicate j 0 = kb := HKF.out j (by have := HML.out; omega)
        rw [hk2] at hr9
        have HR9 := hide hr9
        have HTb : Hid (Wds wb g 31 tb) := hide (Wds.below hT3.out hbj (by omega))
        have HZb : Hid (Rw wb (g + 1) 24 (bs (List.replicate 32 0))) := hide (Rw.below hZ3.out hbj (by omega))
        have HXb : Hid (Ext w wb) := hide (Below.trans HX3.out (Below.mono hbj (by omega)))
        clear hr9 hk2 HOj
        have hm64 : 64 ≤ m := by omega
        go_wp2
        go_loopw [9, 10, 11] (fun vi vo i wr => ∃ a : Nat, a ≤ 64 ∧ i = .int .i64 (a : Int) ∧ Hid (Own wr wb.heap.size vi (xorB 54 (kb.take a))) ∧ Hid (Own wr wb.heap.size vo (xorB 92 (kb.take a))) ∧ Hid (Apart vi vo) ∧ Hid (Ext wb wr)) (fun _ _ i _ => 64 - (intOf i).toNat)
        case atStart => exact ⟨0, by omega, rfl, hide (Own.nil _ _), hide (Own.nil _ _), hide (.inl rfl), hide (Ext.refl _)⟩
        case round =>
          obtain ⟨a, ha, rfl, HI, HU, HAP, HX⟩ := hrel
          by_cases hla : a < 64
          · obtain ⟨b9, off9, x, rfl, hxa, hcx0⟩ := HR9.out.at (k := a) (by rw [HKL.out]; exact hla)
            have hcx := (Ext.keeps HX.out).cell hcx0
            have HC0 := hide hcx0
            have HXA := hide hxa
            have hla2 : (a : Int) < (m : Int) := by omega
            have hla3 : (a : Int) < 64 := by omega
            have hla4 : a < m := by omega
            have hx2 := x.toNat_lt
            have e1 : bits .xor .u8 (x.toNat : Int) 54 = ((x.toNat ^^^ 54 : Nat) : Int) := u8_xor_nat x.toNat 54 (by omega) (by decide)
            have e2 : bits .xor .u8 (x.toNat : Int) 92 = ((x.toNat ^^^ 92 : Nat) : Int) := u8_xor_nat x.toNat 92 (by omega) (by decide)
            have z1 : x.toNat ^^^ 54 < 256 := Nat.xor_lt_two_pow (n := 8) x.toNat_lt (by decide)
            have z2 : x.toNat ^^^ 92 < 256 := Nat.xor_lt_two_pow (n := 8) x.toNat_lt (by decide)
            have HLI : Hid ((xorB 54 (kb.take a)).length < 140737488355328 ∧ (xorB 92 (kb.take a)).length < 140737488355328) := hide (by simp only [xorB, List.length_map, List.length_take]; omega)
            have hsx := HX.out.size
            clear hcx0 hxa
            go_wp2_with (first
              | (at_builtin; refine wpList_push_at rfl (.tmp 35) (.tmp 41) rfl wb.heap.size _ _ rfl rfl HI.out (by omega) (by omega) hsx HLI.out.1 ?_; intro v6 w6 hown6 hb6 hk6;
                 obtain ⟨hU6, hap6, hap6'⟩ := hk6 _ _ HU.out HAP.out.of_self;
                 have HI6 := hide hown6; have HU6 := hide hU6; have HAP6 := hide hap6'; have HAQ6 := hide hap6;
                 have HX6 : Hid (Ext wb w6) := hide (Below.trans HX.out hb6);
                 have hs6 := HX6.out.size;
                 have hcx6 := (Ext.keeps HX6.out).cell HC0.out;
                 clear hown6 hb6 hk6 hU6 hap6 hap6')
              | (at_builtin; refine wpList_push_at rfl (.tmp 43) (.tmp 49) rfl wb.heap.size _ _ rfl rfl HU6.out (by omega) (by omega) hs6 HLI.out.2 ?_; intro v7 w7 hown7 hb7 hk7;
                 obtain ⟨hI7, hap7, hap7'⟩ := hk7 _ _ HI6.out HAP6.out;
                 have HX7 : Hid (Ext wb w7) := hide (Below.trans HX6.out hb7)))
            refine ⟨⟨a + 1, by omega, by go_num, hide ?_, hide ?_, hide hap7, HX7⟩, by simp [intOf]; omega⟩
            · rw [xorB_next 54 kb a x HXA.out, ← show b8 ((x.toNat ^^^ 54 : Nat) : Int) = x ^^^ 54 from byte_xor x 54 (by decide)]; exact hI7
            · rw [xorB_next 92 kb a x HXA.out, ← show b8 ((x.toNat ^^^ 92 : Nat) : Int) = x ^^^ 92 from byte_xor x 92 (by decide)]; exact hown7
          · have hge2 : ¬ (a : Int) < 64 := by omega
            have ea : a = 64 := by omega
            have hI := HI.out
            have hU := HU.out
            rw [ea, List.take_of_length_le (by rw [HKL.out]; exact Nat.le_refl _)] at hI hU
            have HI2 := hide hI
            have HU2 := hide hU
            have HLX : Hid ((xorB 54 kb).length = 64 ∧ (xorB 92 kb).length = 64) := hide (by simp only [xorB, List.length_map, HKL.out, and_self])
            have hsx := HX.out.size
            clear hI hU HI HU ea hla ha
            go_wp2_with (first
              | (at_builtin; refine wpList_cat_at rfl (.tmp 51) (.tmp 52) rfl wb.heap.size _ _ p B0 np d rfl rfl HNP.out.symm HI2.out ((hP.ext HXb.out).ext HX.out) hsx (by rw [HLX.out.1]; have := HPS.out; omega) ?_; intro v6 w6 hown6 hb6 hk6; rw [HQ1.out] at hown6;
                 obtain ⟨hU6, _, _⟩ := hk6 _ _ HU2.out HAP.out.of_self;
                 have HU6 := hide hU6;
                 have HX6 : Hid (Ext wb w6) := hide (Below.trans HX.out hb6);
                 have HT6 : Hid (Wds w6 g 31 tb) := hide (Wds.ext HTb.out HX6.out);
                 have HZ6 : Hid (Rw w6 (g + 1) 24 (bs (List.replicate 32 0))) := hide (Rw.ext HZb.out HX6.out);
                 obtain ⟨C6, c6, rfl, hlc6, hr6⟩ := Own.bytes hown6;
                 have HR6 := hide hr6; have HLC6 := hide hlc6;
                 clear hown6 hb6 hk6 hU6 hr6 hlc6)
              | ((with_reducible show wpList _ _ _ (⟨some 54, .load _ _, _, _, _, _⟩ :: _) _ _);
                 refine wpList_load_row rfl 31 (.tmp 3) rfl g rfl 31 (us tb).toArray (0, 0) _ HT6.out Tryd.underlying31 rfl (by rw [List.size_toArray, us_length, htb.out]; kernel_rfl) ?_)
              | (go_at_call 47; (with_reducible refine (KR.out C6 c6 q1 _ HR6.out HQ1L.out).mono ?_); rw [HO1.out]; rintro e w7 ⟨v7, rfl, hw7, rfl⟩;
                 have HU7 : Hid (Own w7 wb.heap.size _ (xorB 92 kb)) := hide (HU6.out.ext hw7);
                 have HX7 : Hid (Ext wb w7) := hide (HX6.out.trans hw7);
                 have HT7 : Hid (Wds w7 g 31 tb) := hide (Wds.ext HT6.out hw7);
                 have HZ7 : Hid (Rw w7 (g + 1) 24 (bs (List.replicate 32 0))) := hide (Rw.ext HZ6.out hw7))
              | ((with_reducible show wpList _ _ _ (⟨none, .store _ (.tmp 12) _, _, _, _, _⟩ :: _) _ _);
                 refine wpList_store_rw rfl 24 (.tmp 12) (.tmp 56) rfl _ rfl (bs o1) rfl 24 (bs (List.replicate 32 0)) (heap_alloc_new w7 _) 32 (by kernel_rfl) (by rw [bs_length, HL1.out]) (by rw [bs_length, bs_length, HL1.out]; rfl) (List.all_eq_true.2 (bs_one _)) ?_;
                 intro w8 hr8 hl8;
                 have hw8 : Ext w7 w8 := (Ext.alloc w7 _).laid hl8 (Nat.le_refl _);
                 have HU8 : Hid (Own w8 wb.heap.size _ (xorB 92 kb)) := hide (HU7.out.ext hw8);
                 have HX8 : Hid (Ext wb w8) := hide (HX7.out.trans hw8);
                 have HT8 : Hid (Wds w8 g 31 tb) := hide (Wds.ext HT7.out hw8);
                 have HZ8 : Hid (Rw w8 (g + 1) 24 (bs (List.replicate 32 0))) := hide (Rw.ext HZ7.out hw8);
                 have hs8 := HX8.out.size)
              | (at_builtin; refine wpList_cat rfl (.tmp 57) (.tmp 58) rfl wb.heap.size _ _ o1 _ 32 32 rfl rfl HL1.out.symm HU8.out (Rw.rd hr8) hs8 (by rw [HLX.out.2, HL1.out]; decide) ?_; intro v9 w9 hown9 hb9; rw [HQ2.out] at hown9;
                 have HX9 : Hid (Ext wb w9) := hide (Below.trans HX8.out hb9);
                 have HT9 : Hid (Wds w9 g 31 tb) := hide (Wds.ext HTb.out HX9.out);
                 have HZ9 : Hid (Rw w9 (g + 1) 24 (bs (List.replicate 32 0))) := hide (Rw.ext HZb.out HX9.out);
                 obtain ⟨C9, c10, rfl, hlc10, hr10⟩ := Own.bytes hown9;
                 have HR10 := hide hr10;
                 clear hown9 hb9 hr10 hlc10)
              | ((with_reducible show wpList _ _ _ (⟨some 60, .load _ _, _, _, _, _⟩ :: _) _ _);
                 refine wpList_load_row rfl 31 (.tmp 3) rfl g rfl 31 (us tb).toArray (0, 0) _ HT9.out Tryd.underlying31 rfl (by rw [List.size_toArray, us_length, htb.out]; kernel_rfl) ?_)
              | (go_at_call 47; (with_reducible refine (KR.out C9 c10 q2 _ HR10.out HQ2L.out).mono ?_); rw [HO2.out]; rintro e w10 ⟨v10, rfl, hw10, rfl⟩)
              | ((with_reducible show wpList _ _ _ (⟨none, .store _ (.tmp 6) _, _, _, _, _⟩ :: _) _ _);
                 refine wpList_store_rw rfl 24 (.tmp 6) (.tmp 62) rfl _ rfl (bs o2) rfl 24 (bs (List.replicate 32 0)) (Rw.ext HZ9.out hw10) 32 (by kernel_rfl) (by rw [bs_length, HL2.out]) (by rw [bs_length, bs_length, HL2.out]; rfl) (List.all_eq_true.2 (bs_one _)) ?_;
                 intro w11 hr11 hl11))
            exact ret_rw rfl rfl _ rfl _ _ hr11 32 5 Tryd.underlying24 (by kernel_rfl) (by rw [bs_length, HL2.out]) (Ret.mk (((HXb.out.trans HX9.out).trans hw10).laid hl11 (by omega)) rfl)
end Go.Proofs.YtmanflfanoddgaaDoor
