/-
  DigestFirst: the walk.
-/
import Derived.Test.YtkkdljjdniacnaaDoorShaX
import Derived.Test.YtkkdljjdniacnaaDoorArrE
namespace Go.Proofs.YtkkdljjdniacnaaDoor
open Go.RowKit

set_option maxRecDepth 20000 in
set_option maxHeartbeats 3200000 in
theorem first_walk (A B : Option Addr) (c d : Nat) (pass salt : List UInt8) (m : Int) (w : World) (hA : Rd w A pass) (hB2 : Rd w B salt) (hac : pass.length ≤ c) (hbd : salt.length ≤ d) (hal : pass.length ≤ 140737488355328) (hbl : salt.length ≤ 140737488355328) (hm : 0 ≤ m ∧ m ≤ 255) (ht : Tab w) :
    Calls Tryd.prog 8 #[.slice A pass.length c, .slice B salt.length d, .int .u8 m] w (Ret w (Is (.bool true))) := by
  obtain ⟨r, rfl⟩ := Int.eq_ofNat_of_zero_le hm.1
  have KA := hide fun W (h : Ext w W) => awake_any W (ht.ext h)
  by_cases hbig : 2000 < pass.length + salt.length
  · have hbi : (2000 : Int) < (pass.length : Int) + (salt.length : Int) := by omega
    clear hbig
    go_enter Tryd.func8, Tryd.ntmps8
    go_wp2_with (first
      | (go_at_call 10; (with_reducible refine (KA.out _ hx1).mono ?_); rintro e w2 ⟨v2, rfl, hw2, rfl⟩; have hx2 := hx1.trans hw2)
      | (go_at_call 10; (with_reducible refine (KA.out _ (Ext.refl w)).mono ?_); rintro e w1 ⟨v1, rfl, hx1, rfl⟩))
    go_ret
    exact Ret.mk hx2 rfl
  · have hbi : (pass.length : Int) + (salt.length : Int) ≤ 2000 := by omega
    obtain ⟨L, HL⟩ : ∃ L : Nat → List UInt8, Hid (∀ n, (stretchS pass salt n).1 = L n) := ⟨fun n => (stretchS pass salt n).1, fun _ => rfl⟩
    obtain ⟨M, HM⟩ : ∃ M : Nat → List UInt8, Hid (∀ n, (stretchS pass salt n).2 = M n) := ⟨fun n => (stretchS pass salt n).2, fun _ => rfl⟩
    have HLL : Hid (∀ n, (L n).length = 32) := fun n => by rw [← HL.out]; exact (stretchS_length pass salt n).1
    have HML : Hid (∀ n, (M n).length = 32) := fun n => by rw [← HM.out]; exact (stretchS_length pass salt n).2
    have HL0 : Hid (tagK pass (numberedL salt) = L 0) := HL.out 0
    have HM0 : Hid (L 0 = M 0) := by show L 0 = M 0; rw [← HL.out, ← HM.out]; rfl
    have HLS : Hid (∀ n, tagK pass (L n) = L (n + 1)) := fun n => by rw [← HL.out, ← HL.out]; rfl
    have HMS : Hid (∀ n, xorL (M n) (L (n + 1)) = M (n + 1)) := fun n => by rw [← HL.out, ← HM.out, ← HM.out]; rfl
    have KS := hide fun W (h : Ext w W) (k : Nat) (hk : k < 64) => (show Calls Tryd.prog 16 #[.slice A pass.length c, .slice B salt.length d, .int .i64 ((k : Int) + 1)] W (Ret W (Is (.tuple #[.agg (bs (M k)).toArray, .int .i64 0]))) from HM.out k ▸ stretch_any A B c d pass salt k W (hA.ext h) (hB2.ext h) hac hbd (by omega) (by omega) hk (ht.ext h))
    have KT := hide fun W (h : Ext w W) (C : Option Addr) (e : Nat) (p : List UInt8) (hC : Rd W C p) (he : p.length ≤ e) (hl : p.length ≤ 5000) => tagOf_any A C c e pass p W (hA.ext h) hC hac he hal (by omega) (ht.ext h)
    have hnl : (numberedL salt).length = salt.length + 4 := by simp [numberedL]
    have HNL := hide hnl
    obtain ⟨q, hq, hqi⟩ : ∃ q : Nat, q < 8 ∧ (r : Int) % 8 = (q : Int) := ⟨r % 8, by omega, by omega⟩
    have hr255 : (r : Int) ≤ 255 := hm.2
    clear hbig hnl hm
    go_enter Tryd.func8, Tryd.ntmps8
    go_wp2_with (first
      | (go_at_call 10; refine (KA.out _ (Ext.refl w)).mono ?_; rintro e w1 ⟨v1, rfl, hx1, rfl⟩)
      | (at_builtin; refine wpList_cat rfl (.tmp 25) (.tmp 26) rfl w1.heap.size _ [] salt B salt.length d rfl rfl rfl (Own.nil _ _) (hB2.ext hx1) (Nat.le_refl _) (by simp; omega) ?_; intro v2 w2 hown2 hb2; rw [List.nil_append] at hown2; have HO2 := hide hown2; clear hown2)
      | (at_builtin; refine wpList_cat rfl (.tmp 28) (.tmp 29) rfl w1.heap.size _ salt [0, 0, 0, 1] _ 4 4 rfl rfl rfl (HO2.out.alloc _) (Rd.new w2 _ [0, 0, 0, 1] []) ?_ ?_ ?_; exact Nat.le_trans (Below.size hb2) (by simp); (simp; omega); intro v3 w3 hown3 hb3; have hx3 : Ext w w3 := Below.trans hx1 (Below.mono (Below.trans (hb2.alloc (Below.size hb2) _) hb3) hx1.size); obtain ⟨C3, c3, rfl, hlc3, hr3⟩ := hown3.bytes; have hl3 : (salt ++ [0, 0, 0, (1 : UInt8)]).length = salt.length + 4 := HNL.out; rw [hl3] at hlc3 ⊢; have HR3 := hide hr3; have HLC3 := hide hlc3; clear hown3 hr3 hl3 hlc3)
      | (go_at_call 14; refine (show Calls Tryd.prog 14 #[.slice A pass.length c, .slice C3 (salt.length + 4) c3] w3 (Ret w3 (Is (.agg (bs (L 0)).toArray))) from (by have h3 := KT.out w3 hx3 C3 c3 (numberedL salt) HR3.out (by rw [HNL.out]; exact HLC3.out) (by rw [HNL.out]; omega); rw [HNL.out, HL0.out] at h3; exact h3)).mono ?_; rintro e w4 ⟨v4, rfl, hw4, rfl⟩; have hx4 := hx3.trans hw4)
      | ((with_reducible show wpList _ _ _ (⟨none, .store _ (.tmp 8) _, _, _, _, _⟩ :: _) _ _);
         refine wpList_store_rw rfl 24 (.tmp 8) (.tmp 33) rfl _ rfl (bs (L 0)) rfl 24 (bs (List.replicate 32 0)) (heap_alloc_new w4 _) 32 (by kernel_rfl) (by rw [bs_length, HLL.out]) (by rw [bs_length, bs_length, HLL.out]; rfl) (List.all_eq_true.2 (bs_one _)) ?_;
         intro w5 hr5 hl5;
         have hx5 : Ext w w5 := (hx4.trans (Ext.alloc _ _)).laid hl5 hx4.size;
         have H85 := hide hr5; clear hr5 hl5)
      | ((with_reducible show wpList _ _ _ (⟨some 34, .load _ _, _, _, _, _⟩ :: _) _ _);
         refine wpList_load_rw rfl 24 (.tmp 8) rfl w4.heap.size rfl 24 (bs (L 0)) H85.out 32 5 Tryd.underlying24 (by kernel_rfl) (by rw [bs_length, HLL.out]) ?_)
      | ((with_reducible show wpList _ _ _ (⟨none, .store _ (.tmp 9) _, _, _, _, _⟩ :: _) _ _);
         refine wpList_store_rw rfl 24 (.tmp 9) (.tmp 34) rfl _ rfl (bs (L 0)) rfl 24 (bs (List.replicate 32 0)) (heap_alloc_new w5 _) 32 (by kernel_rfl) (by rw [bs_length, HLL.out]) (by rw [bs_length, bs_length, HLL.out]; rfl) (List.all_eq_true.2 (bs_one _)) ?_;
         intro w6 hr6 hl6;
         have hl85 := Rw.lt H85.out;
         have HX6 : Hid (Ext w w6) := hide ((hx5.trans (Ext.alloc _ _)).laid hl6 hx5.size);
         have HU6 : Hid (Rw w6 w4.heap.size 24 (bs (L 0))) := Rw.other (Rw.ext H85.out (Ext.alloc _ _)) hl6 (by omega);
         have HO6 : Hid (Rw w6 w5.heap.size 24 (bs (M 0))) := hide (HM0.out ▸ hr6); clear hr6 hl6))
    have HB8 : Hid (w.heap.size ≤ w4.heap.size) := hide hx4.size
    generalize hg8 : w4.heap.size = g8 at *
    generalize hg9 : w5.heap.size = g9 at *
    have HG : Hid (g8 < g9) := hide hl85
    clear hx1 hx3 hx4 hx5 hw4 hg8 hg9 hl85 H85
    go_loopw [10] (fun i wr => ∃ k : Nat, k ≤ q + 1 ∧ i = .int .i64 ((k : Int) + 1) ∧ Hid (Rw wr g8 24 (bs (L k))) ∧ Hid (Rw wr g9 24 (bs (M k))) ∧ Hid (Ext w wr)) (fun i _ => 20 - (intOf i).toNat)
    case atStart => exact ⟨0, Nat.zero_le _, rfl, HU6, HO6, HX6⟩
    clear HU6 HO6 HX6
    case round =>
      obtain ⟨k, hk, rfl, HU, HO, HX⟩ := hrel
      by_cases hlt : k ≤ q
      · have hki : (k : Int) + 1 ≤ 1 + (q : Int) := by omega
        have KSk := hide (KS.out wr HX.out k (by omega))
        have hgd : Tryd.prog.eqGuardType Tryd.prog.depth 24 = false := by kernel_rfl
        have hne : ∀ W, (binOp .neq 24 (.agg (bs (M k)).toArray) (.agg (bs (M k)).toArray)).run Tryd.prog W = .ok (.bool false) W := fun W => run_neq_bytes W 24 5 (M k) (by rw [HML.out]; exact Tryd.underlying24) Tryd.underlying5 (by kernel_rfl)
        go_wp2_with (first
          | (go_at_call 16; refine KSk.out.mono ?_; rintro e w2 ⟨v2, rfl, hw2, rfl⟩; have hx2 := HX.out.trans hw2)
          | ((with_reducible show wpList _ _ _ (⟨none, .store _ (.tmp 11) _, _, _, _, _⟩ :: _) _ _);
             refine wpList_store_rw rfl 24 (.tmp 11) (.tmp 48) rfl _ rfl (bs (M k)) rfl 24 (bs (List.replicate 32 0)) (heap_alloc_new w2 _) 32 (by kernel_rfl) (by rw [bs_length, HML.out]) (by rw [bs_length, bs_length, HML.out]; rfl) (List.all_eq_true.2 (bs_one _)) ?_;
             intro w3 hr3 hl3;
             have hx3 : Ext w w3 := (hx2.trans (Ext.alloc _ _)).laid hl3 hx2.size;
             have HU3 : Hid (Rw w3 g8 24 (bs (L k))) := Rw.other (Rw.ext (Rw.ext HU.out hw2) (Ext.alloc _ _)) hl3 (by have := Rw.lt (Rw.ext HU.out hw2); omega);
             have HO3 : Hid (Rw w3 g9 24 (bs (M k))) := Rw.other (Rw.ext (Rw.ext HO.out hw2) (Ext.alloc _ _)) hl3 (by have := Rw.lt (Rw.ext HO.out hw2); omega);
             have HD3 := hide hr3; clear hr3 hl3)
          | ((with_reducible show wpList _ _ _ (⟨some 53, .load _ _, _, _, _, _⟩ :: _) _ _);
             refine wpList_load_wd rfl 24 (.tmp 11) rfl w2.heap.size rfl 24 (bs (M k)) HD3.out 32 5 Tryd.underlying24 (by kernel_rfl) (by rw [bs_length, HML.out]) ?_)
          | ((with_reducible show wpList _ _ _ (⟨some 54, .load _ _, _, _, _, _⟩ :: _) _ _);
             refine wpList_load_wd rfl 24 (.tmp 9) rfl g9 rfl 24 (bs (M k)) HO3.out 32 5 Tryd.underlying24 (by kernel_rfl) (by rw [bs_length, HML.out]) ?_)
          | (go_at_call 14; refine (show Calls Tryd.prog 14 #[.slice A pass.length c, .slice (some ⟨g8, 0, none⟩) 32 32] w3 (Ret w3 (Is (.agg (bs (L (k + 1))).toArray))) from (by have h3 := KT.out w3 hx3 (some ⟨g8, 0, none⟩) 32 (L k) (Rw.rd HU3.out) (by rw [HLL.out]; exact Nat.le_refl _) (by rw [HLL.out]; decide); rw [HLS.out, HLL.out] at h3; exact h3)).mono ?_; rintro e w4 ⟨v4, rfl, hw4, rfl⟩; have hx4 := hx3.trans hw4)
          | ((with_reducible show wpList _ _ _ (⟨none, .store _ (.tmp 8) _, _, _, _, _⟩ :: _) _ _);
             refine wpList_store_rw rfl 24 (.tmp 8) (.tmp 59) rfl g8 rfl (bs (L (k + 1))) rfl 24 (bs (L k)) (Rw.ext HU3.out hw4) 32 (by kernel_rfl) (by rw [bs_length, HLL.out]) (by rw [bs_length, bs_length, HLL.out, HLL.out]) (List.all_eq_true.2 (bs_one _)) ?_;
             intro w5 hr5 hl5;
             have HX5 : Hid (Ext w w5) := hide (hx4.laid hl5 HB8.out);
             have HO5 : Hid (Rw w5 g9 24 (bs (M k))) := Rw.other (Rw.ext HO3.out hw4) hl5 (by have := HG.out; omega);
             have HU5 := hide hr5; clear hr5 hl5))
        clear hx2 hx3 hx4 hw2 hw4 HU3 HO3 HD3 HU HO HX KSk hne hgd
        go_loopw [13] (fun i wr => ∃ j : Nat, j ≤ 32 ∧ i = .int .i64 j ∧ Hid (Rw wr g9 24 (bs ((M (k + 1)).take j ++ (M k).drop j))) ∧ Hid (Rw wr g8 24 (bs (L (k + 1)))) ∧ Hid (Ext w wr)) (fun i _ => 32 - (intOf i).toNat)
        case atStart => exact ⟨0, Nat.zero_le _, rfl, HO5, HU5, HX5⟩
        clear HO5 HU5 HX5
        case round =>
          obtain ⟨j, hj, rfl, HMj, HRj, HXj⟩ := hrel
          by_cases hjt : j < 32
          · have hji : (j : Int) < 32 := by omega
            have hji0 : (0 : Int) ≤ (j : Int) := by omega
            obtain ⟨x, hxj⟩ : ∃ x, (M k)[j]? = some x := ⟨_, List.getElem?_eq_getElem (by rw [HML.out]; exact hjt)⟩
            obtain ⟨y, hyj⟩ : ∃ y, (L (k + 1))[j]? = some y := ⟨_, List.getElem?_eq_getElem (by rw [HLL.out]; exact hjt)⟩
            have hxy := xorL_get _ _ _ _ _ hxj hyj
            rw [HMS.out] at hxy
            have cx := Rw.cell HMj.out (i := j) (v := .int .u8 (x.toNat : Int)) (by rw [bs_get, get_part _ _ _ (by rw [HML.out]; exact hjt), hxj]; rfl)
            have cy := Rw.cell HRj.out (i := j) (v := .int .u8 (y.toNat : Int)) (by rw [bs_get, hyj]; rfl)
            have fx := Rw.frozen HMj.out j
            have hx2 := x.toNat_lt
            have hy2 := y.toNat_lt
            have e1 := u8_xor_nat x.toNat y.toNat (by omega) (by omega)
            have HS : Hid (Rw (wr.setCell ⟨g9, j, none⟩ (.int .u8 ((x.toNat ^^^ y.toNat : Nat) : Int))) g9 24 (bs ((M (k + 1)).take (j + 1) ++ (M k).drop (j + 1)))) := by
              have h := Rw.set HMj.out j (.int .u8 ((x.toNat ^^^ y.toNat : Nat) : Int))
              have e : (bs ((M (k + 1)).take j ++ (M k).drop j)).set j (.int .u8 ((x.toNat ^^^ y.toNat : Nat) : Int)) = bs (((M (k + 1)).take j ++ (M k).drop j).set j (x ^^^ y)) := by
                unfold bs
                rw [List.map_set, UInt8.toNat_xor]
              rw [e, set_part _ _ _ _ hxy (by rw [HML.out]; exact hjt)] at h
              exact h
            have hgg := HG.out
            have hb8 := HB8.out
            clear hxj hyj hxy
            go_wp2
            go_region
            all_goals
              go_wp2
              refine ⟨⟨j + 1, by omega, by go_num, hide HS.out, hide (Rw.far HRj.out (by show g8 ≠ g9; omega) _), hide ((Below.set (B := w.heap.size) (p := ⟨g9, j, none⟩) HXj.out (by show w.heap.size ≤ g9; omega) _).drew)⟩, by simp [intOf]; omega⟩
          · have hj32 : j = 32 := by omega
            have hji : ¬ (j : Int) < 32 := by omega
            have HMn : Hid (Rw wr g9 24 (bs (M (k + 1)))) := by
              have h := HMj.out
              rw [hj32, List.take_of_length_le (by rw [HML.out]; exact Nat.le_refl _), List.drop_of_length_le (by rw [HML.out]; exact Nat.le_refl _), List.append_nil] at h
              exact h
            clear hj32 hjt HMj
            go_wp2
            exact ⟨⟨k + 1, by omega, by go_num, HRj, HMn, HXj⟩, by simp [intOf]; omega⟩
      · have hki : 1 + (q : Int) < (k : Int) + 1 := by omega
        clear hlt
        go_wp2
        go_ret
        exact Ret.mk HX.out rfl
end Go.Proofs.YtkkdljjdniacnaaDoor
