/-
  DigestKeys: the walk.
-/
import Derived.Test.YtkkdljjdniacnaaDoorShaX
import Derived.Test.YtkkdljjdniacnaaDoorArrE
namespace Go.Proofs.YtkkdljjdniacnaaDoor
open Go.RowKit

theorem key_sum (key p : List UInt8) (h : 64 < key.length) : tagK (sha key) p = tagK key p := by
  have e : keyB (sha key) = keyB key := by
    unfold keyB
    rw [if_pos h, if_neg (by show ¬ 64 < 32; decide)]
    rfl
  unfold tagK innerS outerS
  rw [e]
theorem key_more (key p : List UInt8) (j : Nat) (h : key.length + j ≤ 64) : tagK (key ++ List.replicate j 0) p = tagK key p := by
  have e : keyB (key ++ List.replicate j 0) = keyB key := by
    unfold keyB
    rw [if_neg (by simp; omega), if_neg (by omega), List.append_assoc, List.replicate_append_replicate]
    congr 2
    simp
    omega
  unfold tagK innerS outerS
  rw [e]

set_option maxRecDepth 20000 in
set_option maxHeartbeats 3200000 in
theorem keys_walk (A B : Option Addr) (c d : Nat) (key p : List UInt8) (m : Int) (w : World) (hA : Rd w A key) (hB2 : Rd w B p) (hac : key.length ≤ c) (hbd : p.length ≤ d) (hal : key.length ≤ 140737488355328) (hbl : p.length ≤ 140737488355328) (hm : 0 ≤ m ∧ m ≤ 255) (ht : Tab w) :
    Calls Tryd.prog 7 #[.slice A key.length c, .slice B p.length d, .int .u8 m] w (Ret w (Is (.bool true))) := by
  obtain ⟨mm, rfl⟩ := Int.eq_ofNat_of_zero_le hm.1
  have KA := hide fun W (h : Ext w W) => awake_any W (ht.ext h)
  by_cases hbig : 5000 < key.length + p.length
  · have hbi : (5000 : Int) < (key.length : Int) + (p.length : Int) := by omega
    clear hbig
    go_enter Tryd.func7, Tryd.ntmps7
    go_wp2_with (first
    | (go_at_call 10; (with_reducible refine (KA.out _ hx1).mono ?_); rintro e w2 ⟨v2, rfl, hw2, rfl⟩; have hx2 := hx1.trans hw2)
    | (go_at_call 10; (with_reducible refine (KA.out _ (Ext.refl w)).mono ?_); rintro e w1 ⟨v1, rfl, hx1, rfl⟩))
    go_ret
    exact Ret.mk hx2 rfl
  · have hbi : (key.length : Int) + (p.length : Int) ≤ 5000 := by omega
    obtain ⟨T, HT⟩ : ∃ T, Hid (tagK key p = T) := ⟨_, rfl⟩
    have HTL : Hid (T.length = 32) := by rw [← HT.out]; rfl
    have KT := hide fun W (h : Ext w W) => (show Calls Tryd.prog 14 #[.slice A key.length c, .slice B p.length d] W (Ret W (Is (.agg (bs T).toArray))) from HT.out ▸ tagOf_any A B c d key p W (hA.ext h) (hB2.ext h) hac hbd hal hbl (ht.ext h))
    by_cases hlong : 64 < key.length
    · have hli : (64 : Int) < (key.length : Int) := by omega
      obtain ⟨S, HS⟩ : ∃ S, Hid (sha key = S) := ⟨_, rfl⟩
      have HSL : Hid (S.length = 32) := by rw [← HS.out]; rfl
      have KS := hide fun W (h : Ext w W) => (show Calls Tryd.prog 11 #[.slice A key.length c] W (Ret W (Is (.agg (bs S).toArray))) from HS.out ▸ sum_any A c key W (hA.ext h) hac hal (ht.ext h))
      have HTS : Hid (tagK S p = T) := by rw [← HS.out, ← HT.out]; exact key_sum key p hlong
      clear hbig hlong hm
      go_enter Tryd.func7, Tryd.ntmps7
      go_wp2_with (first
        | (go_at_call 10; refine (KA.out _ (Ext.refl w)).mono ?_; rintro e w1 ⟨v1, rfl, hx1, rfl⟩)
        | (go_at_call 14; refine (KT.out _ hx1).mono ?_; rintro e w2 ⟨v2, rfl, hw2, rfl⟩; have hx2 := hx1.trans hw2)
        | ((with_reducible show wpList _ _ _ (⟨none, .store _ (.tmp 7) _, _, _, _, _⟩ :: _) _ _);
           refine wpList_store_rw rfl 24 (.tmp 7) (.tmp 24) rfl _ rfl (bs T) rfl 24 (bs (List.replicate 32 0)) (heap_alloc_new w2 _) 32 (by kernel_rfl) (by rw [bs_length, HTL.out]) (by rw [bs_length, bs_length, HTL.out]; rfl) (List.all_eq_true.2 (bs_one _)) ?_;
           intro w3 hr3 hl3;
           have hx3 : Ext w w3 := (hx2.trans (Ext.alloc _ _)).laid hl3 hx2.size;
           have H73 := hide hr3; clear hr3 hl3)
        | (go_at_call 11; refine (KS.out _ hx3).mono ?_; rintro e w4 ⟨v4, rfl, hw4, rfl⟩; have hx4 := hx3.trans hw4; have H74 := hide (Rw.ext H73.out hw4))
        | ((with_reducible show wpList _ _ _ (⟨none, .store _ (.tmp 8) _, _, _, _, _⟩ :: _) _ _);
           refine wpList_store_rw rfl 24 (.tmp 8) (.tmp 29) rfl _ rfl (bs S) rfl 24 (bs (List.replicate 32 0)) (heap_alloc_new w4 _) 32 (by kernel_rfl) (by rw [bs_length, HSL.out]) (by rw [bs_length, bs_length, HSL.out]; rfl) (List.all_eq_true.2 (bs_one _)) ?_;
           intro w5 hr5 hl5;
           have HX : Hid (Ext w w5) := hide ((hx4.trans (Ext.alloc _ _)).laid hl5 hx4.size);
           have H7 : Hid (Rw w5 w2.heap.size 24 (bs T)) := Rw.other (Rw.ext H74.out (Ext.alloc _ _)) hl5 (by have := Rw.lt H74.out; omega);
           have H8 := hide hr5; clear hr5 hl5))
      rename_i hK
      generalize hg7 : w2.heap.size = g7 at *
      generalize hg8 : w4.heap.size = g8 at *
      have KG := hide fun W (h : Ext w5 W) => (show Calls Tryd.prog 14 #[.slice (some ⟨g8, 0, none⟩) 32 32, .slice B p.length d] W (Ret W (Is (.agg (bs T).toArray))) from (by
        have h3 := tagOf_any (some ⟨g8, 0, none⟩) B 32 d S p W ((Rw.rd H8.out).ext h) (hB2.ext (HX.out.trans h)) (by rw [HSL.out]; exact Nat.le_refl _) hbd (by rw [HSL.out]; decide) hbl (ht.ext (HX.out.trans h))
        rw [HSL.out, HTS.out] at h3
        exact h3))
      clear hx4 hx3 hx2 hw2 hw4 H73 H74 hg7 hg8
      refine wp_region_sp (Nat.le_refl _) [
          Sp.is (.slice (some ⟨g8, 0, none⟩) 32 32),
          Sp.is (.slice B p.length d),
          Sp.is (.agg (bs T).toArray),
          Sp.is (.agg (bs T).toArray),
          Sp.is (.bool true),
          Sp.is (.bool true)] (by kernel_rfl) (by kernel_rfl) ?_ ?_
      · refine ⟨?_, ?_, ?_, ?_, ?_, ?_, trivial⟩
        · intro az wz hx hB hk H
          refine .inl ⟨wanted_none rfl, ?_⟩
          exact gives_all (n := 32) rfl (by rw [(ev (show az.tmps[8]? = some (.pointer (some ⟨g8, 0, none⟩)) from hk 8 rfl))]) (run_all32 _ _) ⟨Grw.refl _ _, rfl⟩
        · intro az wz hx hB hk H
          refine .inl ⟨wanted_none rfl, ?_⟩
          refine gives_move rfl ?_
          rw [(ev (show az.tmps[1]? = some (.slice B p.length d) from hk 1 rfl))]
          exact ⟨Grw.refl _ _, rfl⟩
        · intro az wz hx hB hk H
          obtain ⟨v30, h30, s30⟩ := H 0 rfl _ rfl 30 rfl
          obtain ⟨v31, h31, s31⟩ := H 1 rfl _ rfl 31 rfl
          refine .inl ⟨wanted_none rfl, ?_⟩
          refine gives_call rfl Tryd.call14 (by simp only [List.map_toArray, List.map_cons, List.map_nil, ev h30, ev h31]; rw [s30, s31]) ?_
          exact (KG.out wz hx.below).mono fun _ _ h => h.grw hB
        · intro az wz hx hB hk H
          refine .inl ⟨wanted_none rfl, ?_⟩
          exact gives_load_rw 24 (.tmp 7) rfl g7 (by rw [(ev (show az.tmps[7]? = some (.pointer (some ⟨g7, 0, none⟩)) from hk 7 rfl))]) 24 (bs T) (Rw.below H7.out hx.below (Rw.lt H7.out)) 32 5 Tryd.underlying24 (by kernel_rfl) (by rw [bs_length, HTL.out]) ⟨Grw.refl _ _, rfl⟩
        · intro az wz hx hB hk H
          obtain ⟨v32, h32, s32⟩ := H 2 rfl _ rfl 32 rfl
          obtain ⟨v33, h33, s33⟩ := H 3 rfl _ rfl 33 rfl
          refine .inl ⟨wanted_none rfl, ?_⟩
          refine gives_eql_bytes T rfl (by rw [HTL.out]; exact Tryd.underlying24) Tryd.underlying5 (by kernel_rfl) (by kernel_rfl) ?_ ?_ ⟨Grw.refl _ _, rfl⟩
          · rw [ev h32]
            exact s32
          · rw [ev h33]
            exact s33
        · intro az wz hx hB hk H
          obtain ⟨v34, h34, s34⟩ := H 4 rfl _ rfl 34 rfl
          refine .inl ⟨wanted_none rfl, ?_⟩
          refine gives_assign rfl ?_
          rw [(ev h34)]
          exact ⟨Grw.refl _ _, s34⟩
      · intro az wz hx hd hs hv hsame
        obtain ⟨v6, h6, s6⟩ := hv 5 _ 6 rfl rfl
        obtain rfl : v6 = .bool true := s6
        refine hK _ _ ?_
        refine wp_ret ?_
        refine bodyPost_ret (results_tmp rfl _ _ _) hd ?_
        refine ⟨_, rfl, Below.trans HX.out (Below.mono hx.below HX.out.size), ?_⟩
        simp [Is, h6]
    · have hli : (key.length : Int) ≤ 64 := by omega
      have hkl : key.length ≤ 64 := by omega
      have HKM := hide fun j (h : key.length + j ≤ 64) => (key_more key p j h).trans HT.out
      clear hbig hlong
      go_enter Tryd.func7, Tryd.ntmps7
      go_wp2_with (first
        | (go_at_call 10; refine (KA.out _ (Ext.refl w)).mono ?_; rintro e w1 ⟨v1, rfl, hx1, rfl⟩)
        | (go_at_call 14; refine (KT.out _ hx1).mono ?_; rintro e w2 ⟨v2, rfl, hw2, rfl⟩; have hx2 := hx1.trans hw2)
        | ((with_reducible show wpList _ _ _ (⟨none, .store _ (.tmp 7) _, _, _, _, _⟩ :: _) _ _);
           refine wpList_store_rw rfl 24 (.tmp 7) (.tmp 24) rfl _ rfl (bs T) rfl 24 (bs (List.replicate 32 0)) (heap_alloc_new w2 _) 32 (by kernel_rfl) (by rw [bs_length, HTL.out]) (by rw [bs_length, bs_length, HTL.out]; rfl) (List.all_eq_true.2 (bs_one _)) ?_;
           intro w3 hr3 hl3;
           have hx3 : Ext w w3 := (hx2.trans (Ext.alloc _ _)).laid hl3 hx2.size;
           have H73 := hide hr3; clear hr3 hl3)
        | (at_builtin; refine wpList_cat rfl (.tmp 35) (.tmp 36) rfl w3.heap.size _ [] key A key.length c rfl rfl rfl (Own.nil _ _) (hA.ext hx3) (Nat.le_refl _) (by simp; omega) ?_; intro v5 w5 hown5 hb5; rw [List.nil_append] at hown5; have HO5 := hide hown5; clear hown5))
      generalize hg7 : w2.heap.size = g7 at *
      have hl7 := Rw.lt H73.out
      go_loopw [9, 10] (fun v i wr => ∃ j : Nat, i = .int .i64 j ∧ j ≤ mm ∧ key.length + j ≤ 64 ∧ Hid (Own wr w3.heap.size v (key ++ List.replicate j 0)) ∧ Below w3.heap.size w3 wr) (fun _ i _ => 64 - (intOf i).toNat)
      case atStart => exact ⟨0, rfl, Nat.zero_le _, by omega, hide (by simpa using HO5.out), hb5⟩
      clear HO5 hb5
      case round =>
        obtain ⟨j, rfl, hj, hj64, HOj, hbj⟩ := hrel
        have hoj := HOj.out.bytes
        obtain ⟨C, c9, rfl, hlc9, hr9⟩ := hoj
        have hlen9 : (key ++ List.replicate j (0 : UInt8)).length = key.length + j := by simp
        rw [hlen9] at hlc9
        have HL9 := hide hlen9
        obtain ⟨n9, HN9⟩ : ∃ n9 : Nat, Hid (key.length + j = n9) := ⟨_, rfl⟩
        have HR9 := hide hr9
        have HLC9 := hide hlc9
        rw [HL9.out, HN9.out] at HOj ⊢
        clear hlen9 hr9 hlc9
        by_cases hgo : j < mm ∧ n9 < 64
        · have h1 : (j : Int) < (mm : Int) := by omega
          have h2 : (n9 : Int) < 64 := by omega
          have h3 := HN9.out
          have hj1 : j + 1 ≤ mm ∧ key.length + (j + 1) ≤ 64 := by omega
          have HJ1 := hide hj1
          have hsz := Below.size hbj
          clear hgo h3 hj1
          go_wp2_with (at_builtin; refine wpList_push rfl (.tmp 49) (.tmp 50) rfl w3.heap.size _ _ rfl rfl HOj.out (by decide) (by decide) hsz (by simp; omega) ?_; intro v6 w6 hown6 hb6; have HO6 := hide hown6; clear hown6)
          have HO7 : Hid (Own w6 w3.heap.size v6 (key ++ List.replicate (j + 1) 0)) := by
            have := HO6.out
            rw [List.append_assoc, show b8 0 = (0 : UInt8) from rfl] at this
            rw [List.replicate_succ']
            exact this
          refine ⟨⟨j + 1, by go_num, HJ1.out.1, HJ1.out.2, HO7, Below.trans hbj hb6⟩, by have := HJ1.out; simp [intOf]; omega⟩
        · have HX : Hid (Ext w wr) := hide (Below.trans hx3 (Below.mono hbj hx3.size))
          have H7 : Hid (Rw wr g7 24 (bs T)) := Rw.below H73.out hbj hl7
          have KG := hide fun W (h : Ext wr W) => (show Calls Tryd.prog 14 #[.slice C n9 c9, .slice B p.length d] W (Ret W (Is (.agg (bs T).toArray))) from (by
            have h3 := tagOf_any C B c9 d (key ++ List.replicate j 0) p W (HR9.out.ext h) (hB2.ext (HX.out.trans h)) (by rw [HL9.out]; exact HLC9.out) hbd (by rw [HL9.out]; omega) hbl (ht.ext (HX.out.trans h))
            rw [HL9.out, HN9.out, HKM.out j hj64] at h3
            exact h3))
          clear hg7 hx2 hx3 hw2 H73
          by_cases hj2 : j < mm
          · have h1 : (j : Int) < (mm : Int) := by omega
            have h2 : (64 : Int) ≤ (n9 : Int) := by omega
            clear hgo hj2
            go_wp2
            rename_i hK
            refine wp_region_sp (Nat.le_refl _) [
                Sp.is (.slice C n9 c9),
                Sp.is (.slice B p.length d),
                Sp.is (.agg (bs T).toArray),
                Sp.is (.agg (bs T).toArray),
                Sp.is (.bool true),
                Sp.is (.bool true)] (by kernel_rfl) (by kernel_rfl) ?_ ?_
            · refine ⟨?_, ?_, ?_, ?_, ?_, ?_, trivial⟩
              · intro az wz hx hB hk H
                refine .inl ⟨wanted_none rfl, ?_⟩
                refine gives_move rfl ?_
                rw [(ev (show az.tmps[9]? = some (.slice C n9 c9) from hk 9 rfl))]
                exact ⟨Grw.refl _ _, rfl⟩
              · intro az wz hx hB hk H
                refine .inl ⟨wanted_none rfl, ?_⟩
                refine gives_move rfl ?_
                rw [(ev (show az.tmps[1]? = some (.slice B p.length d) from hk 1 rfl))]
                exact ⟨Grw.refl _ _, rfl⟩
              · intro az wz hx hB hk H
                obtain ⟨v52, h52, s52⟩ := H 0 rfl _ rfl 52 rfl
                obtain ⟨v53, h53, s53⟩ := H 1 rfl _ rfl 53 rfl
                refine .inl ⟨wanted_none rfl, ?_⟩
                refine gives_call rfl Tryd.call14 (by simp only [List.map_toArray, List.map_cons, List.map_nil, ev h52, ev h53]; rw [s52, s53]) ?_
                exact (KG.out wz hx.below).mono fun _ _ h => h.grw hB
              · intro az wz hx hB hk H
                refine .inl ⟨wanted_none rfl, ?_⟩
                exact gives_load_rw 24 (.tmp 7) rfl g7 (by rw [(ev (show az.tmps[7]? = some (.pointer (some ⟨g7, 0, none⟩)) from hk 7 rfl))]) 24 (bs T) (Rw.below H7.out hx.below (Rw.lt H7.out)) 32 5 Tryd.underlying24 (by kernel_rfl) (by rw [bs_length, HTL.out]) ⟨Grw.refl _ _, rfl⟩
              · intro az wz hx hB hk H
                obtain ⟨v54, h54, s54⟩ := H 2 rfl _ rfl 54 rfl
                obtain ⟨v55, h55, s55⟩ := H 3 rfl _ rfl 55 rfl
                refine .inl ⟨wanted_none rfl, ?_⟩
                refine gives_eql_bytes T rfl (by rw [HTL.out]; exact Tryd.underlying24) Tryd.underlying5 (by kernel_rfl) (by kernel_rfl) ?_ ?_ ⟨Grw.refl _ _, rfl⟩
                · rw [ev h54]
                  exact s54
                · rw [ev h55]
                  exact s55
              · intro az wz hx hB hk H
                obtain ⟨v56, h56, s56⟩ := H 4 rfl _ rfl 56 rfl
                refine .inl ⟨wanted_none rfl, ?_⟩
                refine gives_assign rfl ?_
                rw [(ev h56)]
                exact ⟨Grw.refl _ _, s56⟩
            · intro az wz hx hd hs hv hsame
              obtain ⟨v6, h6, s6⟩ := hv 5 _ 6 rfl rfl
              obtain rfl : v6 = .bool true := s6
              refine hK _ _ ?_
              refine wp_ret ?_
              refine bodyPost_ret (results_tmp rfl _ _ _) hd ?_
              refine ⟨_, rfl, Below.trans HX.out (Below.mono hx.below HX.out.size), ?_⟩
              simp [Is, h6]
          · have h1 : (mm : Int) ≤ (j : Int) := by omega
            clear hgo hj2
            go_wp2
            rename_i hK
            refine wp_region_sp (Nat.le_refl _) [
                Sp.is (.slice C n9 c9),
                Sp.is (.slice B p.length d),
                Sp.is (.agg (bs T).toArray),
                Sp.is (.agg (bs T).toArray),
                Sp.is (.bool true),
                Sp.is (.bool true)] (by kernel_rfl) (by kernel_rfl) ?_ ?_
            · refine ⟨?_, ?_, ?_, ?_, ?_, ?_, trivial⟩
              · intro az wz hx hB hk H
                refine .inl ⟨wanted_none rfl, ?_⟩
                refine gives_move rfl ?_
                rw [(ev (show az.tmps[9]? = some (.slice C n9 c9) from hk 9 rfl))]
                exact ⟨Grw.refl _ _, rfl⟩
              · intro az wz hx hB hk H
                refine .inl ⟨wanted_none rfl, ?_⟩
                refine gives_move rfl ?_
                rw [(ev (show az.tmps[1]? = some (.slice B p.length d) from hk 1 rfl))]
                exact ⟨Grw.refl _ _, rfl⟩
              · intro az wz hx hB hk H
                obtain ⟨v52, h52, s52⟩ := H 0 rfl _ rfl 52 rfl
                obtain ⟨v53, h53, s53⟩ := H 1 rfl _ rfl 53 rfl
                refine .inl ⟨wanted_none rfl, ?_⟩
                refine gives_call rfl Tryd.call14 (by simp only [List.map_toArray, List.map_cons, List.map_nil, ev h52, ev h53]; rw [s52, s53]) ?_
                exact (KG.out wz hx.below).mono fun _ _ h => h.grw hB
              · intro az wz hx hB hk H
                refine .inl ⟨wanted_none rfl, ?_⟩
                exact gives_load_rw 24 (.tmp 7) rfl g7 (by rw [(ev (show az.tmps[7]? = some (.pointer (some ⟨g7, 0, none⟩)) from hk 7 rfl))]) 24 (bs T) (Rw.below H7.out hx.below (Rw.lt H7.out)) 32 5 Tryd.underlying24 (by kernel_rfl) (by rw [bs_length, HTL.out]) ⟨Grw.refl _ _, rfl⟩
              · intro az wz hx hB hk H
                obtain ⟨v54, h54, s54⟩ := H 2 rfl _ rfl 54 rfl
                obtain ⟨v55, h55, s55⟩ := H 3 rfl _ rfl 55 rfl
                refine .inl ⟨wanted_none rfl, ?_⟩
                refine gives_eql_bytes T rfl (by rw [HTL.out]; exact Tryd.underlying24) Tryd.underlying5 (by kernel_rfl) (by kernel_rfl) ?_ ?_ ⟨Grw.refl _ _, rfl⟩
                · rw [ev h54]
                  exact s54
                · rw [ev h55]
                  exact s55
              · intro az wz hx hB hk H
                obtain ⟨v56, h56, s56⟩ := H 4 rfl _ rfl 56 rfl
                refine .inl ⟨wanted_none rfl, ?_⟩
                refine gives_assign rfl ?_
                rw [(ev h56)]
                exact ⟨Grw.refl _ _, s56⟩
            · intro az wz hx hd hs hv hsame
              obtain ⟨v6, h6, s6⟩ := hv 5 _ 6 rfl rfl
              obtain rfl : v6 = .bool true := s6
              refine hK _ _ ?_
              refine wp_ret ?_
              refine bodyPost_ret (results_tmp rfl _ _ _) hd ?_
              refine ⟨_, rfl, Below.trans HX.out (Below.mono hx.below HX.out.size), ?_⟩
              simp [Is, h6]
end Go.Proofs.YtkkdljjdniacnaaDoor
