/-
  The walk of PageDecodes.
-/
import Derived.Test.YtmamhinpkioogaaPgRd
import Derived.Test.YtmamhinpkioogaaPgDo
namespace Go.Proofs.Ytmamhinpkioogaa
open Go.RowKit

set_option maxRecDepth 20000 in
set_option maxHeartbeats 6400000 in
theorem pageDecodes_yes (A : Option Addr) (l M : List UInt8) (b : Bool) (n c m : Nat) (w : World) (hr : Rd w A l) (hn : l.length = n) (hb : n ≤ 140737488351232) (hM : (if b then l ++ List.replicate (504 - n) 0 else l) = M) (hm : M.length = m) (kind nx : Int) (cnt : Nat) (L : List Cl) (hL : L.length = cnt) (hcl : cnt ≤ 1000) (KD0 : ∀ (W : World) (B : Option Addr) (d : Nat), Rd W B M → m ≤ d → Calls Try.prog 17 #[.slice B m d] W (Ret W (fun w' v => ∃ A2 c2, v = .tuple #[.agg #[.int .u8 kind, .int .i64 nx, .slice A2 cnt c2], .int .i64 0] ∧ RdC w' A2 L))) (KR0 : ∀ (W : World) (B : Option Addr) (d : Nat), Rd W B M → m ≤ d → Calls Try.prog 20 #[.slice B m d] W (Ret W (fun w' v => ∃ A2 c2, v = .tuple #[.agg #[.int .u8 kind, .int .i64 nx, .slice A2 cnt c2], .bool true] ∧ RdC w' A2 L))) :
    Calls Try.prog 4 #[.slice A n c, .bool b] w (Ret w (Is (.bool true))) := by
  have KA := hide awake_any
  have KD := hide KD0
  have KR := hide KR0
  have HBY := hide build_byte
  have HR := hide hr
  have HN := hide hn
  have HM := hide hM
  have Hm := hide hm
  have HL := hide hL
  clear hL
  clear hr hn hM hm KD0 KR0
  go_enter Try.func4, Try.ntmps4
  go_upto_region 4 with (go_at_call 11; (with_reducible refine (KA.out _).mono ?_); rintro e w1 ⟨rfl, hx1⟩; have X1 := hide hx1; clear hx1)
  go_upto_region 5 with (refine wpList_cat rfl (.tmp 12) (.tmp 13) rfl w.heap.size (.slice none 0 0) [] l A n c rfl rfl HN.out.symm (Own.nil _ _) (HR.out.ext X1.out) X1.out.size (by show 0 + l.length ≤ 140737488355328; have := HN.out; omega) ?_; intro v1 w2 ho hb2; rw [List.nil_append] at ho; have O2 := hide ho; have X2 : Hid (Ext w w2) := hide (Below.trans X1.out hb2); clear ho hb2)
  obtain ⟨A1, c1, hv1, hc1, -⟩ := Own.slice O2.out
  rw [HN.out] at hv1
  subst hv1
  clear hc1
  go_loopw [5] (fun cv wr => ∃ (t : List UInt8) (k nt ct : Nat) (At : Option Addr), cv = .slice At nt ct ∧ nt ≤ 140737488352000 ∧ Hid (t.length = nt) ∧ Hid (t = l ++ List.replicate k 0) ∧ Hid (nt = n + k) ∧ Hid (k ≤ if b then 504 - n else 0) ∧ Hid (Own wr w.heap.size (.slice At nt ct) t) ∧ Hid (Ext w wr)) (fun cv _ => 504 - lenV cv)
  case atStart => exact ⟨l, 0, n, c1, A1, rfl, by omega, HN, hide (by simp), hide rfl, hide (Nat.zero_le _), O2, X2⟩
  case round =>
    obtain ⟨t, k, nt, ct, At, rfl, hnt, HTL, HT, HNK, HK, HO, HX⟩ := hrel
    clear O2 X2
    by_cases hgo : b = true ∧ nt < 504
    · obtain ⟨rfl, hlt⟩ := hgo
      have hi : (nt : Int) < 504 := by omega
      have hxs := HX.out.size
      go_wp2_with (first
        | ((with_reducible show wpList _ _ _ (⟨some 22, _, _, _, _, _⟩ :: _) _ _); refine wpList_gives (gives_buildSlice rfl [(0, .int .u8 0)] rfl (HBY.out 0 _) ⟨rfl, rfl⟩) rfl ?_)
        | ((with_reducible show wpList _ _ _ (⟨some 23, _, _, _, _, _⟩ :: _) _ _); refine wpList_push rfl (.tmp 21) (.tmp 22) rfl w.heap.size (.slice At nt ct) t rfl rfl HO.out (by decide) (by decide) hxs (by have := HTL.out; omega) ?_; intro v3 w3 ho3 hb3; obtain ⟨A3, c3, hv3, -, -⟩ := Own.slice ho3; have O3 := hide ho3; have X3 : Hid (Ext w w3) := hide (Below.trans HX.out hb3); have HV3 := hide hv3; clear ho3 hb3 hv3))
      have HL3 : Hid ((t ++ [b8 0]).length = nt + 1) := hide (by have := HTL.out; simp; omega)
      have E3 := HV3.out
      rw [HL3.out] at E3
      subst E3
      go_roundw
      case rel => exact ⟨t ++ [b8 0], k + 1, nt + 1, c3, A3, rfl, by omega, HL3, hide (by rw [HT.out, List.replicate_succ', List.append_assoc]; rfl), hide (by have := HNK.out; omega), hide (by show k + 1 ≤ 504 - n; have := HNK.out; omega), O3, X3⟩
      case measure => simp [lenV]; omega
    · have HTM : Hid (t = M) := hide (by
        have h1 := HT.out; have h2 := HK.out; have h3 := HNK.out
        rw [← HM.out, h1]
        cases b
        · simp only [Bool.false_eq_true, if_false] at h2 ⊢
          obtain rfl : k = 0 := by omega
          simp
        · simp only [if_true, true_and] at h2 hgo ⊢
          rw [show k = 504 - n by omega])
      have HNM : Hid (nt = m) := hide (by rw [← HTL.out, HTM.out]; exact Hm.out)
      have e1 := HNM.out
      have e2 := HTM.out
      subst e1 e2
      have hno : ¬ (b = true ∧ (nt : Int) < 504) := fun h => hgo ⟨h.1, by omega⟩
      clear HTM HNM HT HK HNK hgo
      have hct : nt ≤ ct := by
        obtain ⟨Aq, cq, hq, hcq, -⟩ := Own.slice HO.out
        injection hq with _ _ hq3
        have := HTL.out
        omega
      have HRD : Hid (Rd wr At t) := hide (by
        obtain ⟨Aq, cq, hq, hcq, hrq⟩ := HO.out.bytes
        injection hq with hq1
        subst hq1
        exact hrq)
      have HCT := hide hct
      clear hct
      have hb2 : b = false ∨ (b = true ∧ ¬ (nt : Int) < 504) := by
        cases b
        · exact .inl rfl
        · exact .inr ⟨rfl, fun h => hno ⟨rfl, h⟩⟩
      clear hno
      rcases hb2 with rfl | ⟨rfl, hnl⟩
      all_goals
        go_upto_region 8 with (go_at_call 17; (with_reducible refine (KD.out _ _ _ HRD.out HCT.out).mono ?_); rintro e w3 ⟨v3, rfl, hx3, A3, c3, rfl, hc3⟩; have X3 := hide (HX.out.trans hx3); have R3 := hide (HRD.out.ext hx3); have C3 := hide hc3; clear hx3 hc3)
        obtain ⟨w4, hX4, hR4, hg⟩ : ∃ w4, Ext w3 w4 ∧ Rw w4 w3.heap.size 24 [.int .u8 kind, .int .i64 nx, .slice A3 cnt c3] ∧ w3.alloc (.cells #[.int .u8 kind, .int .i64 nx, .slice A3 cnt c3] 24) = w4 := ⟨_, Ext.alloc _ _, Rw.new _ _ _, rfl⟩
        rw [hg]
        obtain ⟨hp, HHP⟩ : ∃ hp, Hid (w3.heap.size = hp) := ⟨_, hide rfl⟩
        rw [HHP.out] at hR4 ⊢
        have X4 := hide (X3.out.trans hX4)
        have R4 := hide (R3.out.ext hX4)
        have P4 := hide hR4
        have D4 := hide (C3.out.ext hX4)
        clear hg hX4 hR4
        go_upto_region 9 with (go_at_call 20; (with_reducible refine (KR.out _ _ _ R4.out HCT.out).mono ?_); rintro e w5 ⟨v5, rfl, hx5, A5, c5, rfl, hc5⟩; have X5 := hide (X4.out.trans hx5); have P5 := hide (P4.out.ext hx5); have C5 := hide hc5; have D5 := hide (D4.out.ext hx5); clear hx5 hc5)
        obtain ⟨w6, hX6, hR6, hg⟩ : ∃ w6, Ext w5 w6 ∧ Rw w6 w5.heap.size 24 [.int .u8 kind, .int .i64 nx, .slice A5 cnt c5] ∧ w5.alloc (.cells #[.int .u8 kind, .int .i64 nx, .slice A5 cnt c5] 24) = w6 := ⟨_, Ext.alloc _ _, Rw.new _ _ _, rfl⟩
        rw [hg]
        obtain ⟨hq, HHQ⟩ : ∃ hq, Hid (w5.heap.size = hq) := ⟨_, hide rfl⟩
        rw [HHQ.out] at hR6 ⊢
        have X6 := hide (X5.out.trans hX6)
        have P6 := hide (P5.out.ext hX6)
        have Q6 := hide hR6
        have C6 := hide (C5.out.ext hX6)
        have D6 := hide (D5.out.ext hX6)
        have KM := hide (rsame_yes cnt cnt c3 c5 w6 D6.out C6.out HL.out HL.out (by omega) rfl)
        clear hg hX6 hR6
        have p0 := P6.out.cell (i := 0) rfl
        have p1 := P6.out.cell (i := 1) rfl
        have p2 := P6.out.cell (i := 2) rfl
        have q0 := Q6.out.cell (i := 0) rfl
        have q1 := Q6.out.cell (i := 1) rfl
        have q2 := Q6.out.cell (i := 2) rfl
        go_wp2_with (go_at_call 19; (with_reducible refine KM.out.mono ?_); rintro e w7 ⟨rfl, q, rfl⟩)
        go_ret
        exact Ret.mk (X6.out.drewN q) rfl
set_option maxRecDepth 20000 in
set_option maxHeartbeats 6400000 in
theorem pageDecodes_no (A : Option Addr) (l M : List UInt8) (b : Bool) (n c m : Nat) (w : World) (hr : Rd w A l) (hn : l.length = n) (hb : n ≤ 140737488351232) (hM : (if b then l ++ List.replicate (504 - n) 0 else l) = M) (hm : M.length = m) (KD0 : ∀ (W : World) (B : Option Addr) (d : Nat), Rd W B M → m ≤ d → Calls Try.prog 17 #[.slice B m d] W (Ret W (Is (.tuple #[.agg #[.int .u8 0, .int .i64 0, .slice none 0 0], .int .i64 3])))) (KR0 : ∀ (W : World) (B : Option Addr) (d : Nat), Rd W B M → m ≤ d → Calls Try.prog 20 #[.slice B m d] W (Ret W (Is (.tuple #[.agg #[.int .u8 0, .int .i64 0, .slice none 0 0], .bool false])))) :
    Calls Try.prog 4 #[.slice A n c, .bool b] w (Ret w (Is (.bool true))) := by
  have KA := hide awake_any
  have KD := hide KD0
  have KR := hide KR0
  have HBY := hide build_byte
  have HR := hide hr
  have HN := hide hn
  have HM := hide hM
  have Hm := hide hm
  clear hr hn hM hm KD0 KR0
  go_enter Try.func4, Try.ntmps4
  go_upto_region 4 with (go_at_call 11; (with_reducible refine (KA.out _).mono ?_); rintro e w1 ⟨rfl, hx1⟩; have X1 := hide hx1; clear hx1)
  go_upto_region 5 with (refine wpList_cat rfl (.tmp 12) (.tmp 13) rfl w.heap.size (.slice none 0 0) [] l A n c rfl rfl HN.out.symm (Own.nil _ _) (HR.out.ext X1.out) X1.out.size (by show 0 + l.length ≤ 140737488355328; have := HN.out; omega) ?_; intro v1 w2 ho hb2; rw [List.nil_append] at ho; have O2 := hide ho; have X2 : Hid (Ext w w2) := hide (Below.trans X1.out hb2); clear ho hb2)
  obtain ⟨A1, c1, hv1, hc1, -⟩ := Own.slice O2.out
  rw [HN.out] at hv1
  subst hv1
  clear hc1
  go_loopw [5] (fun cv wr => ∃ (t : List UInt8) (k nt ct : Nat) (At : Option Addr), cv = .slice At nt ct ∧ nt ≤ 140737488352000 ∧ Hid (t.length = nt) ∧ Hid (t = l ++ List.replicate k 0) ∧ Hid (nt = n + k) ∧ Hid (k ≤ if b then 504 - n else 0) ∧ Hid (Own wr w.heap.size (.slice At nt ct) t) ∧ Hid (Ext w wr)) (fun cv _ => 504 - lenV cv)
  case atStart => exact ⟨l, 0, n, c1, A1, rfl, by omega, HN, hide (by simp), hide rfl, hide (Nat.zero_le _), O2, X2⟩
  case round =>
    obtain ⟨t, k, nt, ct, At, rfl, hnt, HTL, HT, HNK, HK, HO, HX⟩ := hrel
    clear O2 X2
    by_cases hgo : b = true ∧ nt < 504
    · obtain ⟨rfl, hlt⟩ := hgo
      have hi : (nt : Int) < 504 := by omega
      have hxs := HX.out.size
      go_wp2_with (first
        | ((with_reducible show wpList _ _ _ (⟨some 22, _, _, _, _, _⟩ :: _) _ _); refine wpList_gives (gives_buildSlice rfl [(0, .int .u8 0)] rfl (HBY.out 0 _) ⟨rfl, rfl⟩) rfl ?_)
        | ((with_reducible show wpList _ _ _ (⟨some 23, _, _, _, _, _⟩ :: _) _ _); refine wpList_push rfl (.tmp 21) (.tmp 22) rfl w.heap.size (.slice At nt ct) t rfl rfl HO.out (by decide) (by decide) hxs (by have := HTL.out; omega) ?_; intro v3 w3 ho3 hb3; obtain ⟨A3, c3, hv3, -, -⟩ := Own.slice ho3; have O3 := hide ho3; have X3 : Hid (Ext w w3) := hide (Below.trans HX.out hb3); have HV3 := hide hv3; clear ho3 hb3 hv3))
      have HL3 : Hid ((t ++ [b8 0]).length = nt + 1) := hide (by have := HTL.out; simp; omega)
      have E3 := HV3.out
      rw [HL3.out] at E3
      subst E3
      go_roundw
      case rel => exact ⟨t ++ [b8 0], k + 1, nt + 1, c3, A3, rfl, by omega, HL3, hide (by rw [HT.out, List.replicate_succ', List.append_assoc]; rfl), hide (by have := HNK.out; omega), hide (by show k + 1 ≤ 504 - n; have := HNK.out; omega), O3, X3⟩
      case measure => simp [lenV]; omega
    · have HTM : Hid (t = M) := hide (by
        have h1 := HT.out; have h2 := HK.out; have h3 := HNK.out
        rw [← HM.out, h1]
        cases b
        · simp only [Bool.false_eq_true, if_false] at h2 ⊢
          obtain rfl : k = 0 := by omega
          simp
        · simp only [if_true, true_and] at h2 hgo ⊢
          rw [show k = 504 - n by omega])
      have HNM : Hid (nt = m) := hide (by rw [← HTL.out, HTM.out]; exact Hm.out)
      have e1 := HNM.out
      have e2 := HTM.out
      subst e1 e2
      have hno : ¬ (b = true ∧ (nt : Int) < 504) := fun h => hgo ⟨h.1, by omega⟩
      clear HTM HNM HT HK HNK hgo
      have hct : nt ≤ ct := by
        obtain ⟨Aq, cq, hq, hcq, -⟩ := Own.slice HO.out
        injection hq with _ _ hq3
        have := HTL.out
        omega
      have HRD : Hid (Rd wr At t) := hide (by
        obtain ⟨Aq, cq, hq, hcq, hrq⟩ := HO.out.bytes
        injection hq with hq1
        subst hq1
        exact hrq)
      have HCT := hide hct
      clear hct
      have hb2 : b = false ∨ (b = true ∧ ¬ (nt : Int) < 504) := by
        cases b
        · exact .inl rfl
        · exact .inr ⟨rfl, fun h => hno ⟨rfl, h⟩⟩
      clear hno
      rcases hb2 with rfl | ⟨rfl, hnl⟩
      all_goals
        go_upto_region 8 with (go_at_call 17; (with_reducible refine (KD.out _ _ _ HRD.out HCT.out).mono ?_); rintro e w3 ⟨v3, rfl, hx3, rfl⟩; have X3 := hide (HX.out.trans hx3); have R3 := hide (HRD.out.ext hx3); skip; clear hx3 )
        obtain ⟨w4, hX4, hR4, hg⟩ : ∃ w4, Ext w3 w4 ∧ Rw w4 w3.heap.size 24 [.int .u8 0, .int .i64 0, .slice none 0 0] ∧ w3.alloc (.cells #[.int .u8 0, .int .i64 0, .slice none 0 0] 24) = w4 := ⟨_, Ext.alloc _ _, Rw.new _ _ _, rfl⟩
        rw [hg]
        obtain ⟨hp, HHP⟩ : ∃ hp, Hid (w3.heap.size = hp) := ⟨_, hide rfl⟩
        rw [HHP.out] at hR4 ⊢
        have X4 := hide (X3.out.trans hX4)
        have R4 := hide (R3.out.ext hX4)
        have P4 := hide hR4
        skip
        clear hg hX4 hR4
        go_upto_region 9 with (go_at_call 20; (with_reducible refine (KR.out _ _ _ R4.out HCT.out).mono ?_); rintro e w5 ⟨v5, rfl, hx5, rfl⟩; have X5 := hide (X4.out.trans hx5); have P5 := hide (P4.out.ext hx5); skip; clear hx5 )
        obtain ⟨w6, hX6, hR6, hg⟩ : ∃ w6, Ext w5 w6 ∧ Rw w6 w5.heap.size 24 [.int .u8 0, .int .i64 0, .slice none 0 0] ∧ w5.alloc (.cells #[.int .u8 0, .int .i64 0, .slice none 0 0] 24) = w6 := ⟨_, Ext.alloc _ _, Rw.new _ _ _, rfl⟩
        rw [hg]
        obtain ⟨hq, HHQ⟩ : ∃ hq, Hid (w5.heap.size = hq) := ⟨_, hide rfl⟩
        rw [HHQ.out] at hR6 ⊢
        have X6 := hide (X5.out.trans hX6)
        have P6 := hide (P5.out.ext hX6)
        have Q6 := hide hR6
        skip
        clear hg hX6 hR6
        have p0 := P6.out.cell (i := 0) rfl
        have p1 := P6.out.cell (i := 1) rfl
        have p2 := P6.out.cell (i := 2) rfl
        have q0 := Q6.out.cell (i := 0) rfl
        have q1 := Q6.out.cell (i := 1) rfl
        have q2 := Q6.out.cell (i := 2) rfl
        go_wp2
        go_ret
        exact Ret.mk X6.out rfl
theorem pageDecodes_walk (A : Option Addr) (b : Bool) (c : Nat) (l : List UInt8) (w : World) (hr : Rd w A l) (hb : l.length ≤ 140737488351232) :
    Calls Try.prog 4 #[.slice A l.length c, .bool b] w (Ret w (Is (.bool true))) := by
  obtain ⟨M, hM⟩ : ∃ M, (if b then l ++ List.replicate (504 - l.length) 0 else l) = M := ⟨_, rfl⟩
  by_cases h : M.length = 504
  · have hat : ∀ i, i < 504 → ∃ u, M[i]? = some u := fun i hi => ⟨_, List.getElem?_eq_getElem (by omega)⟩
    obtain ⟨u0, g0⟩ := hat 0 (by decide)
    obtain ⟨u1, g1⟩ := hat 1 (by decide)
    obtain ⟨u2, g2⟩ := hat 2 (by decide)
    obtain ⟨u3, g3⟩ := hat 3 (by decide)
    obtain ⟨u4, g4⟩ := hat 4 (by decide)
    have KD := fun (W : World) (B : Option Addr) (d : Nat) (hB : Rd W B M) (hd : 504 ≤ d) => decode_any B M d W hB h hd u0 u1 u2 u3 u4 g0 g1 g2 g3 g4
    have KR := fun (W : World) (B : Option Addr) (d : Nat) (hB : Rd W B M) (hd : 504 ≤ d) => rdecode_any B M d W hB h hd u0 u1 u2 u3 u4 g0 g1 g2 g3 g4
    rw [nextO_num _ _ _ u1.toNat_lt u2.toNat_lt u3.toNat_lt] at KD
    by_cases hp : ∃ L, pageB M (u0.toNat : Int) ((u1.toNat : Int) * 65536 + (u2.toNat : Int) * 256 + (u3.toNat : Int)) u4.toNat L
    · obtain ⟨L, hL⟩ := hp
      have hlen : L.length = u4.toNat := by
        obtain ⟨r, h1, -⟩ := hL
        exact (decC_split _ _ _ _ h1).2
      refine pageDecodes_yes A l M b l.length c 504 w hr rfl hb hM h (u0.toNat : Int) ((u1.toNat : Int) * 65536 + (u2.toNat : Int) * 256 + (u3.toNat : Int)) L.length L rfl (by have := u4.toNat_lt; omega) (fun W B d hB hd => (KD W B d hB hd).mono fun e w' ⟨v, he, hx, hv⟩ => ⟨v, he, hx, ?_⟩) (fun W B d hB hd => (KR W B d hB hd).mono fun e w' ⟨v, he, hx, hv⟩ => ⟨v, he, hx, ?_⟩)
      · rcases hv with ⟨L2, v2, hL2, rfl, ho⟩ | ⟨-, hno⟩
        · obtain rfl := pageB_one hL hL2
          obtain ⟨A2, c2, rfl, -, hr2⟩ := ho.cells
          exact ⟨A2, c2, rfl, hr2⟩
        · exact absurd hL (hno L)
      · rcases hv with ⟨L2, A2, c2, hL2, rfl, hr2⟩ | ⟨-, hno⟩
        · obtain rfl := pageB_one hL hL2
          exact ⟨A2, c2, rfl, hr2⟩
        · exact absurd hL (hno L)
    · refine pageDecodes_no A l M b l.length c 504 w hr rfl hb hM h (fun W B d hB hd => (KD W B d hB hd).mono fun e w' ⟨v, he, hx, hv⟩ => ⟨v, he, hx, ?_⟩) (fun W B d hB hd => (KR W B d hB hd).mono fun e w' ⟨v, he, hx, hv⟩ => ⟨v, he, hx, ?_⟩)
      · rcases hv with ⟨L2, v2, hL2, -, -⟩ | ⟨hv, -⟩
        · exact absurd ⟨L2, hL2⟩ hp
        · exact hv
      · rcases hv with ⟨L2, A2, c2, hL2, -, -⟩ | ⟨hv, -⟩
        · exact absurd ⟨L2, hL2⟩ hp
        · exact hv
  · exact pageDecodes_no A l M b l.length c M.length w hr rfl hb hM rfl (fun W B d hB hd => decode_other B M.length d W h) (fun W B d hB hd => rdecode_other B M.length d W h)
end Go.Proofs.Ytmamhinpkioogaa
