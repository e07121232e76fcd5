/-
  The document's Decode.
-/
import Derived.Test.YtmamhinpkioogaaPgRq
import Derived.Test.YtmamhinpkioogaaPgFi
import Derived.Test.YtmamhinpkioogaaPgV
namespace Go.Proofs.Ytmamhinpkioogaa
open Go.RowKit

def RDecP (l : List UInt8) (kind nx : Int) (cnt : Nat) (w : World) (v : Value) : Prop :=
  (∃ L A2 c2, pageB l kind nx cnt L ∧ v = .tuple #[.agg #[.int .u8 kind, .int .i64 nx, .slice A2 L.length c2], .bool true] ∧ RdC w A2 L) ∨ (v = .tuple #[.agg #[.int .u8 0, .int .i64 0, .slice none 0 0], .bool false] ∧ ∀ L, ¬ pageB l kind nx cnt L)
theorem built_cell (A B : Option Addr) (n1 c1 n2 c2 : Nat) : Try.prog.built 40 [(0, .slice A n1 c1), (1, .slice B n2 c2)] = some #[.slice A n1 c1, .slice B n2 c2] := by kernel_rfl
theorem gives_store_one {P : Program} {o : Oper} {a : Act} {w : World} {R : Value → World → Prop} {x y : Operand} {ty : TypeId} {ad : Addr} {v : Value} (h : o.op = .store ty x y) (hx : a.eval x = .pointer (some ad)) (hy : a.eval y = v) (hrun : (storeVar ty ad v).run P w = .ok () (w.setCell ad v)) (hR : R undef (w.setCell ad v)) : gives P o a w R := by
  unfold gives execOp
  simp only [h, hx, hy, Instr.storeAt, Instr.sureAddr, Sem.run_bind, Sem.run_pure, Result.andThen_ok, hrun]
  exact hR
theorem run_storeS {w : World} {ad : Addr} {u : Value} (hc : w.cell? ad = some u) (hf : w.frozen? ad = false) (A : Option Addr) (n c : Nat) : (storeVar 22 ad (.slice A n c)).run Try.prog w = .ok () (w.setCell ad (.slice A n c)) := by
  simp [storeVar, go_sem, isAgg, Try.underlying22, hc, hf]
set_option maxRecDepth 20000 in
set_option maxHeartbeats 6400000 in
theorem rdecode_any (A : Option Addr) (l : List UInt8) (c : Nat) (w : World) (hr : Rd w A l) (hn : l.length = 504) (hnc : 504 ≤ c) (u0 u1 u2 u3 u4 : UInt8) (g0 : l[0]? = some u0) (g1 : l[1]? = some u1) (g2 : l[2]? = some u2) (g3 : l[3]? = some u3) (g4 : l[4]? = some u4) :
    Calls Try.prog 20 #[.slice A 504 c] w (Ret w (RDecP l (u0.toNat : Int) ((u1.toNat : Int) * 65536 + (u2.toNat : Int) * 256 + (u3.toNat : Int)) u4.toNat)) := by
  obtain ⟨bl, off, rfl, hc⟩ := hr (by intro e; rw [e] at hn; cases hn)
  have HR := hide hr
  have HNC := hide hnc
  have HN := hide hn
  have HIFF := hide (fun (L : List Cl) (r : List UInt8) (nx : Int) (hd : decC L.length (l.drop 6) = some (L, r)) (hx : (u1.toNat : Int) * 65536 + (u2.toNat : Int) * 256 + (u3.toNat : Int) = nx) (hc : u4.toNat = L.length) (hf : formB (u0.toNat : Int) nx L = true) => encZ_iff hn g0 g1 g2 g3 g4 hd rfl hx hc hf)
  have m0 := hc 0 u0 g0
  rw [Nat.add_zero] at m0
  have m1 := hc 1 u1 g1
  have m2 := hc 2 u2 g2
  have m3 := hc 3 u3 g3
  have m4 := hc 4 u4 g4
  obtain ⟨a0, H0⟩ : ∃ a, Hid (u0.toNat = a) := ⟨_, hide rfl⟩
  obtain ⟨a1, H1⟩ : ∃ a, Hid (u1.toNat = a) := ⟨_, hide rfl⟩
  obtain ⟨a2, H2⟩ : ∃ a, Hid (u2.toNat = a) := ⟨_, hide rfl⟩
  obtain ⟨a3, H3⟩ : ∃ a, Hid (u3.toNat = a) := ⟨_, hide rfl⟩
  obtain ⟨a4, H4⟩ : ∃ a, Hid (u4.toNat = a) := ⟨_, hide rfl⟩
  rw [H0.out] at m0
  rw [H1.out] at m1
  rw [H2.out] at m2
  rw [H3.out] at m3
  rw [H4.out] at m4
  have q1 : (a1 : Int) ≤ 255 := by have := u1.toNat_lt; have := H1.out; omega
  have q2 : (a2 : Int) ≤ 255 := by have := u2.toNat_lt; have := H2.out; omega
  have q3 : (a3 : Int) ≤ 255 := by have := u3.toNat_lt; have := H3.out; omega
  have q4 : (a4 : Int) ≤ 255 := by have := u4.toNat_lt; have := H4.out; omega
  rw [H0.out, H1.out, H2.out, H3.out, H4.out] at HIFF
  rw [H0.out, H1.out, H2.out, H3.out, H4.out]
  go_enter Try.func20, Try.ntmps20
  go_upto_region 1 with fail
  obtain ⟨W1, hX1, hR1, hg⟩ : ∃ W1, Ext w W1 ∧ Rw W1 w.heap.size 24 [.int .u8 0, .int .i64 0, .slice none 0 0] ∧ w.alloc (.cells #[.int .u8 0, .int .i64 0, .slice none 0 0] 24) = W1 := ⟨_, Ext.alloc _ _, Rw.new _ _ _, rfl⟩
  rw [hg]
  obtain ⟨hb, HHB⟩ : ∃ hb, Hid (w.heap.size = hb) := ⟨_, hide rfl⟩
  rw [HHB.out] at hR1 ⊢
  have X1 := hide hX1
  have RB := hide hR1
  have M0 := hX1.keeps.cell m0
  have M1 := hX1.keeps.cell m1
  have M2 := hX1.keeps.cell m2
  have M3 := hX1.keeps.cell m3
  have hsz : W1.heap.size ≠ bl := by
    intro e
    unfold World.cell? at M0
    rw [← e] at M0
    simp at M0
  have HM4 := hide m4
  clear hg hX1 hR1 hc hr hn m0 m1 m2 m3 m4 g0 g1 g2 g3 g4
  go_upto_region 3 with fail
  have N0 := (Ext.alloc W1 (.cells #[.int .u8 0, .int .i64 0, .slice none 0 0] 24)).keeps.cell M0
  have N1 := (Ext.alloc W1 (.cells #[.int .u8 0, .int .i64 0, .slice none 0 0] 24)).keeps.cell M1
  have N2 := (Ext.alloc W1 (.cells #[.int .u8 0, .int .i64 0, .slice none 0 0] 24)).keeps.cell M2
  have N3 := (Ext.alloc W1 (.cells #[.int .u8 0, .int .i64 0, .slice none 0 0] 24)).keeps.cell M3
  go_region
  obtain ⟨nx, HNX⟩ : ∃ nx, Hid ((a1 : Int) * 65536 + (a2 : Int) * 256 + (a3 : Int) = nx) := ⟨_, hide rfl⟩
  rw [HNX.out]
  try rw [HNX.out]
  obtain ⟨hp, HHP⟩ : ∃ hp, Hid (W1.heap.size = hp) := ⟨_, hide rfl⟩
  obtain ⟨W2, hX2, hR2, hg⟩ : ∃ W2, Ext W1 W2 ∧ Rw W2 W1.heap.size 24 [.int .u8 (a0 : Int), .int .i64 nx, .slice none 0 0] ∧ (W1.alloc (.cells #[.int .u8 (a0 : Int), .int .i64 nx, .slice none 0 0] 24)).drew = W2 := ⟨_, (Ext.alloc _ _).trans (Ext.drew _), (Rw.new W1 24 [.int .u8 (a0 : Int), .int .i64 nx, .slice none 0 0]).ext (Ext.drew _), rfl⟩
  rw [hg]
  rw [HHP.out] at hR2 hsz ⊢
  have X2 := hide (X1.out.trans hX2)
  have RB2 := hide (RB.out.ext hX2)
  have RP2 := hide hR2
  have HBP : Hid (hb < hp) := hide (by rw [← HHP.out]; exact RB.out.lt)
  have HBW : Hid (w.heap.size ≤ hb) := hide (by rw [HHB.out]; exact Nat.le_refl _)
  clear hg hX2 hR2 N0 N1 N2 N3 M0 M1 M2 M3 q1 q2 q3 hsz X1 RB
  go_upto_region 6 with fail
  go_loopw [5, 6] (fun pv iv wr => ∃ (k q : Nat) (L : List Cl) (v : Value), k ≤ a4 ∧ q ≤ 504 ∧ pv = .int .i64 (q : Int) ∧ iv = .int .i64 (k : Int) ∧ Hid (decC k (l.drop 6) = some (L, l.drop q)) ∧ Hid (L.length = k) ∧ Hid (Ext w wr) ∧ Hid (Rw wr hb 24 [.int .u8 0, .int .i64 0, .slice none 0 0]) ∧ Hid (Rw wr hp 24 [.int .u8 (a0 : Int), .int .i64 nx, v]) ∧ Hid (OwnV w (hp + 1) L wr v)) (fun _ iv _ => a4 - (intOf iv).toNat)
  case atStart => exact ⟨0, 6, [], .slice none 0 0, Nat.zero_le _, by omega, rfl, rfl, hide rfl, hide rfl, X2, RB2, RP2, hide (OwnV.nil _ _ _)⟩
  case round =>
    obtain ⟨k, q, L, v, hk, hq, rfl, rfl, HDC, HLL, HX, HBX, HPX, HCO⟩ := hrel
    clear RB2 RP2 X2
    have M4 := HX.out.keeps.cell HM4.out
    have HBP1 := HBP.out
    by_cases hlt : k < a4
    · have hki : (k : Int) < (a4 : Int) := by omega
      by_cases h2 : q + 2 ≤ 504
      · obtain ⟨ua, ga⟩ : ∃ u, l[q]? = some u := ⟨_, List.getElem?_eq_getElem (by have := HN.out; omega)⟩
        obtain ⟨ub, gb⟩ : ∃ u, l[q + 1]? = some u := ⟨_, List.getElem?_eq_getElem (by have := HN.out; omega)⟩
        obtain ⟨z1, z2, hz, hcells⟩ := HR.out (by intro e; have := HN.out; rw [e] at this; cases this)
        injection hz with hz
        injection hz with hz1 hz2 hz3
        subst hz1 hz2
        have ka := HX.out.keeps.cell (hcells q ua ga)
        have kb := HX.out.keeps.cell (hcells (q + 1) ub gb)
        obtain ⟨a, HA⟩ : ∃ a, Hid (ua.toNat = a) := ⟨_, hide rfl⟩
        obtain ⟨b, HB⟩ : ∃ b, Hid (ub.toNat = b) := ⟨_, hide rfl⟩
        have HFB := hide (firstB_at ga gb)
        rw [HA.out, HB.out, HN.out] at HFB
        rw [HA.out] at ka
        rw [HB.out] at kb
        have ha : (a : Int) ≤ 255 := by have := ua.toNat_lt; have := HA.out; omega
        have hb5 : (b : Int) ≤ 255 := by have := ub.toNat_lt; have := HB.out; omega
        have h2i : ¬ (504 : Int) < (q : Int) + 2 := by omega
        have hq0 : (q : Int) < 504 := by omega
        have hq1 : (q : Int) + 1 < 504 := by omega
        have hq2 : (q : Int) ≤ 504 := by omega
        clear hcells hz3 ga gb
        by_cases h4 : q + 2 + a + b ≤ 504
        · have h4i : ¬ (504 : Int) < (q : Int) + 2 + (a : Int) + (b : Int) := by omega
          go_upto_region 14 with fail
          obtain ⟨Av, cv, hv, -⟩ := HCO.out.slice
          rw [HLL.out] at hv
          subst hv
          obtain ⟨x, HXE⟩ : ∃ x : Cl, Hid (((l.drop (q + 2)).take a, (l.drop (q + 2 + a)).take b) = x) := ⟨_, hide rfl⟩
          have HF1 : Hid (firstB (l.drop q) = some (x, 2 + a + b)) := hide (by rw [HFB.out, if_pos h4, HXE.out])
          have C1 : Hid (c ≠ 0) := hide (by have := HNC.out; omega)
          have HC1 := hide (fun (W : World) => run_cut (some ⟨bl, off, none⟩) 504 c (q + 2) (q + 2 + a) a rfl (by omega) (by have := HNC.out; omega) W)
          have HC2 := hide (fun (W : World) => run_cut (some ⟨bl, off, none⟩) 504 c (q + 2 + a) (q + 2 + a + b) b rfl (by omega) (by have := HNC.out; omega) W)
          rw [show ((q + 2 : Nat) : Int) = (q : Int) + 2 by omega, show ((q + 2 + a : Nat) : Int) = (q : Int) + 2 + (a : Int) by omega] at HC1
          rw [show ((q + 2 + a : Nat) : Int) = (q : Int) + 2 + (a : Int) by omega, show ((q + 2 + a + b : Nat) : Int) = (q : Int) + 2 + (a : Int) + (b : Int) by omega] at HC2
          have R1 := HR.out.cut HN.out HNC.out (q + 2) a (by omega)
          have R2 := HR.out.cut HN.out HNC.out (q + 2 + a) b (by omega)
          have E1 : (l.drop (q + 2)).take a = x.1 := by rw [← HXE.out]
          have E2 : (l.drop (q + 2 + a)).take b = x.2 := by rw [← HXE.out]
          have L1 : x.1.length = a := by rw [← E1, List.length_take, List.length_drop, HN.out]; omega
          have L2 : x.2.length = b := by rw [← E2, List.length_take, List.length_drop, HN.out]; omega
          rw [E1] at R1
          rw [E2] at R2
          have HXd := hide (HX.out.trans (Ext.drew wr))
          have HBXd := hide (HBX.out.ext (Ext.drew wr))
          have HPXd := hide (HPX.out.ext (Ext.drew wr))
          have HCOd := hide (HCO.out.ext (Ext.drew wr))
          obtain ⟨A', c', W2, hrun, hown, hgr⟩ := append_cl (W := wr.drew) (B := hp + 1) (x := x) HCOd.out HLL.out (by omega) R1 R2 L1 L2 (d1 := c - (q + 2)) (d2 := c - (q + 2 + a)) (by have := HNC.out; omega) (by have := HNC.out; omega) HPXd.out.lt 22
          have HRUN := hide hrun
          have HVB : Hid (∀ g, (Value.slice Av k cv).ownBlock = some g → hp + 1 ≤ g) := hide (fun g hg => (HCOd.out.at g hg).1)
          have XA := Ext.alloc wr.drew (.cells #[.slice (cutB (some ⟨bl, off, none⟩) c (q + 2)) a (c - (q + 2)), .slice (cutB (some ⟨bl, off, none⟩) c (q + 2 + a)) b (c - (q + 2 + a))] 40)
          have P0 := hide (HPXd.out.cell (i := 2) rfl)
          have P1 := hide ((HPXd.out.ext XA).cell (i := 2) rfl)
          have PW : Hid (Rw W2 hp 24 [.int .u8 (a0 : Int), .int .i64 nx, .slice Av k cv]) := hide ((hgr.block hp (HPXd.out.ext XA).lt (fun e => by have := HVB.out hp e.symm; omega)).trans (HPXd.out.ext XA))
          have RW2 : Hid (Rw W2 hb 24 [.int .u8 0, .int .i64 0, .slice none 0 0]) := hide ((hgr.block hb (HBXd.out.ext XA).lt (fun e => by have := HVB.out hb e.symm; have := HBP.out; omega)).trans (HBXd.out.ext XA))
          have XW : Hid (Ext w W2) := hide ((HXd.out.trans XA).grown hgr (HXd.out.trans XA).size (fun g hg => by have := HVB.out g hg; have := HBP.out; have := HBW.out; omega))
          have OW := hide hown
          have HC3 := hide (PW.out.cell (i := 2) rfl)
          have HF3 := hide (PW.out.frozen 2)
          clear XA hgr hown hrun R1 R2 E1 E2 L1 L2 HBX HPX HCO HX HBXd HPXd HCOd HXd
          refine wp_region_chain [.pointer (some ⟨hp, 2, none⟩), .slice Av k cv, .slice (some ⟨bl, off, none⟩) 504 c, .int .i64 (q : Int), .int .i64 ((q : Int) + 2), .int .i64 ((q : Int) + 2 + (a : Int)), .slice (cutB (some ⟨bl, off, none⟩) c (q + 2)) a (c - (q + 2)), .slice (some ⟨bl, off, none⟩) 504 c, .int .i64 ((q : Int) + 2 + (a : Int)), .int .i64 ((q : Int) + 2 + (a : Int) + (b : Int)), .slice (cutB (some ⟨bl, off, none⟩) c (q + 2 + a)) b (c - (q + 2 + a)), .agg #[.slice (cutB (some ⟨bl, off, none⟩) c (q + 2)) a (c - (q + 2)), .slice (cutB (some ⟨bl, off, none⟩) c (q + 2 + a)) b (c - (q + 2 + a))], .slice (some ⟨wr.drew.heap.size, 0, none⟩) 1 1, .slice A' (k + 1) c', .pointer (some ⟨hp, 2, none⟩), undef]
            [wr.drew, wr.drew.alloc (.cells #[.slice (cutB (some ⟨bl, off, none⟩) c (q + 2)) a (c - (q + 2)), .slice (cutB (some ⟨bl, off, none⟩) c (q + 2 + a)) b (c - (q + 2 + a))] 40), W2, W2.setCell ⟨hp, 2, none⟩ (.slice A' (k + 1) c')] [12, 13, 15] (by kernel_rfl) (by kernel_rfl) (by kernel_rfl) rfl ?_ ?_
          · refine ⟨?_, ?_, ?_, ?_, ?_, ?_, ?_, ?_, ?_, ?_, ?_, ?_, ?_, ?_, ?_, ?_, trivial⟩
            · intro az hk H
              rw [if_neg (by decide)]
              intro j _
              exact .inl ⟨wanted_none rfl, gives_fieldP rfl (ev (show az.tmps[4]? = some (.pointer (some ⟨hp, 0, none⟩)) from hk 4 rfl)) (run_fieldQ _ 2 (by simp) _) ⟨rfl, rfl⟩⟩
            · intro az hk H
              rw [if_neg (by decide)]
              intro j hj
              have hj2 : j ≤ 1 := hj
              refine .inl ⟨wanted_none rfl, ?_⟩
              rcases j with _ | _ | j
              · exact gives_load_one rfl (ev (H 0 rfl _ rfl 64 rfl)) Try.underlying22 P0.out ⟨rfl, rfl⟩
              · exact gives_load_one rfl (ev (H 0 rfl _ rfl 64 rfl)) Try.underlying22 P1.out ⟨rfl, rfl⟩
              · omega
            · intro az hk H
              rw [if_neg (by decide)]
              intro j _
              exact .inl ⟨wanted_none rfl, gives_move rfl (by rw [ev (show az.tmps[0]? = some (.slice (some ⟨bl, off, none⟩) 504 c) from hk 0 rfl)]; exact ⟨rfl, rfl⟩)⟩
            · intro az hk H
              rw [if_neg (by decide)]
              intro j _
              exact .inl ⟨wanted_none rfl, gives_move rfl (by rw [ev (show az.tmps[5]? = some (.int .i64 (q : Int)) from hk 5 rfl)]; exact ⟨rfl, rfl⟩)⟩
            · intro az hk H
              rw [if_neg (by decide)]
              intro j _
              exact .inl ⟨wanted_none rfl, gives_bin rfl (ev (H 3 rfl _ rfl 67 rfl)) rfl (by simp [go_sem]) (by simp [go_sem, IntKind.wrap_i64]; omega) ⟨rfl, rfl⟩⟩
            · intro az hk H
              rw [if_neg (by decide)]
              intro j _
              exact .inl ⟨wanted_none rfl, gives_move rfl (by rw [ev (show az.tmps[7]? = some (.int .i64 ((q : Int) + 2 + (a : Int))) from hk 7 rfl)]; exact ⟨rfl, rfl⟩)⟩
            · intro az hk H
              rw [if_neg (by decide)]
              intro j _
              exact .inl ⟨wanted_none rfl, gives_slice2 rfl (ev (H 2 rfl _ rfl 66 rfl)) (ev (H 4 rfl _ rfl 68 rfl)) (ev (H 5 rfl _ rfl 69 rfl)) (HC1.out _) ⟨rfl, rfl⟩⟩
            · intro az hk H
              rw [if_neg (by decide)]
              intro j _
              exact .inl ⟨wanted_none rfl, gives_move rfl (by rw [ev (show az.tmps[0]? = some (.slice (some ⟨bl, off, none⟩) 504 c) from hk 0 rfl)]; exact ⟨rfl, rfl⟩)⟩
            · intro az hk H
              rw [if_neg (by decide)]
              intro j _
              exact .inl ⟨wanted_none rfl, gives_move rfl (by rw [ev (show az.tmps[7]? = some (.int .i64 ((q : Int) + 2 + (a : Int))) from hk 7 rfl)]; exact ⟨rfl, rfl⟩)⟩
            · intro az hk H
              rw [if_neg (by decide)]
              intro j _
              exact .inl ⟨wanted_none rfl, gives_move rfl (by rw [ev (show az.tmps[8]? = some (.int .i64 ((q : Int) + 2 + (a : Int) + (b : Int))) from hk 8 rfl)]; exact ⟨rfl, rfl⟩)⟩
            · intro az hk H
              rw [if_neg (by decide)]
              intro j _
              exact .inl ⟨wanted_none rfl, gives_slice2 rfl (ev (H 7 rfl _ rfl 71 rfl)) (ev (H 8 rfl _ rfl 72 rfl)) (ev (H 9 rfl _ rfl 73 rfl)) (HC2.out _) ⟨rfl, rfl⟩⟩
            · intro az hk H
              rw [if_neg (by decide)]
              intro j _
              exact .inl ⟨wanted_none rfl, gives_build rfl _ [(0, (.slice (cutB (some ⟨bl, off, none⟩) c (q + 2)) a (c - (q + 2)))), (1, (.slice (cutB (some ⟨bl, off, none⟩) c (q + 2 + a)) b (c - (q + 2 + a))))] (by show [(0, az.eval (.tmp 70)), (1, az.eval (.tmp 74))] = _; rw [ev (H 6 rfl _ rfl 70 rfl), ev (H 10 rfl _ rfl 74 rfl)]; rfl) (built_cell _ _ _ _ _ _) ⟨rfl, rfl⟩⟩
            · intro az hk H
              rw [if_pos (by decide)]
              intro j hj
              obtain rfl : j = 0 := by
                rcases j with _ | _ | _ | j
                · rfl
                · exact absurd hj (by decide)
                · exact absurd hj (by decide)
                · exact absurd hj (by simp)
              refine ⟨wanted_none rfl, ?_⟩
              exact gives_buildSlice rfl [(0, .agg #[.slice (cutB (some ⟨bl, off, none⟩) c (q + 2)) a (c - (q + 2)), .slice (cutB (some ⟨bl, off, none⟩) c (q + 2 + a)) b (c - (q + 2 + a))])] (by show [(0, az.eval (.tmp 75))] = _; rw [ev (H 11 rfl _ rfl 75 rfl)]; rfl) (build_cell _ _ _ _ _ _ _ _ _ rfl rfl) ⟨rfl, rfl⟩
            · intro az hk H
              rw [if_pos (by decide)]
              intro j hj
              obtain rfl : j = 1 := by
                rcases j with _ | _ | _ | j
                · exact absurd hj (by decide)
                · rfl
                · exact absurd hj (by decide)
                · exact absurd hj (by simp)
              refine ⟨wanted_none rfl, ?_⟩
              exact gives_append rfl (ev (H 1 rfl _ rfl 65 rfl)) (ev (H 12 rfl _ rfl 76 rfl)) HRUN.out ⟨rfl, rfl⟩
            · intro az hk H
              rw [if_neg (by decide)]
              intro j _
              exact .inl ⟨wanted_none rfl, gives_fieldP rfl (ev (show az.tmps[4]? = some (.pointer (some ⟨hp, 0, none⟩)) from hk 4 rfl)) (run_fieldQ _ 2 (by simp) _) ⟨rfl, rfl⟩⟩
            · intro az hk H
              rw [if_pos (by decide)]
              intro j hj
              obtain rfl : j = 2 := by
                rcases j with _ | _ | _ | j
                · exact absurd hj (by decide)
                · exact absurd hj (by decide)
                · rfl
                · exact absurd hj (by simp)
              refine ⟨wanted_none rfl, ?_⟩
              exact gives_store_one rfl (ev (H 14 rfl _ rfl 78 rfl)) (ev (H 13 rfl _ rfl 77 rfl)) (run_storeS HC3.out HF3.out _ _ _) ⟨rfl, rfl⟩
          · simp only [setsOf, List.zipIdx_cons, List.zipIdx_nil, List.filterMap_cons, List.filterMap_nil, Option.map_some, Option.map_none, List.foldl_cons, List.foldl_nil, List.setIfInBounds_toArray, List.set_cons_succ, List.set_cons_zero, List.getD_cons_zero, List.getD_cons_succ, Nat.zero_add, List.length_cons, List.length_nil]
            obtain ⟨w6, hX6, hR6, hP6, hC6, hg⟩ : ∃ w6, Ext w w6 ∧ Rw w6 hb 24 [.int .u8 0, .int .i64 0, .slice none 0 0] ∧ Rw w6 hp 24 [.int .u8 (a0 : Int), .int .i64 nx, .slice A' (k + 1) c'] ∧ OwnV w (hp + 1) (L ++ [x]) w6 (.slice A' (k + 1) c') ∧ W2.setCell ⟨hp, 2, none⟩ (.slice A' (k + 1) c') = w6 :=
              ⟨_, Below.setCell (p := ⟨hp, 2, none⟩) XW.out (by show w.heap.size ≤ hp; have := HBP.out; have := HBW.out; omega) _, RW2.out.far (by show hb ≠ hp; have := HBP.out; omega) _, PW.out.set 2 _, OW.out.same (Nat.lt_succ_self hp) (fun j hj _ => Below.heap_setCell W2 ⟨hp, 2, none⟩ _ j hj), rfl⟩
            rw [hg]
            have X6 := hide hX6
            have R6 := hide hR6
            have P6 := hide hP6
            have C6 := hide hC6
            clear hg hX6 hR6 hP6 hC6 XW RW2 PW OW HC3 HF3 P0 P1 HC1 HC2 HRUN
            go_wp2
            refine ⟨⟨k + 1, q + 2 + a + b, L ++ [x], .slice A' (k + 1) c', by omega, by omega, by go_num, by go_num, hide (by have h := decC_snoc HF1.out k _ L HDC.out; rw [List.drop_drop] at h; rw [h, show q + (2 + a + b) = q + 2 + a + b by omega]), hide (by rw [List.length_append, HLL.out]; rfl), X6, R6, P6, C6⟩, by simp [intOf]; omega⟩
        · have h4i : (504 : Int) < (q : Int) + 2 + (a : Int) + (b : Int) := by omega
          have HF0 : Hid (firstB (l.drop q) = none) := hide (by rw [HFB.out, if_neg h4])
          go_upto_region 13 with fail
          obtain ⟨w4, hX4, hg⟩ : ∃ w4, Ext wr w4 ∧ wr = w4 := ⟨_, Ext.refl _, rfl⟩
          rw [hg]
          have X4 := hide (HX.out.trans hX4)
          have R4 := hide (HBX.out.ext hX4)
          clear hg hX4
          have k0 := R4.out.cell (i := 0) rfl
          have k1 := R4.out.cell (i := 1) rfl
          have k2 := R4.out.cell (i := 2) rfl
          have f0 := R4.out.frozen 0
          have f1 := R4.out.frozen 1
          have f2 := R4.out.frozen 2
          go_wp2
          have R5 := (((R4.out.set 0 (.int .u8 0)).set 1 (.int .i64 0)).set 2 (.slice none 0 0))
          have e0 := R5.cell (i := 0) rfl
          have e1 := R5.cell (i := 1) rfl
          have e2 := R5.cell (i := 2) rfl
          have XE : Ext w (((w4.setCell ⟨hb, 0, none⟩ (.int .u8 0)).setCell ⟨hb, 1, none⟩ (.int .i64 0)).setCell ⟨hb, 2, none⟩ (.slice none 0 0)) := Below.setCell (p := ⟨hb, 2, none⟩) (Below.setCell (p := ⟨hb, 1, none⟩) (Below.setCell (p := ⟨hb, 0, none⟩) X4.out HBW.out _) HBW.out _) HBW.out _
          refine bodyPost_ret (v := .tuple #[.agg #[.int .u8 0, .int .i64 0, .slice none 0 0], .bool false]) (by simp [results, Try.results20, go_sem, e0, e1, e2]; try rfl) rfl ?_
          exact Ret.mk XE (.inr ⟨rfl, fun L2 ⟨r2, hd, _⟩ => by rw [decC_none HF0.out k _ L a4 HDC.out hlt] at hd; cases hd⟩)
      · have h2i : (504 : Int) < (q : Int) + 2 := by omega
        have hq2 : (q : Int) ≤ 504 := by omega
        have HF0 : Hid (firstB (l.drop q) = none) := hide (firstB_short (by have := HN.out; omega))
        go_upto_region 9 with fail
        obtain ⟨w4, hX4, hg⟩ : ∃ w4, Ext wr w4 ∧ wr = w4 := ⟨_, Ext.refl _, rfl⟩
        rw [hg]
        have X4 := hide (HX.out.trans hX4)
        have R4 := hide (HBX.out.ext hX4)
        clear hg hX4
        have k0 := R4.out.cell (i := 0) rfl
        have k1 := R4.out.cell (i := 1) rfl
        have k2 := R4.out.cell (i := 2) rfl
        have f0 := R4.out.frozen 0
        have f1 := R4.out.frozen 1
        have f2 := R4.out.frozen 2
        go_wp2
        have R5 := (((R4.out.set 0 (.int .u8 0)).set 1 (.int .i64 0)).set 2 (.slice none 0 0))
        have e0 := R5.cell (i := 0) rfl
        have e1 := R5.cell (i := 1) rfl
        have e2 := R5.cell (i := 2) rfl
        have XE : Ext w (((w4.setCell ⟨hb, 0, none⟩ (.int .u8 0)).setCell ⟨hb, 1, none⟩ (.int .i64 0)).setCell ⟨hb, 2, none⟩ (.slice none 0 0)) := Below.setCell (p := ⟨hb, 2, none⟩) (Below.setCell (p := ⟨hb, 1, none⟩) (Below.setCell (p := ⟨hb, 0, none⟩) X4.out HBW.out _) HBW.out _) HBW.out _
        refine bodyPost_ret (v := .tuple #[.agg #[.int .u8 0, .int .i64 0, .slice none 0 0], .bool false]) (by simp [results, Try.results20, go_sem, e0, e1, e2]; try rfl) rfl ?_
        exact Ret.mk XE (.inr ⟨rfl, fun L2 ⟨r2, hd, _⟩ => by rw [decC_none HF0.out k _ L a4 HDC.out hlt] at hd; cases hd⟩)
    · have hki : ¬ (k : Int) < (a4 : Int) := by omega
      obtain rfl : k = a4 := by omega
      go_upto_region 16 with fail
      obtain ⟨Av, cv, hv, -, hrc⟩ := (HCO.out.cells HX.out)
      rw [HLL.out] at hv
      subst hv
      have HSM := hide (decC_small k _ L _ HDC.out)
      obtain ⟨t3, HT3⟩ : ∃ t, Hid (formB (a0 : Int) nx L = t) := ⟨_, hide rfl⟩
      have KF := hide (fun (W : World) (hW : Keeps wr W) => (show Calls Try.prog 13 #[.agg #[.int .u8 (a0 : Int), .int .i64 nx, .slice Av k cv]] W (Ret W (Is (.bool t3))) from by
        have h := rform_any (a0 : Int) nx k cv W (hrc.keep hW) HLL.out (by omega) HSM.out
        rw [HT3.out] at h
        exact h))
      have RL := hide (HR.out.ext HX.out)
      rename_i hK
      cases t3 with
      | false =>
        refine wp_region_sp (Nat.le_refl _) [
            Sp.is (.agg #[.int .u8 (a0 : Int), .int .i64 nx, .slice Av k cv]),
            Sp.is (.bool false),
            Sp.is (.bool true),
            Sp.is (.bool true),
            Sp.is undef,
            Sp.is undef,
            Sp.is undef,
            Sp.is undef,
            Sp.is undef,
            Sp.is undef,
            Sp.is (.bool true)] (by kernel_rfl) (by kernel_rfl) ?_ ?_
        · refine ⟨?_, ?_, ?_, ?_, ?_, ?_, ?_, ?_, ?_, ?_, ?_, trivial⟩
          · intro az wz hx hB hk H
            refine .inl ⟨wanted_none rfl, ?_⟩
            refine gives_load_at 24 (.tmp 4) rfl hp 0 (by rw [(ev (show az.tmps[4]? = some (.pointer (some ⟨hp, 0, none⟩)) from hk 4 rfl))]) [.int .u8 (a0 : Int), .int .i64 nx, .slice Av k cv] 3 (agg_struct Try.underlying24 _) sizePage rfl (fun j v hj => by rw [Nat.zero_add]; exact hx.keeps.cell (HPX.out.cell hj)) ?_
            exact ⟨Grw.refl _ _, rfl⟩
          · intro az wz hx hB hk H
            obtain ⟨v80, h80, s80⟩ := H 0 rfl _ rfl 80 rfl
            refine .inl ⟨wanted_none rfl, ?_⟩
            refine gives_call rfl Try.call13 (by simp only [List.map_toArray, List.map_cons, List.map_nil, ev h80]; rw [s80]) ?_
            exact (KF.out wz hx.keeps).mono fun _ _ h => h.grw hB
          · intro az wz hx hB hk H
            obtain ⟨v81, h81, s81⟩ := H 1 rfl _ rfl 81 rfl
            refine .inl ⟨wanted_none rfl, ?_⟩
            refine gives_not false rfl (by rw [ev h81, s81]) ⟨Grw.refl _ _, rfl⟩
          · intro az wz hx hB hk H
            obtain ⟨v82, h82, s82⟩ := H 2 rfl _ rfl 82 rfl
            refine .inl ⟨wanted_none rfl, ?_⟩
            refine gives_move rfl ?_
            rw [(ev h82)]
            exact ⟨Grw.refl _ _, s82⟩
          · intro az wz hx hB hk H
            obtain ⟨v83, h83, s83⟩ := H 3 rfl _ rfl 83 rfl
            obtain rfl : v83 = .bool !false := s83
            exact .inr ⟨wanted_no _ rfl rfl rfl h83, rfl⟩
          · intro az wz hx hB hk H
            obtain ⟨v83, h83, s83⟩ := H 3 rfl _ rfl 83 rfl
            obtain rfl : v83 = .bool !false := s83
            exact .inr ⟨wanted_no _ rfl rfl rfl h83, rfl⟩
          · intro az wz hx hB hk H
            obtain ⟨v83, h83, s83⟩ := H 3 rfl _ rfl 83 rfl
            obtain rfl : v83 = .bool !false := s83
            exact .inr ⟨wanted_no _ rfl rfl rfl h83, rfl⟩
          · intro az wz hx hB hk H
            obtain ⟨v83, h83, s83⟩ := H 3 rfl _ rfl 83 rfl
            obtain rfl : v83 = .bool !false := s83
            exact .inr ⟨wanted_no _ rfl rfl rfl h83, rfl⟩
          · intro az wz hx hB hk H
            obtain ⟨v83, h83, s83⟩ := H 3 rfl _ rfl 83 rfl
            obtain rfl : v83 = .bool !false := s83
            exact .inr ⟨wanted_no _ rfl rfl rfl h83, rfl⟩
          · intro az wz hx hB hk H
            obtain ⟨v83, h83, s83⟩ := H 3 rfl _ rfl 83 rfl
            obtain rfl : v83 = .bool !false := s83
            exact .inr ⟨wanted_no _ rfl rfl rfl h83, rfl⟩
          · intro az wz hx hB hk H
            obtain ⟨v83, h83, s83⟩ := H 3 rfl _ rfl 83 rfl
            refine .inl ⟨wanted_none rfl, ?_⟩
            refine gives_pick true rfl ?_ ?_
            · rw [(ev h83)]
              exact s83
            · show Grw _ _ _ ∧ _
              exact ⟨Grw.refl _ _, rfl⟩
        · intro az wz hx hd hs hv hsame
          obtain ⟨v80, h80, s80⟩ := hv 0 _ 80 rfl rfl
          obtain rfl : v80 = (.agg #[.int .u8 (a0 : Int), .int .i64 nx, .slice Av k cv]) := s80
          obtain ⟨v81, h81, s81⟩ := hv 1 _ 81 rfl rfl
          obtain rfl : v81 = (.bool false) := s81
          obtain ⟨v82, h82, s82⟩ := hv 2 _ 82 rfl rfl
          obtain rfl : v82 = (.bool true) := s82
          obtain ⟨v83, h83, s83⟩ := hv 3 _ 83 rfl rfl
          obtain rfl : v83 = (.bool true) := s83
          obtain ⟨v84, h84, s84⟩ := hv 4 _ 84 rfl rfl
          obtain rfl : v84 = undef := s84
          obtain ⟨v85, h85, s85⟩ := hv 5 _ 85 rfl rfl
          obtain rfl : v85 = undef := s85
          obtain ⟨v86, h86, s86⟩ := hv 6 _ 86 rfl rfl
          obtain rfl : v86 = undef := s86
          obtain ⟨v87, h87, s87⟩ := hv 7 _ 87 rfl rfl
          obtain rfl : v87 = undef := s87
          obtain ⟨v88, h88, s88⟩ := hv 8 _ 88 rfl rfl
          obtain rfl : v88 = undef := s88
          obtain ⟨v89, h89, s89⟩ := hv 9 _ 89 rfl rfl
          obtain rfl : v89 = undef := s89
          obtain ⟨v90, h90, s90⟩ := hv 10 _ 90 rfl rfl
          obtain rfl : v90 = (.bool true) := s90
          have hfr := frame_last (k := 11) [(80, (.agg #[.int .u8 (a0 : Int), .int .i64 nx, .slice Av k cv])), (81, (.bool false)), (82, (.bool true)), (83, (.bool true)), (84, undef), (85, undef), (86, undef), (87, undef), (88, undef), (89, undef), (90, (.bool true))] hs (by kernel_rfl) (by simp only [List.forall_mem_cons, List.not_mem_nil, false_implies, implies_true, and_true]; exact ⟨h80, h81, h82, h83, h84, h85, h86, h87, h88, h89, h90⟩) (fun t' h => hsame t' fun i o ho => h i o (by intro e; subst e; cases ho) ho)
          simp only [List.foldl_cons, List.foldl_nil, List.setIfInBounds_toArray, List.set_cons_succ, List.set_cons_zero] at hfr
          obtain ⟨tm, df⟩ := az
          simp only [] at hfr hd
          subst hfr hd
          clear hv hsame hs h80 h81 h82 h83 h84 h85 h86 h87 h88 h89 h90
          have hxe : Ext wr wz := (Ext.refl wr).grw hx
          refine hK _ _ ?_
          obtain ⟨w4, hX4, hg⟩ : ∃ w4, Ext wr w4 ∧ wz = w4 := ⟨_, hxe, rfl⟩
          rw [hg]
          have X4 := hide (HX.out.trans hX4)
          have R4 := hide (HBX.out.ext hX4)
          have P4 := hide (HPX.out.ext hX4)
          have C4 := hide (HCO.out.ext hX4)
          clear hg hX4 hxe hx KF
          have k0 := R4.out.cell (i := 0) rfl
          have k1 := R4.out.cell (i := 1) rfl
          have k2 := R4.out.cell (i := 2) rfl
          have f0 := R4.out.frozen 0
          have f1 := R4.out.frozen 1
          have f2 := R4.out.frozen 2
          go_wp2
          have R5 := (((R4.out.set 0 (.int .u8 0)).set 1 (.int .i64 0)).set 2 (.slice none 0 0))
          have e0 := R5.cell (i := 0) rfl
          have e1 := R5.cell (i := 1) rfl
          have e2 := R5.cell (i := 2) rfl
          have XE : Ext w (((w4.setCell ⟨hb, 0, none⟩ (.int .u8 0)).setCell ⟨hb, 1, none⟩ (.int .i64 0)).setCell ⟨hb, 2, none⟩ (.slice none 0 0)) := Below.setCell (p := ⟨hb, 2, none⟩) (Below.setCell (p := ⟨hb, 1, none⟩) (Below.setCell (p := ⟨hb, 0, none⟩) X4.out HBW.out _) HBW.out _) HBW.out _
          refine bodyPost_ret (v := .tuple #[.agg #[.int .u8 0, .int .i64 0, .slice none 0 0], .bool false]) (by simp [results, Try.results20, go_sem, e0, e1, e2]; try rfl) rfl ?_
          exact Ret.mk XE (.inr ⟨rfl, by rw [HNX.out]; intro L2 ⟨r2, hd, h1, h2, h3⟩; rw [HDC.out] at hd; injection hd with hd; injection hd with hd1 hd2; subst hd1; rw [HT3.out] at h3; cases h3⟩)
      | true =>
        obtain ⟨EZ, HEZ⟩ : ∃ e, Hid (encZ (a0 : Int) nx L = e) := ⟨_, hide rfl⟩
        have KE := hide (fun (W : World) (hW : Keeps wr W) => (show Calls Try.prog 18 #[.agg #[.int .u8 (a0 : Int), .int .i64 nx, .slice Av k cv]] W (Ret W (Bytes EZ)) from by
          have h := rencode_rd (a0 : Int) nx k cv W (hrc.keep hW) HLL.out (by omega) HT3.out
          rw [HEZ.out] at h
          exact h))
        have HI := hide (HIFF.out L _ nx (by rw [HLL.out]; exact HDC.out) HNX.out HLL.out.symm HT3.out)
        rw [HEZ.out] at HI
        by_cases heq : EZ = l
        · have HPB : Hid (pageB l (a0 : Int) nx k L) := hide (by obtain ⟨i1, i2⟩ := HI.out.1 heq; exact ⟨_, HDC.out, i1, i2, HT3.out⟩)
          have HEB : Hid (Value.bool (decide (EZ ≠ l)) = .bool false) := hide (by simp [heq])
          have HEB : Hid (Value.bool (!(EZ == l)) = .bool false) := hide (by simp [heq])
          refine wp_region_sp (Nat.le_refl _) [
              Sp.is (.agg #[.int .u8 (a0 : Int), .int .i64 nx, .slice Av k cv]),
              Sp.is (.bool true),
              Sp.is (.bool false),
              Sp.is (.bool false),
              Sp.is (.agg #[.int .u8 (a0 : Int), .int .i64 nx, .slice Av k cv]),
              Sp.bytes EZ,
              Sp.is (.string ⟨(EZ).toArray⟩),
              Sp.is (.slice (some ⟨bl, off, none⟩) 504 c),
              Sp.is (.string ⟨(l).toArray⟩),
              Sp.is (.bool false),
              Sp.is (.bool false)] (by kernel_rfl) (by kernel_rfl) ?_ ?_
          · refine ⟨?_, ?_, ?_, ?_, ?_, ?_, ?_, ?_, ?_, ?_, ?_, trivial⟩
            · intro az wz hx hB hk H
              refine .inl ⟨wanted_none rfl, ?_⟩
              refine gives_load_at 24 (.tmp 4) rfl hp 0 (by rw [(ev (show az.tmps[4]? = some (.pointer (some ⟨hp, 0, none⟩)) from hk 4 rfl))]) [.int .u8 (a0 : Int), .int .i64 nx, .slice Av k cv] 3 (agg_struct Try.underlying24 _) sizePage rfl (fun j v hj => by rw [Nat.zero_add]; exact hx.keeps.cell (HPX.out.cell hj)) ?_
              exact ⟨Grw.refl _ _, rfl⟩
            · intro az wz hx hB hk H
              obtain ⟨v80, h80, s80⟩ := H 0 rfl _ rfl 80 rfl
              refine .inl ⟨wanted_none rfl, ?_⟩
              refine gives_call rfl Try.call13 (by simp only [List.map_toArray, List.map_cons, List.map_nil, ev h80]; rw [s80]) ?_
              exact (KF.out wz hx.keeps).mono fun _ _ h => h.grw hB
            · intro az wz hx hB hk H
              obtain ⟨v81, h81, s81⟩ := H 1 rfl _ rfl 81 rfl
              refine .inl ⟨wanted_none rfl, ?_⟩
              refine gives_not true rfl (by rw [ev h81, s81]) ⟨Grw.refl _ _, rfl⟩
            · intro az wz hx hB hk H
              obtain ⟨v82, h82, s82⟩ := H 2 rfl _ rfl 82 rfl
              refine .inl ⟨wanted_none rfl, ?_⟩
              refine gives_move rfl ?_
              rw [(ev h82)]
              exact ⟨Grw.refl _ _, s82⟩
            · intro az wz hx hB hk H
              obtain ⟨v83, h83, s83⟩ := H 3 rfl _ rfl 83 rfl
              have g0 : az.tmps[83]? = some (.bool false) := by rw [h83]; exact congrArg some s83
              refine .inl ⟨wanted_yes _ rfl rfl rfl g0, ?_⟩
              refine gives_load_at 24 (.tmp 4) rfl hp 0 (by rw [(ev (show az.tmps[4]? = some (.pointer (some ⟨hp, 0, none⟩)) from hk 4 rfl))]) [.int .u8 (a0 : Int), .int .i64 nx, .slice Av k cv] 3 (agg_struct Try.underlying24 _) sizePage rfl (fun j v hj => by rw [Nat.zero_add]; exact hx.keeps.cell (HPX.out.cell hj)) ?_
              exact ⟨Grw.refl _ _, rfl⟩
            · intro az wz hx hB hk H
              obtain ⟨v83, h83, s83⟩ := H 3 rfl _ rfl 83 rfl
              obtain ⟨v84, h84, s84⟩ := H 4 rfl _ rfl 84 rfl
              have g0 : az.tmps[83]? = some (.bool false) := by rw [h83]; exact congrArg some s83
              refine .inl ⟨wanted_yes _ rfl rfl rfl g0, ?_⟩
              refine gives_call rfl Try.call18 (by simp only [List.map_toArray, List.map_cons, List.map_nil, ev h84]; rw [s84]) ?_
              exact (KE.out wz hx.keeps).mono fun _ _ h => h.grw hB
            · intro az wz hx hB hk H
              obtain ⟨v83, h83, s83⟩ := H 3 rfl _ rfl 83 rfl
              obtain ⟨v85, h85, s85⟩ := H 5 rfl _ rfl 85 rfl
              have g0 : az.tmps[83]? = some (.bool false) := by rw [h83]; exact congrArg some s83
              refine .inl ⟨wanted_yes _ rfl rfl rfl g0, ?_⟩
              refine gives_str (EZ) rfl Try.underlying28 Try.underlying5 Try.underlying9 ?_ ⟨Grw.refl _ _, rfl⟩
              rw [(ev h85)]
              exact s85
            · intro az wz hx hB hk H
              obtain ⟨v83, h83, s83⟩ := H 3 rfl _ rfl 83 rfl
              have g0 : az.tmps[83]? = some (.bool false) := by rw [h83]; exact congrArg some s83
              refine .inl ⟨wanted_yes _ rfl rfl rfl g0, ?_⟩
              refine gives_move rfl ?_
              rw [(ev (show az.tmps[0]? = some (.slice (some ⟨bl, off, none⟩) 504 c) from hk 0 rfl))]
              exact ⟨Grw.refl _ _, rfl⟩
            · intro az wz hx hB hk H
              obtain ⟨v83, h83, s83⟩ := H 3 rfl _ rfl 83 rfl
              obtain ⟨v87, h87, s87⟩ := H 7 rfl _ rfl 87 rfl
              have g0 : az.tmps[83]? = some (.bool false) := by rw [h83]; exact congrArg some s83
              refine .inl ⟨wanted_yes _ rfl rfl rfl g0, ?_⟩
              refine gives_conv rfl (by rw [ev h87, s87]) (str_any (RL.out.keep hx.keeps) 504 c HN.out) ?_
              exact ⟨Grw.refl _ _, rfl⟩
            · intro az wz hx hB hk H
              obtain ⟨v83, h83, s83⟩ := H 3 rfl _ rfl 83 rfl
              obtain ⟨v86, h86, s86⟩ := H 6 rfl _ rfl 86 rfl
              obtain ⟨v88, h88, s88⟩ := H 8 rfl _ rfl 88 rfl
              have g0 : az.tmps[83]? = some (.bool false) := by rw [h83]; exact congrArg some s83
              refine .inl ⟨wanted_yes _ rfl rfl rfl g0, ?_⟩
              refine gives_bin rfl (by rw [ev h86, s86]) (by rw [ev h88, s88]) (by simp [go_sem]) (by simp [go_sem]) ⟨Grw.refl _ _, HEB.out⟩
            · intro az wz hx hB hk H
              obtain ⟨v83, h83, s83⟩ := H 3 rfl _ rfl 83 rfl
              obtain ⟨v89, h89, s89⟩ := H 9 rfl _ rfl 89 rfl
              refine .inl ⟨wanted_none rfl, ?_⟩
              refine gives_pick false rfl ?_ ?_
              · rw [(ev h83)]
                exact s83
              · show Grw _ _ _ ∧ _
                rw [if_neg (by decide), (ev h89)]
                exact ⟨Grw.refl _ _, s89⟩
          · intro az wz hx hd hs hv hsame
            obtain ⟨v80, h80, s80⟩ := hv 0 _ 80 rfl rfl
            obtain rfl : v80 = (.agg #[.int .u8 (a0 : Int), .int .i64 nx, .slice Av k cv]) := s80
            obtain ⟨v81, h81, s81⟩ := hv 1 _ 81 rfl rfl
            obtain rfl : v81 = (.bool true) := s81
            obtain ⟨v82, h82, s82⟩ := hv 2 _ 82 rfl rfl
            obtain rfl : v82 = (.bool false) := s82
            obtain ⟨v83, h83, s83⟩ := hv 3 _ 83 rfl rfl
            obtain rfl : v83 = (.bool false) := s83
            obtain ⟨v84, h84, s84⟩ := hv 4 _ 84 rfl rfl
            obtain rfl : v84 = (.agg #[.int .u8 (a0 : Int), .int .i64 nx, .slice Av k cv]) := s84
            obtain ⟨v85, h85, s85⟩ := hv 5 _ 85 rfl rfl
            obtain ⟨v86, h86, s86⟩ := hv 6 _ 86 rfl rfl
            obtain rfl : v86 = (.string ⟨(EZ).toArray⟩) := s86
            obtain ⟨v87, h87, s87⟩ := hv 7 _ 87 rfl rfl
            obtain rfl : v87 = (.slice (some ⟨bl, off, none⟩) 504 c) := s87
            obtain ⟨v88, h88, s88⟩ := hv 8 _ 88 rfl rfl
            obtain rfl : v88 = (.string ⟨(l).toArray⟩) := s88
            obtain ⟨v89, h89, s89⟩ := hv 9 _ 89 rfl rfl
            obtain rfl : v89 = (.bool false) := s89
            obtain ⟨v90, h90, s90⟩ := hv 10 _ 90 rfl rfl
            obtain rfl : v90 = (.bool false) := s90
            have hfr := frame_last (k := 11) [(80, (.agg #[.int .u8 (a0 : Int), .int .i64 nx, .slice Av k cv])), (81, (.bool true)), (82, (.bool false)), (83, (.bool false)), (84, (.agg #[.int .u8 (a0 : Int), .int .i64 nx, .slice Av k cv])), (85, v85), (86, (.string ⟨(EZ).toArray⟩)), (87, (.slice (some ⟨bl, off, none⟩) 504 c)), (88, (.string ⟨(l).toArray⟩)), (89, (.bool false)), (90, (.bool false))] hs (by kernel_rfl) (by simp only [List.forall_mem_cons, List.not_mem_nil, false_implies, implies_true, and_true]; exact ⟨h80, h81, h82, h83, h84, h85, h86, h87, h88, h89, h90⟩) (fun t' h => hsame t' fun i o ho => h i o (by intro e; subst e; cases ho) ho)
            simp only [List.foldl_cons, List.foldl_nil, List.setIfInBounds_toArray, List.set_cons_succ, List.set_cons_zero] at hfr
            obtain ⟨tm, df⟩ := az
            simp only [] at hfr hd
            subst hfr hd
            clear hv hsame hs h80 h81 h82 h83 h84 h85 h86 h87 h88 h89 h90
            have hxe : Ext wr wz := (Ext.refl wr).grw hx
            refine hK _ _ ?_
            obtain ⟨w4, hX4, hg⟩ : ∃ w4, Ext wr w4 ∧ wz = w4 := ⟨_, hxe, rfl⟩
            rw [hg]
            have X4 := hide (HX.out.trans hX4)
            have R4 := hide (HBX.out.ext hX4)
            have P4 := hide (HPX.out.ext hX4)
            have C4 := hide (HCO.out.ext hX4)
            clear hg hX4 hxe hx KF
            clear KE
            have z0 := P4.out.cell (i := 0) rfl
            have z1 := P4.out.cell (i := 1) rfl
            have z2 := P4.out.cell (i := 2) rfl
            have k0 := R4.out.cell (i := 0) rfl
            have k1 := R4.out.cell (i := 1) rfl
            have k2 := R4.out.cell (i := 2) rfl
            have f0 := R4.out.frozen 0
            have f1 := R4.out.frozen 1
            have f2 := R4.out.frozen 2
            go_wp2
            have R5 := (((R4.out.set 0 (.int .u8 (a0 : Int))).set 1 (.int .i64 nx)).set 2 (.slice Av k cv))
            have e0 := R5.cell (i := 0) rfl
            have e1 := R5.cell (i := 1) rfl
            have e2 := R5.cell (i := 2) rfl
            have XE : Ext w (((w4.setCell ⟨hb, 0, none⟩ (.int .u8 (a0 : Int))).setCell ⟨hb, 1, none⟩ (.int .i64 nx)).setCell ⟨hb, 2, none⟩ (.slice Av k cv)) := Below.setCell (p := ⟨hb, 2, none⟩) (Below.setCell (p := ⟨hb, 1, none⟩) (Below.setCell (p := ⟨hb, 0, none⟩) X4.out HBW.out _) HBW.out _) HBW.out _
            refine bodyPost_ret (v := .tuple #[.agg #[.int .u8 (a0 : Int), .int .i64 nx, .slice Av k cv], .bool true]) (by simp [results, Try.results20, go_sem, e0, e1, e2]; try rfl) rfl ?_
            refine Ret.mk XE (.inl ⟨L, Av, cv, by rw [HNX.out]; exact HPB.out, by rw [HNX.out, HLL.out], ?_⟩)
            have hbp : hb < hp + 1 := by omega
            obtain ⟨Az, cz, hvz, -, hrz⟩ := (((C4.out.same hbp (fun j hj _ => Below.heap_setCell w4 ⟨hb, 0, none⟩ (.int .u8 (a0 : Int)) j hj)).same hbp (fun j hj _ => Below.heap_setCell _ ⟨hb, 1, none⟩ (.int .i64 nx) j hj)).same hbp (fun j hj _ => Below.heap_setCell _ ⟨hb, 2, none⟩ (.slice Av k cv) j hj)).cells XE
            injection hvz with h1
            subst h1
            exact hrz
        · have HPB : Hid (∀ L2, ¬ pageB l (a0 : Int) nx k L2) := hide (fun L2 ⟨r2, hd, h1, h2, h3⟩ => by
            rw [HDC.out] at hd
            injection hd with hd
            injection hd with hd1 hd2
            subst hd1 hd2
            exact heq (HI.out.2 ⟨h1, h2⟩))
          have HEB : Hid (Value.bool (!(EZ == l)) = .bool true) := hide (by simp [heq])
          refine wp_region_sp (Nat.le_refl _) [
              Sp.is (.agg #[.int .u8 (a0 : Int), .int .i64 nx, .slice Av k cv]),
              Sp.is (.bool true),
              Sp.is (.bool false),
              Sp.is (.bool false),
              Sp.is (.agg #[.int .u8 (a0 : Int), .int .i64 nx, .slice Av k cv]),
              Sp.bytes EZ,
              Sp.is (.string ⟨(EZ).toArray⟩),
              Sp.is (.slice (some ⟨bl, off, none⟩) 504 c),
              Sp.is (.string ⟨(l).toArray⟩),
              Sp.is (.bool true),
              Sp.is (.bool true)] (by kernel_rfl) (by kernel_rfl) ?_ ?_
          · refine ⟨?_, ?_, ?_, ?_, ?_, ?_, ?_, ?_, ?_, ?_, ?_, trivial⟩
            · intro az wz hx hB hk H
              refine .inl ⟨wanted_none rfl, ?_⟩
              refine gives_load_at 24 (.tmp 4) rfl hp 0 (by rw [(ev (show az.tmps[4]? = some (.pointer (some ⟨hp, 0, none⟩)) from hk 4 rfl))]) [.int .u8 (a0 : Int), .int .i64 nx, .slice Av k cv] 3 (agg_struct Try.underlying24 _) sizePage rfl (fun j v hj => by rw [Nat.zero_add]; exact hx.keeps.cell (HPX.out.cell hj)) ?_
              exact ⟨Grw.refl _ _, rfl⟩
            · intro az wz hx hB hk H
              obtain ⟨v80, h80, s80⟩ := H 0 rfl _ rfl 80 rfl
              refine .inl ⟨wanted_none rfl, ?_⟩
              refine gives_call rfl Try.call13 (by simp only [List.map_toArray, List.map_cons, List.map_nil, ev h80]; rw [s80]) ?_
              exact (KF.out wz hx.keeps).mono fun _ _ h => h.grw hB
            · intro az wz hx hB hk H
              obtain ⟨v81, h81, s81⟩ := H 1 rfl _ rfl 81 rfl
              refine .inl ⟨wanted_none rfl, ?_⟩
              refine gives_not true rfl (by rw [ev h81, s81]) ⟨Grw.refl _ _, rfl⟩
            · intro az wz hx hB hk H
              obtain ⟨v82, h82, s82⟩ := H 2 rfl _ rfl 82 rfl
              refine .inl ⟨wanted_none rfl, ?_⟩
              refine gives_move rfl ?_
              rw [(ev h82)]
              exact ⟨Grw.refl _ _, s82⟩
            · intro az wz hx hB hk H
              obtain ⟨v83, h83, s83⟩ := H 3 rfl _ rfl 83 rfl
              have g0 : az.tmps[83]? = some (.bool false) := by rw [h83]; exact congrArg some s83
              refine .inl ⟨wanted_yes _ rfl rfl rfl g0, ?_⟩
              refine gives_load_at 24 (.tmp 4) rfl hp 0 (by rw [(ev (show az.tmps[4]? = some (.pointer (some ⟨hp, 0, none⟩)) from hk 4 rfl))]) [.int .u8 (a0 : Int), .int .i64 nx, .slice Av k cv] 3 (agg_struct Try.underlying24 _) sizePage rfl (fun j v hj => by rw [Nat.zero_add]; exact hx.keeps.cell (HPX.out.cell hj)) ?_
              exact ⟨Grw.refl _ _, rfl⟩
            · intro az wz hx hB hk H
              obtain ⟨v83, h83, s83⟩ := H 3 rfl _ rfl 83 rfl
              obtain ⟨v84, h84, s84⟩ := H 4 rfl _ rfl 84 rfl
              have g0 : az.tmps[83]? = some (.bool false) := by rw [h83]; exact congrArg some s83
              refine .inl ⟨wanted_yes _ rfl rfl rfl g0, ?_⟩
              refine gives_call rfl Try.call18 (by simp only [List.map_toArray, List.map_cons, List.map_nil, ev h84]; rw [s84]) ?_
              exact (KE.out wz hx.keeps).mono fun _ _ h => h.grw hB
            · intro az wz hx hB hk H
              obtain ⟨v83, h83, s83⟩ := H 3 rfl _ rfl 83 rfl
              obtain ⟨v85, h85, s85⟩ := H 5 rfl _ rfl 85 rfl
              have g0 : az.tmps[83]? = some (.bool false) := by rw [h83]; exact congrArg some s83
              refine .inl ⟨wanted_yes _ rfl rfl rfl g0, ?_⟩
              refine gives_str (EZ) rfl Try.underlying28 Try.underlying5 Try.underlying9 ?_ ⟨Grw.refl _ _, rfl⟩
              rw [(ev h85)]
              exact s85
            · intro az wz hx hB hk H
              obtain ⟨v83, h83, s83⟩ := H 3 rfl _ rfl 83 rfl
              have g0 : az.tmps[83]? = some (.bool false) := by rw [h83]; exact congrArg some s83
              refine .inl ⟨wanted_yes _ rfl rfl rfl g0, ?_⟩
              refine gives_move rfl ?_
              rw [(ev (show az.tmps[0]? = some (.slice (some ⟨bl, off, none⟩) 504 c) from hk 0 rfl))]
              exact ⟨Grw.refl _ _, rfl⟩
            · intro az wz hx hB hk H
              obtain ⟨v83, h83, s83⟩ := H 3 rfl _ rfl 83 rfl
              obtain ⟨v87, h87, s87⟩ := H 7 rfl _ rfl 87 rfl
              have g0 : az.tmps[83]? = some (.bool false) := by rw [h83]; exact congrArg some s83
              refine .inl ⟨wanted_yes _ rfl rfl rfl g0, ?_⟩
              refine gives_conv rfl (by rw [ev h87, s87]) (str_any (RL.out.keep hx.keeps) 504 c HN.out) ?_
              exact ⟨Grw.refl _ _, rfl⟩
            · intro az wz hx hB hk H
              obtain ⟨v83, h83, s83⟩ := H 3 rfl _ rfl 83 rfl
              obtain ⟨v86, h86, s86⟩ := H 6 rfl _ rfl 86 rfl
              obtain ⟨v88, h88, s88⟩ := H 8 rfl _ rfl 88 rfl
              have g0 : az.tmps[83]? = some (.bool false) := by rw [h83]; exact congrArg some s83
              refine .inl ⟨wanted_yes _ rfl rfl rfl g0, ?_⟩
              refine gives_bin rfl (by rw [ev h86, s86]) (by rw [ev h88, s88]) (by simp [go_sem]) (by simp [go_sem]) ⟨Grw.refl _ _, HEB.out⟩
            · intro az wz hx hB hk H
              obtain ⟨v83, h83, s83⟩ := H 3 rfl _ rfl 83 rfl
              obtain ⟨v89, h89, s89⟩ := H 9 rfl _ rfl 89 rfl
              refine .inl ⟨wanted_none rfl, ?_⟩
              refine gives_pick false rfl ?_ ?_
              · rw [(ev h83)]
                exact s83
              · show Grw _ _ _ ∧ _
                rw [if_neg (by decide), (ev h89)]
                exact ⟨Grw.refl _ _, s89⟩
          · intro az wz hx hd hs hv hsame
            obtain ⟨v80, h80, s80⟩ := hv 0 _ 80 rfl rfl
            obtain rfl : v80 = (.agg #[.int .u8 (a0 : Int), .int .i64 nx, .slice Av k cv]) := s80
            obtain ⟨v81, h81, s81⟩ := hv 1 _ 81 rfl rfl
            obtain rfl : v81 = (.bool true) := s81
            obtain ⟨v82, h82, s82⟩ := hv 2 _ 82 rfl rfl
            obtain rfl : v82 = (.bool false) := s82
            obtain ⟨v83, h83, s83⟩ := hv 3 _ 83 rfl rfl
            obtain rfl : v83 = (.bool false) := s83
            obtain ⟨v84, h84, s84⟩ := hv 4 _ 84 rfl rfl
            obtain rfl : v84 = (.agg #[.int .u8 (a0 : Int), .int .i64 nx, .slice Av k cv]) := s84
            obtain ⟨v85, h85, s85⟩ := hv 5 _ 85 rfl rfl
            obtain ⟨v86, h86, s86⟩ := hv 6 _ 86 rfl rfl
            obtain rfl : v86 = (.string ⟨(EZ).toArray⟩) := s86
            obtain ⟨v87, h87, s87⟩ := hv 7 _ 87 rfl rfl
            obtain rfl : v87 = (.slice (some ⟨bl, off, none⟩) 504 c) := s87
            obtain ⟨v88, h88, s88⟩ := hv 8 _ 88 rfl rfl
            obtain rfl : v88 = (.string ⟨(l).toArray⟩) := s88
            obtain ⟨v89, h89, s89⟩ := hv 9 _ 89 rfl rfl
            obtain rfl : v89 = (.bool true) := s89
            obtain ⟨v90, h90, s90⟩ := hv 10 _ 90 rfl rfl
            obtain rfl : v90 = (.bool true) := s90
            have hfr := frame_last (k := 11) [(80, (.agg #[.int .u8 (a0 : Int), .int .i64 nx, .slice Av k cv])), (81, (.bool true)), (82, (.bool false)), (83, (.bool false)), (84, (.agg #[.int .u8 (a0 : Int), .int .i64 nx, .slice Av k cv])), (85, v85), (86, (.string ⟨(EZ).toArray⟩)), (87, (.slice (some ⟨bl, off, none⟩) 504 c)), (88, (.string ⟨(l).toArray⟩)), (89, (.bool true)), (90, (.bool true))] hs (by kernel_rfl) (by simp only [List.forall_mem_cons, List.not_mem_nil, false_implies, implies_true, and_true]; exact ⟨h80, h81, h82, h83, h84, h85, h86, h87, h88, h89, h90⟩) (fun t' h => hsame t' fun i o ho => h i o (by intro e; subst e; cases ho) ho)
            simp only [List.foldl_cons, List.foldl_nil, List.setIfInBounds_toArray, List.set_cons_succ, List.set_cons_zero] at hfr
            obtain ⟨tm, df⟩ := az
            simp only [] at hfr hd
            subst hfr hd
            clear hv hsame hs h80 h81 h82 h83 h84 h85 h86 h87 h88 h89 h90
            have hxe : Ext wr wz := (Ext.refl wr).grw hx
            refine hK _ _ ?_
            obtain ⟨w4, hX4, hg⟩ : ∃ w4, Ext wr w4 ∧ wz = w4 := ⟨_, hxe, rfl⟩
            rw [hg]
            have X4 := hide (HX.out.trans hX4)
            have R4 := hide (HBX.out.ext hX4)
            have P4 := hide (HPX.out.ext hX4)
            have C4 := hide (HCO.out.ext hX4)
            clear hg hX4 hxe hx KF
            clear KE
            have k0 := R4.out.cell (i := 0) rfl
            have k1 := R4.out.cell (i := 1) rfl
            have k2 := R4.out.cell (i := 2) rfl
            have f0 := R4.out.frozen 0
            have f1 := R4.out.frozen 1
            have f2 := R4.out.frozen 2
            go_wp2
            have R5 := (((R4.out.set 0 (.int .u8 0)).set 1 (.int .i64 0)).set 2 (.slice none 0 0))
            have e0 := R5.cell (i := 0) rfl
            have e1 := R5.cell (i := 1) rfl
            have e2 := R5.cell (i := 2) rfl
            have XE : Ext w (((w4.setCell ⟨hb, 0, none⟩ (.int .u8 0)).setCell ⟨hb, 1, none⟩ (.int .i64 0)).setCell ⟨hb, 2, none⟩ (.slice none 0 0)) := Below.setCell (p := ⟨hb, 2, none⟩) (Below.setCell (p := ⟨hb, 1, none⟩) (Below.setCell (p := ⟨hb, 0, none⟩) X4.out HBW.out _) HBW.out _) HBW.out _
            refine bodyPost_ret (v := .tuple #[.agg #[.int .u8 0, .int .i64 0, .slice none 0 0], .bool false]) (by simp [results, Try.results20, go_sem, e0, e1, e2]; try rfl) rfl ?_
            exact Ret.mk XE (.inr ⟨rfl, by rw [HNX.out]; exact HPB.out⟩)
end Go.Proofs.Ytmamhinpkioogaa
