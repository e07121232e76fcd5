/-
  The walk of PageKeeps.
-/
import Derived.Test.YtmamhinpkioogaaPgKo
import Derived.Test.YtmamhinpkioogaaPgW
import Derived.Test.YtmamhinpkioogaaPgSw
import Derived.Test.YtmamhinpkioogaaChn
import Derived.Test.YtmamhinpkioogaaPgRq
namespace Go.Proofs.Ytmamhinpkioogaa
open Go.RowKit

theorem gives_indexP {P : Program} {o : Oper} {a : Act} {w : World} {R : Value → World → Prop} {x y : Operand} {t : TypeId} {u z v : Value} (h : o.op = .indexAddr t x y) (hx : a.eval x = u) (hy : a.eval y = z) (hrun : (Instr.indexAt t u z).run P w = .ok v w) (hR : R v w) : gives P o a w R := by
  refine gives_of_run (w' := w) (v := v) ?_ hR
  unfold execOp
  simp only [h, hx, hy, Sem.run_bind, hrun, Result.andThen_ok, Sem.run_pure]
theorem run_idxC (b off N c i : Nat) (hi : i < N) (w : World) : (Instr.indexAt 22 (.slice (some ⟨b, off, none⟩) N c) (.int .i64 (i : Int))).run Try.prog w = .ok (.pointer (some ⟨b, off + i * 2, none⟩)) w := by
  obtain ⟨i0, h1, h2, h3, h4⟩ := info_partsC
  have hii : (i : Int) < (N : Int) := by omega
  simp [Instr.indexAt, go_sem, Try.underlying22, h1, h3, hii, Addr.add, add_flat]
  rw [if_pos hi]
  split
  · rename_i e; rw [e]; rfl
  · rfl
theorem run_fieldX (b k i : Nat) (hi : i < 2) (w : World) : (Instr.fieldAt 40 (.pointer (some ⟨b, k, none⟩)) i).run Try.prog w = .ok (.pointer (some ⟨b, k + i, none⟩)) w := by
  rcases i with _ | _ | i
  · kernel_rfl
  · kernel_rfl
  · omega
theorem build_txt (b : ByteArray) (W : World) : (Instr.buildSlice 49 1 #[(0, .string b)]).run Try.prog W = .ok (.slice (some ⟨W.heap.size, 0, none⟩) 1 1) (W.alloc (.cells #[.string b] 9)) := by
  kernel_rfl
theorem append_tx {W : World} {B : Nat} {v : Value} {ls : List (List UInt8)} (b : ByteArray) (hown : OwnT W B v ls) (hlen : ls.length < 4398046511104) (hB : B ≤ W.heap.size) (ty : Nat) :
    ∃ v' W2, (Builtin.append_ #[49, 49] ty #[v, .slice (some ⟨W.heap.size, 0, none⟩) 1 1]).run Try.prog (W.alloc (.cells #[.string b] 9)) = .ok v' W2 ∧ OwnT W2 B v' (ls ++ [b.data.toList]) ∧ (W.alloc (.cells #[.string b] 9)).grownBy W2 v.ownBlock := by
  obtain ⟨i0, z0, hi, hz, hzs, hsz, hby⟩ : ∃ i0 z0, Try.prog.info? 9 = some i0 ∧ i0.zero = some z0 ∧ z0.cells.size = 1 ∧ i0.size = 1 ∧ i0.bytes = 16 := by
    have h := info_txt
    cases hq : Try.prog.info? 9 with
    | none => rw [hq] at h; cases h
    | some i =>
      rw [hq] at h
      simp only [Option.map_some, Option.some.injEq, Prod.mk.injEq] at h
      cases hzz : i.zero with
      | none => rw [hzz] at h; simp at h
      | some z => rw [hzz] at h; simp at h; exact ⟨i, z, rfl, hzz, h.1, h.2.1, h.2.2⟩
  have hown' : (W.alloc (.cells #[.string b] 9)).ownsRow B 9 1 v ls.length (tvs ls) := World.ownsRow.alloc hown _
  obtain ⟨v', w', hrun, h2, h3, _⟩ := run_append_own (P := Try.prog) (W.alloc (.cells #[.string b] 9)) B 49 ty 9 i0 _ 1 16 Try.underlying49 hi hz hsz hby hzs (by decide) v _ _ hown' ⟨W.heap.size, 0, none⟩ 1 1 [.string b] rfl (fun j u hu => by
    rw [add_flat, cell_of_row _ W.heap.size (0 + j) _ 9 (0, 0) (heap_alloc_new W _), Nat.zero_add, List.getElem?_toArray, hu]) (fun u hu => by rw [List.mem_singleton.1 hu]; rfl) (by unfold maxLen; omega) (by omega) (by simp; omega)
  refine ⟨v', w', hrun, ?_, h3⟩
  unfold OwnT
  rw [tvs_append, List.length_append]
  exact h2
set_option maxRecDepth 10000 in
set_option maxHeartbeats 1600000 in
theorem pageKeeps_no (A A1 A2 : Option Addr) (n c n1 n2 c1 c2 : Nat) (L : List Cl) (w : World) (hr : RdC w A L) (hn : L.length = n) (hnm : n ≤ 4398046511104) (h : ¬ Rises L) :
    Calls Try.prog 8 #[.slice A n c, .agg #[.slice A1 n1 c1, .slice A2 n2 c2]] w (Ret w (Is (.bool true))) := by
  have KA := hide awake_any
  have KR := hide (fun (W : World) (hW : Ext w W) => rrises_no n c W (hr.ext hW) hn hnm h)
  clear hr hn hnm h
  go_enter Try.func8, Try.ntmps8
  go_upto_region 2 with (first
    | (go_at_call 11; (with_reducible refine (KA.out _).mono ?_); rintro e w1 ⟨rfl, hx⟩; have X1 := hide ((Ext.alloc _ _).trans hx); clear hx)
    | (go_at_call 21; (with_reducible refine (KR.out _ X1.out).mono ?_); rintro e w2 ⟨rfl, q, rfl⟩; have X2 := hide (X1.out.trans ((Ext.refl _).drewN q))))
  go_wp2_with (go_at_call 11; (with_reducible refine (KA.out _).mono ?_); rintro e w3 ⟨rfl, hx⟩; have X3 := hide (X2.out.trans hx); clear hx)
  go_ret
  exact Ret.mk X3.out rfl
set_option maxRecDepth 10000 in
set_option maxHeartbeats 1600000 in
theorem pageKeeps_long (A A1 A2 : Option Addr) (n c n1 n2 c1 c2 : Nat) (L : List Cl) (w : World) (hr : RdC w A L) (hn : L.length = n) (hnm : n ≤ 4398046511104) (h : Rises L) (hlong : 100 < n) :
    Calls Try.prog 8 #[.slice A n c, .agg #[.slice A1 n1 c1, .slice A2 n2 c2]] w (Ret w (Is (.bool true))) := by
  have KA := hide awake_any
  have KR := hide (fun (W : World) (hW : Ext w W) => rrises_yes n c W (hr.ext hW) hn hnm h)
  have hli : (100 : Int) < (n : Int) := by omega
  clear hlong
  clear hr hn hnm h
  go_enter Try.func8, Try.ntmps8
  go_upto_region 2 with (first
    | (go_at_call 11; (with_reducible refine (KA.out _).mono ?_); rintro e w1 ⟨rfl, hx⟩; have X1 := hide ((Ext.alloc _ _).trans hx); clear hx)
    | (go_at_call 21; (with_reducible refine (KR.out _ X1.out).mono ?_); rintro e w2 ⟨rfl, q, rfl⟩; have X2 := hide (X1.out.trans ((Ext.refl _).drewN q))))
  go_wp2_with (go_at_call 11; (with_reducible refine (KA.out _).mono ?_); rintro e w3 ⟨rfl, hx⟩; have X3 := hide (X2.out.trans hx); clear hx)
  go_ret
  exact Ret.mk X3.out rfl
set_option maxRecDepth 20000 in
set_option maxHeartbeats 6400000 in
theorem pageKeeps_main (A A1 A2 : Option Addr) (n c n1 n2 c1 c2 : Nat) (L : List Cl) (x : Cl) (w : World) (hr : RdC w A L) (h1 : Rd w A1 x.1) (h2 : Rd w A2 x.2) (e1 : x.1.length = n1) (e2 : x.2.length = n2) (hc1 : n1 ≤ c1) (hc2 : n2 ≤ c2) (hn : L.length = n) (hnc : n ≤ c) (h : Rises L) (hs : n ≤ 100) (hS : Small L) (hSx : Small [x]) :
    Calls Try.prog 8 #[.slice A n c, .agg #[.slice A1 n1 c1, .slice A2 n2 c2]] w (Ret w (Is (.bool true))) := by
  have KA := hide awake_any
  have KR := hide (fun (W : World) (hW : Ext w W) => rrises_yes n c W (hr.ext hW) hn (by omega) h)
  obtain ⟨RP, HRP⟩ : ∃ RP, Hid (repl L x.1 [x] = RP) := ⟨_, hide rfl⟩
  obtain ⟨RD, HRD⟩ : ∃ RD, Hid (repl RP x.1 [] = RD) := ⟨_, hide rfl⟩
  obtain ⟨N, HN⟩ : ∃ N, Hid (RP.length = N) := ⟨_, hide rfl⟩
  obtain ⟨M, HM⟩ : ∃ M, Hid (RD.length = M) := ⟨_, hide rfl⟩
  have HSM : Hid (Small RP) := hide (by rw [← HRP.out]; exact repl_small hS hSx)
  have HSMD : Hid (Small RD) := hide (by rw [← HRD.out]; exact repl_small HSM.out (fun z h => by cases h))
  have LP : Hid (N ≤ 101) := hide (by rw [← HN.out, ← HRP.out]; have := repl_le L x.1 [x]; simp at this; omega)
  have HNM : Hid (M ≤ N) := hide (by rw [← HM.out, ← HN.out, ← HRD.out]; have := repl_le RP x.1 []; simpa using this)
  have KW := hide (fun (W : World) (hW : Ext w W) => (show Calls Try.prog 24 #[.slice A n c, .agg #[.slice A1 n1 c1, .slice A2 n2 c2]] W (Ret W (fun w' v => ∃ A3 c3, v = .slice A3 N c3 ∧ RdC w' A3 RP)) from
    (rput_any n n1 n2 c c1 c2 W (hr.ext hW) (h1.ext hW) (h2.ext hW) hn e1 e2 hc1 hc2 (by omega) h).mono fun e w' ⟨v, he, hx, A3, c3, hv, _, hr3⟩ => ⟨v, he, hx, A3, c3, by rw [hv, HRP.out, HN.out], by rw [← HRP.out]; exact hr3⟩))
  have KP := hide (fun (W : World) (hW : Ext w W) => (show Calls Try.prog 23 #[.slice A n c, .agg #[.slice A1 n1 c1, .slice A2 n2 c2]] W (Ret W (CellsD W.heap.size RP)) from by
    have hp := put_anyD n n1 n2 c c1 c2 W (hr.ext hW) (h1.ext hW) (h2.ext hW) hn e1 e2 hc1 hc2 (by omega) hnc h hS hSx
    rw [HRP.out] at hp
    exact hp))
  have KD := hide (fun (W : World) (hW : Ext w W) (Az : Option Addr) (cz : Nat) (hcz : N ≤ cz) (hz : RdC W Az RP) => (show Calls Try.prog 25 #[.slice Az N cz, .slice A1 n1 c1] W (Ret W (CellsD W.heap.size RD)) from by
    have hp := drop_anyD (key := x.1) N n1 cz c1 W hz (h1.ext hW) HN.out e1 (by have := LP.out; omega) hcz (by rw [← HRP.out]; exact repl_rises1 h rfl) HSM.out
    rw [HRD.out] at hp
    exact hp))
  have hli : ¬ (100 : Int) < (n : Int) := by omega
  clear hs hr h1 h2 e1 e2 hc1 hc2 hn hnc h hS hSx
  go_enter Try.func8, Try.ntmps8
  go_upto_region 1 with fail
  obtain ⟨W1, hX1, hR1, hg⟩ : ∃ W1, Ext w W1 ∧ Rw W1 w.heap.size 40 [.slice A1 n1 c1, .slice A2 n2 c2] ∧ w.alloc (.cells #[.slice A1 n1 c1, .slice A2 n2 c2] 40) = W1 := ⟨_, Ext.alloc _ _, Rw.new _ _ _, rfl⟩
  rw [hg]
  obtain ⟨hb, HHB⟩ : ∃ hb, Hid (w.heap.size = hb) := ⟨_, hide rfl⟩
  rw [HHB.out] at hR1 ⊢
  have X0 := hide hX1
  have R0 := hide hR1
  clear hg hX1 hR1
  go_upto_region 3 with (first
    | (go_at_call 11; (with_reducible refine (KA.out _).mono ?_); rintro e w1 ⟨rfl, hx1⟩; have X1 := hide (X0.out.trans hx1); have R1 := hide (R0.out.ext hx1); clear hx1)
    | (go_at_call 21; (with_reducible refine (KR.out _ X1.out).mono ?_); rintro e w2 ⟨rfl, q, rfl⟩))
  obtain ⟨w2, hw2⟩ : ∃ w2, w1.drewN q = w2 := ⟨_, rfl⟩
  have X2 : Hid (Ext w w2) := hide (by rw [← hw2]; exact X1.out.trans ((Ext.refl _).drewN q))
  have RB : Hid (Rw w2 hb 40 [.slice A1 n1 c1, .slice A2 n2 c2]) := hide (by rw [← hw2]; exact R1.out.ext ((Ext.refl _).drewN q))
  rw [hw2]
  clear hw2 X1 R1 X0 R0 KA KR hli
  have k0 := RB.out.cell (i := 0) rfl
  have k1 := RB.out.cell (i := 1) rfl
  go_upto_region 4 with (go_at_call 24; (with_reducible refine (KW.out _ X2.out).mono ?_); rintro e w3 ⟨v3, rfl, hx3, A3, c3, rfl, hc3⟩; have X3 := hide (X2.out.trans hx3); have RB3 := hide (RB.out.ext hx3); have C3 := hide hc3; clear hx3 hc3)
  clear k0 k1 RB KW X2
  go_upto_region 6 with fail
  go_loopw [6, 7] (fun tz iv wr => ∃ (i : Nat) (tv : Value), i ≤ N ∧ iv = .int .i64 (i : Int) ∧ tv = tz ∧ Hid (OwnT wr w3.heap.size tv ((RP.take i).map txL)) ∧ Hid (Ext w3 wr)) (fun _ iv _ => N - (intOf iv).toNat)
  case atStart => exact ⟨0, _, Nat.zero_le _, rfl, rfl, hide (OwnT.nil _ _), hide (Ext.refl _)⟩
  case round =>
    obtain ⟨i, tv, hi, rfl, rfl, HT, HX⟩ := hrel
    by_cases hlt : i < N
    · have hki : (i : Int) < (N : Int) := by omega
      have hk0 : (0 : Int) ≤ (i : Int) := by omega
      have hkb : (i : Int) ≤ 101 := by have := LP.out; omega
      obtain ⟨y, hy⟩ : ∃ y, RP[i]? = some y := ⟨_, List.getElem?_eq_getElem (by rw [HN.out]; exact hlt)⟩
      obtain ⟨b, off, B1, d1, B2, d2, rfl, m1, m2, -, -, q5, q6⟩ := C3.out.at hy
      obtain ⟨p1, HP1⟩ : ∃ p, Hid (y.1.length = p) := ⟨_, hide rfl⟩
      obtain ⟨p2, HP2⟩ : ∃ p, Hid (y.2.length = p) := ⟨_, hide rfl⟩
      have hsm := HSM.out.at hy
      have hj1 : y.1.length ≤ 9223372036854775806 := by have := hsm.1; omega
      have hj2 : ¬ 9223372036854775807 < y.1.length + 1 + y.2.length := by have := hsm.1; have := hsm.2; omega
      rw [HP1.out] at m1
      rw [HP2.out] at m2
      have HY := hide hy
      have JJ := hide (And.intro hj1 hj2)
      clear hsm hy hj1 hj2
      go_upto_region 8 with fail
      obtain ⟨v2, W2, hrun, hown, hgr⟩ := append_tx (W := wr.drew) (B := w3.heap.size) (v := tv) (txC y) (hide (HT.out.ext (Ext.drew wr))).out (by rw [List.length_map, List.length_take]; omega) (HX.out.trans (Ext.drew wr)).size 49
      have HRUN := hide hrun
      have E0 : Ext w3 wr.drew := HX.out.trans (Ext.drew wr)
      have E1 : Ext w3 (wr.drew.alloc (.cells #[.string (txC y)] 9)) := E0.trans (Ext.alloc _ _)
      have E2 : Ext w3 W2 := E1.grown hgr E1.size (fun g hg => (HT.out.lt g hg).1)
      have HX2 := hide E2
      have HO2 := hide hown
      have M10 := E0.keeps.cell m1
      have M20 := E0.keeps.cell m2
      have Q50 := q5.ext E0
      have Q60 := q6.ext E0
      have M11 := E1.keeps.cell m1
      have M21 := E1.keeps.cell m2
      have Q51 := q5.ext E1
      have Q61 := q6.ext E1
      have M12 := E2.keeps.cell m1
      have M22 := E2.keeps.cell m2
      have Q52 := q5.ext E2
      have Q62 := q6.ext E2
      clear hrun hown hgr E0 E1 E2
      refine wp_region_chain [tv, .slice (some ⟨b, off, none⟩) N c3, .int .i64 (i : Int), .pointer (some ⟨b, off + i * 2, none⟩), .pointer (some ⟨b, off + i * 2, none⟩), .slice B1 p1 d1, .string ⟨y.1.toArray⟩, .string (⟨y.1.toArray⟩ ++ ⟨#[0]⟩ : ByteArray), .slice (some ⟨b, off, none⟩) N c3, .int .i64 (i : Int), .pointer (some ⟨b, off + i * 2, none⟩), .pointer (some ⟨b, off + i * 2 + 1, none⟩), .slice B2 p2 d2, .string ⟨y.2.toArray⟩, .string (txC y), .slice (some ⟨wr.drew.heap.size, 0, none⟩) 1 1, v2, v2]
        [wr.drew, wr.drew.alloc (.cells #[.string (txC y)] 9), W2] [15, 16] (by kernel_rfl) (by kernel_rfl) (by kernel_rfl) rfl ?_ ?_
      · refine ⟨?_, ?_, ?_, ?_, ?_, ?_, ?_, ?_, ?_, ?_, ?_, ?_, ?_, ?_, ?_, ?_, ?_, ?_, trivial⟩
        · intro az hk H
          rw [if_neg (by decide)]
          intro j hj
          exact .inl ⟨wanted_none rfl, gives_move rfl (by rw [ev (show az.tmps[6]? = some tv from hk 6 rfl)]; exact ⟨rfl, rfl⟩)⟩
        · intro az hk H
          rw [if_neg (by decide)]
          intro j hj
          exact .inl ⟨wanted_none rfl, gives_move rfl (by rw [ev (show az.tmps[5]? = some (.slice (some ⟨b, off, none⟩) N c3) from hk 5 rfl)]; exact ⟨rfl, rfl⟩)⟩
        · intro az hk H
          rw [if_neg (by decide)]
          intro j hj
          exact .inl ⟨wanted_none rfl, gives_move rfl (by rw [ev (show az.tmps[7]? = some (.int .i64 (i : Int)) from hk 7 rfl)]; exact ⟨rfl, rfl⟩)⟩
        · intro az hk H
          rw [if_neg (by decide)]
          intro j hj
          exact .inl ⟨wanted_none rfl, gives_indexP rfl (ev (H 1 rfl _ rfl 38 rfl)) (ev (H 2 rfl _ rfl 39 rfl)) (run_idxC b off N c3 i hlt _) ⟨rfl, rfl⟩⟩
        · intro az hk H
          rw [if_neg (by decide)]
          intro j hj
          exact .inl ⟨wanted_none rfl, gives_fieldP rfl (ev (H 3 rfl _ rfl 40 rfl)) (run_fieldX b (off + i * 2) 0 (by decide) _) ⟨rfl, rfl⟩⟩
        · intro az hk H
          rw [if_neg (by decide)]
          intro j hj
          have hj2 : j ≤ 2 := hj
          refine .inl ⟨wanted_none rfl, ?_⟩
          rcases j with _ | _ | _ | j
          · exact gives_load_one rfl (ev (H 4 rfl _ rfl 41 rfl)) Try.underlying28 M10 ⟨rfl, rfl⟩
          · exact gives_load_one rfl (ev (H 4 rfl _ rfl 41 rfl)) Try.underlying28 M11 ⟨rfl, rfl⟩
          · exact gives_load_one rfl (ev (H 4 rfl _ rfl 41 rfl)) Try.underlying28 M12 ⟨rfl, rfl⟩
          · omega
        · intro az hk H
          rw [if_neg (by decide)]
          intro j hj
          have hj2 : j ≤ 2 := hj
          refine .inl ⟨wanted_none rfl, ?_⟩
          rcases j with _ | _ | _ | j
          · exact gives_conv rfl (ev (H 5 rfl _ rfl 42 rfl)) (str_any Q50 p1 d1 HP1.out) ⟨rfl, rfl⟩
          · exact gives_conv rfl (ev (H 5 rfl _ rfl 42 rfl)) (str_any Q51 p1 d1 HP1.out) ⟨rfl, rfl⟩
          · exact gives_conv rfl (ev (H 5 rfl _ rfl 42 rfl)) (str_any Q52 p1 d1 HP1.out) ⟨rfl, rfl⟩
          · omega
        · intro az hk H
          rw [if_neg (by decide)]
          intro j hj
          exact .inl ⟨wanted_none rfl, gives_bin rfl (ev (H 6 rfl _ rfl 43 rfl)) rfl (by simp [go_sem]) (by simp [go_sem, JJ.out.1]) ⟨rfl, rfl⟩⟩
        · intro az hk H
          rw [if_neg (by decide)]
          intro j hj
          exact .inl ⟨wanted_none rfl, gives_move rfl (by rw [ev (show az.tmps[5]? = some (.slice (some ⟨b, off, none⟩) N c3) from hk 5 rfl)]; exact ⟨rfl, rfl⟩)⟩
        · intro az hk H
          rw [if_neg (by decide)]
          intro j hj
          exact .inl ⟨wanted_none rfl, gives_move rfl (by rw [ev (show az.tmps[7]? = some (.int .i64 (i : Int)) from hk 7 rfl)]; exact ⟨rfl, rfl⟩)⟩
        · intro az hk H
          rw [if_neg (by decide)]
          intro j hj
          exact .inl ⟨wanted_none rfl, gives_indexP rfl (ev (H 8 rfl _ rfl 45 rfl)) (ev (H 9 rfl _ rfl 46 rfl)) (run_idxC b off N c3 i hlt _) ⟨rfl, rfl⟩⟩
        · intro az hk H
          rw [if_neg (by decide)]
          intro j hj
          exact .inl ⟨wanted_none rfl, gives_fieldP rfl (ev (H 10 rfl _ rfl 47 rfl)) (run_fieldX b (off + i * 2) 1 (by decide) _) ⟨rfl, rfl⟩⟩
        · intro az hk H
          rw [if_neg (by decide)]
          intro j hj
          have hj2 : j ≤ 2 := hj
          refine .inl ⟨wanted_none rfl, ?_⟩
          rcases j with _ | _ | _ | j
          · exact gives_load_one rfl (ev (H 11 rfl _ rfl 48 rfl)) Try.underlying28 M20 ⟨rfl, rfl⟩
          · exact gives_load_one rfl (ev (H 11 rfl _ rfl 48 rfl)) Try.underlying28 M21 ⟨rfl, rfl⟩
          · exact gives_load_one rfl (ev (H 11 rfl _ rfl 48 rfl)) Try.underlying28 M22 ⟨rfl, rfl⟩
          · omega
        · intro az hk H
          rw [if_neg (by decide)]
          intro j hj
          have hj2 : j ≤ 2 := hj
          refine .inl ⟨wanted_none rfl, ?_⟩
          rcases j with _ | _ | _ | j
          · exact gives_conv rfl (ev (H 12 rfl _ rfl 49 rfl)) (str_any Q60 p2 d2 HP2.out) ⟨rfl, rfl⟩
          · exact gives_conv rfl (ev (H 12 rfl _ rfl 49 rfl)) (str_any Q61 p2 d2 HP2.out) ⟨rfl, rfl⟩
          · exact gives_conv rfl (ev (H 12 rfl _ rfl 49 rfl)) (str_any Q62 p2 d2 HP2.out) ⟨rfl, rfl⟩
          · omega
        · intro az hk H
          rw [if_neg (by decide)]
          intro j hj
          exact .inl ⟨wanted_none rfl, gives_bin rfl (ev (H 7 rfl _ rfl 44 rfl)) (ev (H 13 rfl _ rfl 50 rfl)) (by simp [go_sem]) (by simp [go_sem, JJ.out.2]; rfl) ⟨rfl, rfl⟩⟩
        · intro az hk H
          rw [if_pos (by decide)]
          intro j hj
          obtain rfl : j = 0 := by
            rcases j with _ | _ | j
            · rfl
            · exact absurd hj (by decide)
            · exact absurd hj (by simp)
          refine ⟨wanted_none rfl, ?_⟩
          exact gives_buildSlice rfl [(0, .string (txC y))] (by show [(0, az.eval (.tmp 51))] = _; rw [ev (H 14 rfl _ rfl 51 rfl)]; rfl) (build_txt _ _) ⟨rfl, rfl⟩
        · intro az hk H
          rw [if_pos (by decide)]
          intro j hj
          obtain rfl : j = 1 := by
            rcases j with _ | _ | j
            · exact absurd hj (by decide)
            · rfl
            · exact absurd hj (by simp)
          refine ⟨wanted_none rfl, ?_⟩
          exact gives_append rfl (ev (H 0 rfl _ rfl 37 rfl)) (ev (H 15 rfl _ rfl 52 rfl)) HRUN.out ⟨rfl, rfl⟩
        · intro az hk H
          rw [if_neg (by decide)]
          intro j hj
          exact .inl ⟨wanted_none rfl, gives_assign rfl (by rw [ev (H 16 rfl _ rfl 53 rfl)]; exact ⟨rfl, rfl⟩)⟩
      · simp only [setsOf, List.zipIdx_cons, List.zipIdx_nil, List.filterMap_cons, List.filterMap_nil, Option.map_some, Option.map_none, List.foldl_cons, List.foldl_nil, List.setIfInBounds_toArray, List.set_cons_succ, List.set_cons_zero, List.getD_cons_zero, List.getD_cons_succ, Nat.zero_add, List.length_cons, List.length_nil]
        go_wp2
        refine ⟨⟨i + 1, _, by omega, by go_num, rfl, hide (by have h := HO2.out; rw [List.take_add_one, HY.out, List.map_append]; exact h), HX2⟩, by simp [intOf]; omega⟩
    · obtain rfl : N = i := by omega
      clear hi hlt
      obtain ⟨w4, hw4⟩ : ∃ w4, w4 = wr := ⟨_, rfl⟩
      subst hw4
      have X4 : Hid (Ext w w4) := hide (X3.out.trans HX.out)
      have RB4 := hide (RB3.out.ext HX.out)
      have k0 := RB4.out.cell (i := 0) rfl
      have k1 := RB4.out.cell (i := 1) rfl
      have hts := HT.out.txs
      rw [List.take_of_length_le (by rw [HN.out]; exact Nat.le_refl _)] at hts
      obtain ⟨At, ct, hvt, -, hrt⟩ := hts
      rw [List.length_map, HN.out] at hvt
      subst hvt
      have HRT := hide hrt
      clear hrt
      go_upto_region 10 with (go_at_call 23; (with_reducible refine (KP.out _ X4.out).mono ?_); rintro e w5 ⟨v5, rfl, hx5, hd5⟩; have XE5 := hide hx5; have XP := hide (Xc.of hd5); have CP := hide hd5.o.cells; have RB5 := hide (RB4.out.ext hx5); clear hx5 hd5)
      obtain ⟨A5, c5, hv5, hnc5, hr5⟩ := CP.out
      rw [HN.out] at hv5 hnc5
      subst hv5
      have KD5 := hide (KD.out w5 (X4.out.trans XE5.out) A5 c5 hnc5 hr5)
      have l0 := RB5.out.cell (i := 0) rfl
      have l1 := RB5.out.cell (i := 1) rfl
      clear k0 k1 hnc5 hr5 KD KP CP
      go_upto_region 12 with (go_at_call 25; (with_reducible refine KD5.out.mono ?_); rintro e w6 ⟨v6, rfl, hx6, hd6⟩; have XE6 := hide hx6; have XD := hide ((Xc.of hd6).up (Nat.zero_le M)); clear hx6 hd6)
      obtain ⟨A6, c6, hv6⟩ := XD.out.slice
      rw [HM.out] at hv6
      subst hv6
      clear l0 l1 KD5
      go_loopw [10] (fun iv wq => ∃ j : Nat, j ≤ M ∧ iv = .int .i64 (j : Int) ∧ Hid (Xc w5.heap.size M RD wq (.slice A6 M c6)) ∧ Hid (Ext w5 wq)) (fun iv _ => M - (intOf iv).toNat)
      case atStart => exact ⟨0, Nat.zero_le _, rfl, XD, XE6⟩
      case round =>
        obtain ⟨j, hj, rfl, HXB, HXQ⟩ := hrel
        clear XD XE6
        by_cases hjl : j < M
        · have hji : (j : Int) < (M : Int) := by omega
          have hj0 : (0 : Int) ≤ (j : Int) := by omega
          have hjb : (j : Int) ≤ 101 := by have := LP.out; have := HNM.out; omega
          obtain ⟨y, hy⟩ : ∃ y, RD[j]? = some y := ⟨_, List.getElem?_eq_getElem (by rw [HM.out]; exact hjl)⟩
          have HY := hide hy
          obtain ⟨p2, HP2⟩ : ∃ p, Hid (y.2.length = p) := ⟨_, hide rfl⟩
          have hpb : (p2 : Int) ≤ 140737488351232 := by have := (HSMD.out.at hy).2; have := HP2.out; omega
          clear hy
          go_upto_region 15 with fail
          go_loopw [11] (fun kv wq => ∃ k : Nat, k ≤ p2 ∧ kv = .int .i64 (k : Int) ∧ Hid (Xc w5.heap.size M RD wq (.slice A6 M c6)) ∧ Hid (Ext w5 wq)) (fun kv _ => p2 - (intOf kv).toNat)
          case atStart => exact ⟨0, Nat.zero_le _, rfl, HXB, HXQ⟩
          case round =>
            obtain ⟨k, hk, rfl, HXC, HXE⟩ := hrel
            obtain ⟨g, V2, e2, hA, hcell, hval⟩ := HXC.out.val HM.out HY.out hjl
            subst hA
            rw [HP2.out] at hcell hval
            by_cases hlt2 : k < p2
            · obtain ⟨g2, z, hA2, hb2, hc2, hf2, hset⟩ := hval k hlt2
              subst hA2
              have HSET := hide hset
              have HB2 := hide hb2
              have hk2 : (k : Int) < (p2 : Int) := by omega
              have hk3 : (0 : Int) ≤ (k : Int) := by omega
              clear hval hset hb2
              go_upto_region 17 with fail
              go_region
              go_wp2
              refine ⟨⟨k + 1, by omega, by go_num, hide ((HSET.out _).ext (Ext.drew _)), hide (Ext.trans (Below.setCell (p := ⟨g2, k, none⟩) HXE.out HB2.out _) (Ext.drew _))⟩, by simp [intOf]; omega⟩
            · have hk2 : ¬ (k : Int) < (p2 : Int) := by omega
              clear hval
              go_wp2
              refine ⟨⟨j + 1, by omega, by go_num, HXC, HXE⟩, by simp [intOf]; omega⟩
        · have hji : ¬ (j : Int) < (M : Int) := by omega
          have XP2 := hide (XP.out.ext HXQ.out)
          have XQ2 := hide (XE5.out.trans HXQ.out)
          clear hjl hj HXB XP HXQ XE5
          go_upto_region 21 with fail
          go_loopw [12] (fun iv wq => ∃ i : Nat, i ≤ N ∧ iv = .int .i64 (i : Int) ∧ Hid (Xc w4.heap.size i RP wq (.slice A5 N c5)) ∧ Hid (Ext w4 wq)) (fun iv _ => N - (intOf iv).toNat)
          case atStart => exact ⟨0, Nat.zero_le _, rfl, XP2, XQ2⟩
          case round =>
            obtain ⟨i, hi, rfl, HXP, HXE⟩ := hrel
            clear XP2 XQ2
            by_cases hil : i < N
            · have hii : (i : Int) < (N : Int) := by omega
              have hi0 : (0 : Int) ≤ (i : Int) := by omega
              have hib : (i : Int) ≤ 101 := by have := LP.out; omega
              obtain ⟨y, hy⟩ : ∃ y, RP[i]? = some y := ⟨_, List.getElem?_eq_getElem (by rw [HN.out]; exact hil)⟩
              obtain ⟨g, B1, d1, B2, d2, hA5, m1, m2, q5, q6⟩ := HXP.out.rd HN.out hy (Nat.le_refl _)
              subst hA5
              obtain ⟨p1, HP1⟩ : ∃ p, Hid (y.1.length = p) := ⟨_, hide rfl⟩
              obtain ⟨p2, HP2⟩ : ∃ p, Hid (y.2.length = p) := ⟨_, hide rfl⟩
              rw [HP1.out] at m1
              rw [HP2.out] at m2
              have hj1 : y.1.length ≤ 9223372036854775806 := by have := (HSM.out.at hy).1; omega
              have hj2 : ¬ 9223372036854775807 < y.1.length + 1 + y.2.length := by have := (HSM.out.at hy).1; have := (HSM.out.at hy).2; omega
              have hpb : (p2 : Int) ≤ 140737488351232 := by have := (HSM.out.at hy).2; have := HP2.out; omega
              have HY := hide hy
              have tg := tvs_get (RP.map txL) i (txL y) (by rw [List.getElem?_map, hy]; rfl)
              rw [txL_value] at tg
              obtain ⟨bt, ot, hAt, hct⟩ := (HRT.out.ext HXE.out).at tg
              unfold txC at hct
              subst hAt
              have cv1 := fun (t : Nat) => str_any (q5.drewN t) p1 d1 HP1.out
              have cv3 := fun (t : Nat) => str_any (q6.drewN t) p2 d2 HP2.out
              clear q5 q6 tg hy
              go_upto_region 23 with fail
              go_quiet (fail)
              go_upto_region 26 with fail
              go_loopw [13] (fun kv wq => ∃ k : Nat, k ≤ p2 ∧ kv = .int .i64 (k : Int) ∧ Hid (Xc w4.heap.size (i + 1) RP wq (Value.slice (some ⟨g, 0, none⟩) N c5)) ∧ Hid (Ext w4 wq)) (fun kv _ => p2 - (intOf kv).toNat)
              case atStart => exact ⟨0, Nat.zero_le _, rfl, hide ((HXP.out.up (Nat.le_succ i)).ext ((Ext.refl wr).drewN nq)), hide (HXE.out.drewN nq)⟩
              case round =>
                obtain ⟨k, hk, rfl, HXC, HXE⟩ := hrel
                obtain ⟨g, V2, e2, hA, hcell, hval⟩ := HXC.out.val HN.out HY.out (Nat.lt_succ_self i)
                injection hA with hA; injection hA with hA1; subst hA1
                rw [HP2.out] at hcell hval
                by_cases hlt2 : k < p2
                · obtain ⟨g2, z, hA2, hb2, hc2, hf2, hset⟩ := hval k hlt2
                  subst hA2
                  have HSET := hide hset
                  have HB2 := hide hb2
                  have hk2 : (k : Int) < (p2 : Int) := by omega
                  have hk3 : (0 : Int) ≤ (k : Int) := by omega
                  clear hval hset hb2
                  go_upto_region 28 with fail
                  go_region
                  go_wp2
                  refine ⟨⟨k + 1, by omega, by go_num, hide ((HSET.out _).ext (Ext.drew _)), hide (Ext.trans (Below.setCell (p := ⟨g2, k, none⟩) HXE.out HB2.out _) (Ext.drew _))⟩, by simp [intOf]; omega⟩
                · have hk2 : ¬ (k : Int) < (p2 : Int) := by omega
                  clear hval
                  go_wp2
                  refine ⟨⟨i + 1, by omega, by go_num, HXC, HXE⟩, by simp [intOf]; omega⟩
            · have hii : ¬ (i : Int) < (N : Int) := by omega
              clear hil hi HXP
              go_upto_region 30 with fail
              go_loopw [14] (fun iv wq => ∃ i : Nat, i ≤ N ∧ iv = .int .i64 (i : Int) ∧ Hid (Ext w4 wq)) (fun iv _ => N - (intOf iv).toNat)
              case atStart => exact ⟨0, Nat.zero_le _, rfl, HXE⟩
              case round =>
                clear HXE
                obtain ⟨i, hi, rfl, HXE⟩ := hrel
                by_cases hil : i < N
                · have hii : (i : Int) < (N : Int) := by omega
                  have hi0 : (0 : Int) ≤ (i : Int) := by omega
                  have hib : (i : Int) ≤ 101 := by have := LP.out; omega
                  obtain ⟨y, hy⟩ : ∃ y, RP[i]? = some y := ⟨_, List.getElem?_eq_getElem (by rw [HN.out]; exact hil)⟩
                  obtain ⟨g, off, B1, d1, B2, d2, hA3, m1, m2, -, -, q5, q6⟩ := (C3.out.ext (HX.out.trans HXE.out)).at hy
                  subst hA3
                  obtain ⟨p1, HP1⟩ : ∃ p, Hid (y.1.length = p) := ⟨_, hide rfl⟩
                  obtain ⟨p2, HP2⟩ : ∃ p, Hid (y.2.length = p) := ⟨_, hide rfl⟩
                  rw [HP1.out] at m1
                  rw [HP2.out] at m2
                  have hj1 : y.1.length ≤ 9223372036854775806 := by have := (HSM.out.at hy).1; omega
                  have hj2 : ¬ 9223372036854775807 < y.1.length + 1 + y.2.length := by have := (HSM.out.at hy).1; have := (HSM.out.at hy).2; omega
                  have hpb : (p2 : Int) ≤ 140737488351232 := by have := (HSM.out.at hy).2; have := HP2.out; omega
                  have HY := hide hy
                  have tg := tvs_get (RP.map txL) i (txL y) (by rw [List.getElem?_map, hy]; rfl)
                  rw [txL_value] at tg
                  obtain ⟨bt, ot, hAt, hct⟩ := (HRT.out.ext HXE.out).at tg
                  unfold txC at hct
                  subst hAt
                  have cv1 := fun (t : Nat) => str_any (q5.drewN t) p1 d1 HP1.out
                  have cv3 := fun (t : Nat) => str_any (q6.drewN t) p2 d2 HP2.out
                  clear q5 q6 tg hy
                  go_upto_region 32 with fail
                  go_quiet (fail)
                  go_wp2
                  refine ⟨⟨i + 1, by omega, by go_num, hide (HXE.out.drewN nq)⟩, by simp [intOf]; omega⟩
                · have hii : ¬ (i : Int) < (N : Int) := by omega
                  go_wp2
                  go_ret
                  exact Ret.mk (X4.out.trans HXE.out) rfl



theorem pageKeeps_walk (A A1 A2 : Option Addr) (c c1 c2 : Nat) (L : List Cl) (x : Cl) (w : World) (hr : RdC w A L) (h1 : Rd w A1 x.1) (h2 : Rd w A2 x.2) (hc1 : x.1.length ≤ c1) (hc2 : x.2.length ≤ c2) (hnc : L.length ≤ c) (hm : L.length ≤ 4398046511104) (hS : Small L) (hSx : x.1.length ≤ 140737488351232 ∧ x.2.length ≤ 140737488351232) :
    Calls Try.prog 8 #[.slice A L.length c, .agg #[.slice A1 x.1.length c1, .slice A2 x.2.length c2]] w (Ret w (Is (.bool true))) := by
  by_cases h : Rises L
  · by_cases hs : L.length ≤ 100
    · exact pageKeeps_main A A1 A2 _ c _ _ c1 c2 L x w hr h1 h2 rfl rfl hc1 hc2 rfl hnc h hs hS (small_one hSx)
    · exact pageKeeps_long A A1 A2 _ c _ _ c1 c2 L w hr rfl hm h (by omega)
  · exact pageKeeps_no A A1 A2 _ c _ _ c1 c2 L w hr rfl hm h
end Go.Proofs.Ytmamhinpkioogaa
