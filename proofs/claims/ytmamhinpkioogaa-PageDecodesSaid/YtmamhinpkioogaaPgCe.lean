/-
  The walk of PageCells.
-/
import Derived.Test.YtmamhinpkioogaaPgX
import Derived.Test.YtmamhinpkioogaaPgSw
namespace Go.Proofs.Ytmamhinpkioogaa
open Go.RowKit

theorem gives_conv {P : Program} {o : Oper} {a : Act} {w : World} {R : Value → World → Prop} {x : Operand} {s d : Nat} {u v : Value} (h : o.op = .convert s d x) (hx : a.eval x = u) (hrun : (convert s d u).run P w = .ok v w) (hR : R v w) : gives P o a w R := by
  refine gives_of_run (w' := w) (v := v) ?_ hR
  simp [execOp, h, hx, hrun]
theorem Grw.drewN (B : Nat) (w : World) (q : Nat) : Grw B w (w.drewN q) := ⟨⟨rfl, rfl, rfl, Nat.le_refl _, fun _ _ => rfl⟩, fun _ _ h => .inl h⟩
theorem hs_snoc (L : List Cl) (key : List UInt8) (k : Nat) (y : Cl) (h : L[k]? = some y) : hs (L.take (k + 1)) key = (hs (L.take k) key || y.1 == key) := by
  unfold hs
  rw [List.take_add_one, h]
  simp
set_option maxRecDepth 20000 in
set_option maxHeartbeats 1600000 in
theorem pageCells_no (A A1 A2 : Option Addr) (n c n1 n2 c1 c2 : Nat) (L : List Cl) (w : World) (hr : RdC w A L) (hn : L.length = n) (hnm : n ≤ 4398046511104) (h : ¬ Rises L) :
    Calls Try.prog 5 #[.slice A n c, .agg #[.slice A1 n1 c1, .slice A2 n2 c2]] w (Ret w (Is (.bool true))) := by
  have KA := hide awake_any
  have KR := hide (fun (W : World) (hW : Ext w W) => rrises_no n c W (hr.ext hW) hn hnm h)
  clear hr hn hnm h
  go_enter Try.func5, Try.ntmps5
  go_upto_region 2 with (first
    | (go_at_call 11; (with_reducible refine (KA.out _).mono ?_); rintro e w1 ⟨rfl, hx⟩; have X1 := hide ((Ext.alloc _ _).trans hx); clear hx)
    | (go_at_call 21; (with_reducible refine (KR.out _ X1.out).mono ?_); rintro e w2 ⟨rfl, q, rfl⟩; have X2 := hide (X1.out.trans ((Ext.refl _).drewN q))))
  go_wp2_with (go_at_call 11; (with_reducible refine (KA.out _).mono ?_); rintro e w3 ⟨rfl, hx⟩; have X3 := hide (X2.out.trans hx); clear hx)
  go_ret
  exact Ret.mk X3.out rfl
set_option maxRecDepth 20000 in
set_option maxHeartbeats 1600000 in
theorem pageCells_long (A A1 A2 : Option Addr) (n c n1 n2 c1 c2 : Nat) (L : List Cl) (w : World) (hr : RdC w A L) (hn : L.length = n) (hnm : n ≤ 4398046511104) (h : Rises L) (hlong : 300 < n) :
    Calls Try.prog 5 #[.slice A n c, .agg #[.slice A1 n1 c1, .slice A2 n2 c2]] w (Ret w (Is (.bool true))) := by
  have KA := hide awake_any
  have KR := hide (fun (W : World) (hW : Ext w W) => rrises_yes n c W (hr.ext hW) hn hnm h)
  have hli : (300 : Int) < (n : Int) := by omega
  clear hlong
  clear hr hn hnm h
  go_enter Try.func5, Try.ntmps5
  go_upto_region 2 with (first
    | (go_at_call 11; (with_reducible refine (KA.out _).mono ?_); rintro e w1 ⟨rfl, hx⟩; have X1 := hide ((Ext.alloc _ _).trans hx); clear hx)
    | (go_at_call 21; (with_reducible refine (KR.out _ X1.out).mono ?_); rintro e w2 ⟨rfl, q, rfl⟩; have X2 := hide (X1.out.trans ((Ext.refl _).drewN q))))
  go_wp2_with (go_at_call 11; (with_reducible refine (KA.out _).mono ?_); rintro e w3 ⟨rfl, hx⟩; have X3 := hide (X2.out.trans hx); clear hx)
  go_ret
  exact Ret.mk X3.out rfl
set_option maxRecDepth 20000 in
set_option maxHeartbeats 6400000 in
theorem pageCells_main (A A1 A2 : Option Addr) (n c n1 n2 c1 c2 : Nat) (L : List Cl) (x : Cl) (w : World) (hr : RdC w A L) (h1 : Rd w A1 x.1) (h2 : Rd w A2 x.2) (e1 : x.1.length = n1) (e2 : x.2.length = n2) (hc1 : n1 ≤ c1) (hc2 : n2 ≤ c2) (hn : L.length = n) (hnc : n ≤ c) (h : Rises L) (hs3 : n ≤ 300) (hS : Small L) (hSx : Small [x]) :
    Calls Try.prog 5 #[.slice A n c, .agg #[.slice A1 n1 c1, .slice A2 n2 c2]] w (Ret w (Is (.bool true))) := by
  have KA := hide awake_any
  have KR := hide (fun (W : World) (hW : Ext w W) => rrises_yes n c W (hr.ext hW) hn (by omega) h)
  obtain ⟨RP, HRP⟩ : ∃ RP, Hid (repl L x.1 [x] = RP) := ⟨_, hide rfl⟩
  obtain ⟨RD, HRD⟩ : ∃ RD, Hid (repl L x.1 [] = RD) := ⟨_, hide rfl⟩
  obtain ⟨q, HQ⟩ : ∃ q, Hid (ix L x.1 = q) := ⟨_, hide rfl⟩
  obtain ⟨b, HB⟩ : ∃ b, Hid (hs L x.1 = b) := ⟨_, hide rfl⟩
  have HQN : Hid (q ≤ n) := hide (by rw [← HQ.out, ← hn]; exact ix_le L x.1)
  have KP := hide (fun (W : World) (hW : Keeps w W) => (show Calls Try.prog 23 #[.slice A n c, .agg #[.slice A1 n1 c1, .slice A2 n2 c2]] W (Ret W (Cells RP)) from by
    have hp := put_any n n1 n2 c c1 c2 W (hr.keep hW) (h1.keep hW) (h2.keep hW) hn e1 e2 hc1 hc2 (by omega) hnc h hS hSx
    rw [HRP.out] at hp
    exact hp.mono fun _ _ hh => ret_cells hh))
  have KQ := hide (fun (W : World) (hW : Keeps w W) => (show Calls Try.prog 24 #[.slice A n c, .agg #[.slice A1 n1 c1, .slice A2 n2 c2]] W (Ret W (Cells RP)) from by
    have hp := rput_any n n1 n2 c c1 c2 W (hr.keep hW) (h1.keep hW) (h2.keep hW) hn e1 e2 hc1 hc2 (by omega) h
    rw [HRP.out] at hp
    exact hp))
  have KD := hide (fun (W : World) (hW : Keeps w W) => (show Calls Try.prog 25 #[.slice A n c, .slice A1 n1 c1] W (Ret W (Cells RD)) from by
    have hp := drop_any (key := x.1) n n1 c c1 W (hr.keep hW) (h1.keep hW) hn e1 (by omega) hnc h hS
    rw [HRD.out] at hp
    exact hp.mono fun _ _ hh => ret_cells hh))
  have KE := hide (fun (W : World) (hW : Keeps w W) => (show Calls Try.prog 26 #[.slice A n c, .string ⟨(x.1).toArray⟩] W (Ret W (Cells RD)) from by
    have hp := rdrop_any x.1 n c W (hr.keep hW) hn (by omega) h
    rw [HRD.out] at hp
    exact hp))
  have KF := hide (fun (W : World) (hW : Ext w W) => (show Calls Try.prog 22 #[.slice A n c, .slice A1 n1 c1] W (Ret W (Is (.tuple #[.int .i64 (q : Int), .bool b]))) from by
    have hp := find_any (key := x.1) n n1 c c1 W (hr.ext hW) (h1.ext hW) hn e1 (by omega) h
    rw [HQ.out, HB.out] at hp
    exact hp))
  have LP : Hid (RP.length ≤ 301) := hide (by rw [← HRP.out]; have := repl_le L x.1 [x]; simp at this; omega)
  have LD : Hid (RD.length ≤ 301) := hide (by rw [← HRD.out]; have := repl_le L x.1 []; simp at this; omega)
  have HN := hide hn
  have HR := hide h
  have HE1 := hide e1
  have D1 := hide h1
  have HRC := hide hr
  have hli : ¬ (300 : Int) < (n : Int) := by omega
  have hn3 : (n : Int) ≤ 300 := by omega
  clear hr h1 h2 e1 e2 hc1 hc2 hn hnc h hs3 hS hSx
  go_enter Try.func5, Try.ntmps5
  go_upto_region 1 with fail
  obtain ⟨W1, hX1, hR1, hg⟩ : ∃ W1, Ext w W1 ∧ Rw W1 w.heap.size 40 [.slice A1 n1 c1, .slice A2 n2 c2] ∧ w.alloc (.cells #[.slice A1 n1 c1, .slice A2 n2 c2] 40) = W1 := ⟨_, Ext.alloc _ _, Rw.new _ _ _, rfl⟩
  rw [hg]
  obtain ⟨hb, HHB⟩ : ∃ hb, Hid (w.heap.size = hb) := ⟨_, hide rfl⟩
  rw [HHB.out] at hR1 ⊢
  have X0 := hide hX1
  have R0 := hide hR1
  clear hg hX1 hR1
  go_upto_region 3 with (first
    | (go_at_call 11; (with_reducible refine (KA.out _).mono ?_); rintro e w1 ⟨rfl, hx1⟩; have X1 := hide (X0.out.trans hx1); have R1 := hide (R0.out.ext hx1); clear hx1)
    | (go_at_call 21; (with_reducible refine (KR.out _ X1.out).mono ?_); rintro e w2 ⟨rfl, qd, rfl⟩))
  obtain ⟨w2, hw2⟩ : ∃ w2, w1.drewN qd = w2 := ⟨_, rfl⟩
  have X2 : Hid (Ext w w2) := hide (by rw [← hw2]; exact X1.out.trans ((Ext.refl _).drewN qd))
  have RB : Hid (Rw w2 hb 40 [.slice A1 n1 c1, .slice A2 n2 c2]) := hide (by rw [← hw2]; exact R1.out.ext ((Ext.refl _).drewN qd))
  rw [hw2]
  clear hw2 X1 R1 X0 R0 KA KR hli
  have k0 := RB.out.cell (i := 0) rfl
  go_upto_region 4 with (go_at_call 22; (with_reducible refine (KF.out _ X2.out).mono ?_); rintro e w3 ⟨v3, rfl, hx3, rfl⟩; have X3 := hide (X2.out.trans hx3); have R3 := hide (RB.out.ext hx3); clear hx3)
  clear k0 KF RB X2
  go_wp2
  go_loopw [7, 8, 9] (fun bv tv iv wr => ∃ k : Nat, k ≤ n ∧ bv = .int .i64 ((min k q : Nat) : Int) ∧ tv = .bool (hs (L.take k) x.1) ∧ iv = .int .i64 (k : Int) ∧ Hid (Ext w3 wr)) (fun _ _ iv _ => n - (intOf iv).toNat)
  case atStart => exact ⟨0, Nat.zero_le _, by simp, rfl, rfl, hide (Ext.refl _)⟩
  case round =>
    obtain ⟨k, hk, rfl, rfl, rfl, HX⟩ := hrel
    by_cases hlt : k < n
    · obtain ⟨y, hy⟩ : ∃ y, L[k]? = some y := ⟨_, List.getElem?_eq_getElem (by have := HN.out; omega)⟩
      obtain ⟨bl, off, B1, d1, B2, d2, rfl, m1, m2, g1, g2, r1, r2⟩ := HRC.out.at hy
      have m1b := (X3.out.trans HX.out).keeps.cell m1
      have b0 := (R3.out.ext HX.out).cell (i := 0) rfl
      have cvx := fun (t : Nat) => str_any ((D1.out.ext (X3.out.trans HX.out)).drewN t) n1 c1 HE1.out
      have cvy := fun (t : Nat) => str_any ((r1.ext (X3.out.trans HX.out)).drewN t) y.1.length d1 rfl
      have HM1 := hide m1
      have HRY := hide r1
      have HLT := hide (ix_lt HR.out x.1 hy)
      rw [HQ.out] at HLT
      have HSN := hide (hs_snoc L x.1 k y hy)
      obtain ⟨t, HT⟩ : ∃ t, Hid (hs (L.take k) x.1 = t) := ⟨_, hide rfl⟩
      rw [HT.out] at HSN ⊢
      obtain ⟨mk, HMK⟩ : ∃ mk, Hid (min k q = mk) := ⟨_, hide rfl⟩
      have hmk : (mk : Int) ≤ 300 := by have := HMK.out; omega
      have hmk0 : (0 : Int) ≤ (mk : Int) := by omega
      rw [HMK.out]
      have hki : (k : Int) < (n : Int) := by omega
      have hk0 : (0 : Int) ≤ (k : Int) := by omega
      clear hy m1 m2 g1 g2 r1 r2
      by_cases hkq : k < q
      all_goals first
        | (have hless : Op.bytesLess y.1 x.1 = true := HLT.out.2 (by first | exact hkq | omega)
           have HMN : Hid (((min (k + 1) q : Nat) : Int) = (mk : Int) + 1) := hide (by have := HMK.out; omega)
           go_wp2
           go_quiet (fail)
           go_upto_region 11 with fail
           rw [← HMN.out]
           clear hless)
        | (have hless : Op.bytesLess y.1 x.1 = false := by
             cases hb2 : Op.bytesLess y.1 x.1 with
             | false => rfl
             | true => exact absurd (HLT.out.1 hb2) hkq
           have HMN : Hid (((min (k + 1) q : Nat) : Int) = (mk : Int)) := hide (by have := HMK.out; omega)
           go_wp2
           go_quiet (fail)
           go_upto_region 11 with fail
           rw [← HMN.out]
           clear hless)
      all_goals
        obtain ⟨w4, hw4⟩ : ∃ w4, wr.drewN nq = w4 := ⟨_, rfl⟩
        have X4 : Hid (Ext w3 w4) := hide (by rw [← hw4]; exact HX.out.trans ((Ext.refl _).drewN _))
        rw [hw4]
        clear hw4 b0 cvx cvy m1b hmk hmk0 HMN HLT HMK hkq
        have m1b := (X3.out.trans X4.out).keeps.cell HM1.out
        have b0 := (R3.out.ext X4.out).cell (i := 0) rfl
        have cvx := fun (t : Nat) => str_any ((D1.out.ext (X3.out.trans X4.out)).drewN t) n1 c1 HE1.out
        have cvy := fun (t : Nat) => str_any ((HRY.out.ext (X3.out.trans X4.out)).drewN t) y.1.length d1 rfl
        cases t with
        | true =>
          have HS2 : Hid (hs (L.take (k + 1)) x.1 = true) := hide (by rw [HSN.out]; rfl)
          go_quiet (fail)
          go_wp2
          refine ⟨⟨k + 1, by omega, rfl, by rw [HS2.out], by go_num, hide (X4.out.trans ((Ext.refl _).drewN _))⟩, by simp [intOf]; omega⟩
        | false =>
          have HS2 : Hid (hs (L.take (k + 1)) x.1 = (y.1 == x.1)) := hide (by rw [HSN.out]; rfl)
          go_quiet (fail)
          go_wp2
          refine ⟨⟨k + 1, by omega, rfl, by rw [HS2.out], by go_num, hide (X4.out.trans ((Ext.refl _).drewN _))⟩, by simp [intOf]; omega⟩
    · have hki : ¬ (k : Int) < (n : Int) := by omega
      have HLK : Hid (L.take k = L) := hide (List.take_of_length_le (by rw [HN.out]; omega))
      have HMQ : Hid (min k q = q) := hide (by have := HQN.out; omega)
      rw [HLK.out, HB.out, HMQ.out]
      have XE := hide (X3.out.trans HX.out)
      have RE := hide (R3.out.ext HX.out)
      clear hlt hk
      go_wp2
      have WE := hide XE.out
      rename_i hK
      refine wp_region_sp XE.out.size [
          Sp.is (.int .i64 (q : Int)),
          Sp.is (.int .i64 (q : Int)),
          Sp.is (.bool true),
          Sp.is (.bool true),
          Sp.is (.bool b),
          Sp.is (.bool b),
          Sp.is (.bool true),
          Sp.is (.bool true),
          Sp.is (.bool true),
          Sp.is (.slice A n c),
          Sp.is (.agg #[.slice A1 n1 c1, .slice A2 n2 c2]),
          Sp.cells RP,
          Sp.is (.slice A n c),
          Sp.is (.agg #[.slice A1 n1 c1, .slice A2 n2 c2]),
          Sp.cells RP,
          Sp.is (.bool true),
          Sp.is (.bool true),
          Sp.is (.bool true),
          Sp.is (.slice A n c),
          Sp.is (.pointer (some ⟨hb, 0, none⟩)),
          Sp.is (.slice A1 n1 c1),
          Sp.cells RD,
          Sp.is (.slice A n c),
          Sp.is (.pointer (some ⟨hb, 0, none⟩)),
          Sp.is (.slice A1 n1 c1),
          Sp.is (.string ⟨(x.1).toArray⟩),
          Sp.cells RD,
          Sp.is (.bool true),
          Sp.is (.bool true),
          Sp.is (.bool true)] (by kernel_rfl) (by kernel_rfl) ?_ ?_
      · refine ⟨?_, ?_, ?_, ?_, ?_, ?_, ?_, ?_, ?_, ?_, ?_, ?_, ?_, ?_, ?_, ?_, ?_, ?_, ?_, ?_, ?_, ?_, ?_, ?_, ?_, ?_, ?_, ?_, ?_, ?_, trivial⟩
        · intro az wz hx hB hk H
          refine .inl ⟨wanted_none rfl, ?_⟩
          refine gives_move rfl ?_
          rw [(ev (show az.tmps[5]? = some (.int .i64 (q : Int)) from hk 5 rfl))]
          exact ⟨Grw.refl _ _, rfl⟩
        · intro az wz hx hB hk H
          refine .inl ⟨wanted_none rfl, ?_⟩
          refine gives_move rfl ?_
          rw [(ev (show az.tmps[7]? = some (.int .i64 (q : Int)) from hk 7 rfl))]
          exact ⟨Grw.refl _ _, rfl⟩
        · intro az wz hx hB hk H
          obtain ⟨v61, h61, s61⟩ := H 0 rfl _ rfl 61 rfl
          obtain ⟨v62, h62, s62⟩ := H 1 rfl _ rfl 62 rfl
          refine .inl ⟨wanted_none rfl, ?_⟩
          refine gives_eql_int (k := .i64) ((q : Int)) ((q : Int)) rfl ?_ ?_ ⟨Grw.refl _ _, congrArg Value.bool (by simp)⟩
          · rw [(ev h61)]
            exact s61
          · rw [(ev h62)]
            exact s62
        · intro az wz hx hB hk H
          obtain ⟨v63, h63, s63⟩ := H 2 rfl _ rfl 63 rfl
          refine .inl ⟨wanted_none rfl, ?_⟩
          refine gives_move rfl ?_
          rw [(ev h63)]
          exact ⟨Grw.refl _ _, s63⟩
        · intro az wz hx hB hk H
          obtain ⟨v64, h64, s64⟩ := H 3 rfl _ rfl 64 rfl
          have g0 : az.tmps[64]? = some (.bool true) := by rw [h64]; exact congrArg some s64
          refine .inl ⟨wanted_yes _ rfl rfl rfl g0, ?_⟩
          refine gives_move rfl ?_
          rw [(ev (show az.tmps[6]? = some (.bool b) from hk 6 rfl))]
          exact ⟨Grw.refl _ _, rfl⟩
        · intro az wz hx hB hk H
          obtain ⟨v64, h64, s64⟩ := H 3 rfl _ rfl 64 rfl
          have g0 : az.tmps[64]? = some (.bool true) := by rw [h64]; exact congrArg some s64
          refine .inl ⟨wanted_yes _ rfl rfl rfl g0, ?_⟩
          refine gives_move rfl ?_
          rw [(ev (show az.tmps[8]? = some (.bool b) from hk 8 rfl))]
          exact ⟨Grw.refl _ _, rfl⟩
        · intro az wz hx hB hk H
          obtain ⟨v64, h64, s64⟩ := H 3 rfl _ rfl 64 rfl
          obtain ⟨v65, h65, s65⟩ := H 4 rfl _ rfl 65 rfl
          obtain ⟨v66, h66, s66⟩ := H 5 rfl _ rfl 66 rfl
          have g0 : az.tmps[64]? = some (.bool true) := by rw [h64]; exact congrArg some s64
          refine .inl ⟨wanted_yes _ rfl rfl rfl g0, ?_⟩
          refine gives_eql_bool (b) (b) Try.underlying4 rfl ?_ ?_ ⟨Grw.refl _ _, congrArg Value.bool (by simp)⟩
          · rw [(ev h65)]
            exact s65
          · rw [(ev h66)]
            exact s66
        · intro az wz hx hB hk H
          obtain ⟨v64, h64, s64⟩ := H 3 rfl _ rfl 64 rfl
          obtain ⟨v67, h67, s67⟩ := H 6 rfl _ rfl 67 rfl
          refine .inl ⟨wanted_none rfl, ?_⟩
          refine gives_pick true rfl ?_ ?_
          · rw [(ev h64)]
            exact s64
          · show Grw _ _ _ ∧ _
            rw [if_pos rfl, (ev h67)]
            exact ⟨Grw.refl _ _, s67⟩
        · intro az wz hx hB hk H
          obtain ⟨v68, h68, s68⟩ := H 7 rfl _ rfl 68 rfl
          refine .inl ⟨wanted_none rfl, ?_⟩
          refine gives_move rfl ?_
          rw [(ev h68)]
          exact ⟨Grw.refl _ _, s68⟩
        · intro az wz hx hB hk H
          obtain ⟨v69, h69, s69⟩ := H 8 rfl _ rfl 69 rfl
          have g0 : az.tmps[69]? = some (.bool true) := by rw [h69]; exact congrArg some s69
          refine .inl ⟨wanted_yes _ rfl rfl rfl g0, ?_⟩
          refine gives_move rfl ?_
          rw [(ev (show az.tmps[0]? = some (.slice A n c) from hk 0 rfl))]
          exact ⟨Grw.refl _ _, rfl⟩
        · intro az wz hx hB hk H
          obtain ⟨v69, h69, s69⟩ := H 8 rfl _ rfl 69 rfl
          have g0 : az.tmps[69]? = some (.bool true) := by rw [h69]; exact congrArg some s69
          refine .inl ⟨wanted_yes _ rfl rfl rfl g0, ?_⟩
          refine gives_load_at 40 (.tmp 3) rfl hb 0 (by rw [(ev (show az.tmps[3]? = some (.pointer (some ⟨hb, 0, none⟩)) from hk 3 rfl))]) [.slice A1 n1 c1, .slice A2 n2 c2] 2 (agg_struct Try.underlying40 _) sizeCell rfl (fun j v hj => by rw [Nat.zero_add]; exact hx.keeps.cell (RE.out.cell hj)) ?_
          exact ⟨Grw.refl _ _, rfl⟩
        · intro az wz hx hB hk H
          obtain ⟨v69, h69, s69⟩ := H 8 rfl _ rfl 69 rfl
          obtain ⟨v70, h70, s70⟩ := H 9 rfl _ rfl 70 rfl
          obtain ⟨v71, h71, s71⟩ := H 10 rfl _ rfl 71 rfl
          have g0 : az.tmps[69]? = some (.bool true) := by rw [h69]; exact congrArg some s69
          refine .inl ⟨wanted_yes _ rfl rfl rfl g0, ?_⟩
          refine gives_call rfl Try.call23 (by simp only [List.map_toArray, List.map_cons, List.map_nil, ev h70, ev h71]; rw [s70, s71]) ?_
          exact (KP.out wz (WE.out.keeps.trans hx.keeps)).mono fun _ _ h => h.grw hB
        · intro az wz hx hB hk H
          obtain ⟨v69, h69, s69⟩ := H 8 rfl _ rfl 69 rfl
          have g0 : az.tmps[69]? = some (.bool true) := by rw [h69]; exact congrArg some s69
          refine .inl ⟨wanted_yes _ rfl rfl rfl g0, ?_⟩
          refine gives_move rfl ?_
          rw [(ev (show az.tmps[0]? = some (.slice A n c) from hk 0 rfl))]
          exact ⟨Grw.refl _ _, rfl⟩
        · intro az wz hx hB hk H
          obtain ⟨v69, h69, s69⟩ := H 8 rfl _ rfl 69 rfl
          have g0 : az.tmps[69]? = some (.bool true) := by rw [h69]; exact congrArg some s69
          refine .inl ⟨wanted_yes _ rfl rfl rfl g0, ?_⟩
          refine gives_load_at 40 (.tmp 3) rfl hb 0 (by rw [(ev (show az.tmps[3]? = some (.pointer (some ⟨hb, 0, none⟩)) from hk 3 rfl))]) [.slice A1 n1 c1, .slice A2 n2 c2] 2 (agg_struct Try.underlying40 _) sizeCell rfl (fun j v hj => by rw [Nat.zero_add]; exact hx.keeps.cell (RE.out.cell hj)) ?_
          exact ⟨Grw.refl _ _, rfl⟩
        · intro az wz hx hB hk H
          obtain ⟨v69, h69, s69⟩ := H 8 rfl _ rfl 69 rfl
          obtain ⟨v73, h73, s73⟩ := H 12 rfl _ rfl 73 rfl
          obtain ⟨v74, h74, s74⟩ := H 13 rfl _ rfl 74 rfl
          have g0 : az.tmps[69]? = some (.bool true) := by rw [h69]; exact congrArg some s69
          refine .inl ⟨wanted_yes _ rfl rfl rfl g0, ?_⟩
          refine gives_call rfl Try.call24 (by simp only [List.map_toArray, List.map_cons, List.map_nil, ev h73, ev h74]; rw [s73, s74]) ?_
          exact (KQ.out wz (WE.out.keeps.trans hx.keeps)).mono fun _ _ h => h.grw hB
        · intro az wz hx hB hk H
          obtain ⟨v69, h69, s69⟩ := H 8 rfl _ rfl 69 rfl
          obtain ⟨v72, h72, s72⟩ := H 11 rfl _ rfl 72 rfl
          obtain ⟨v75, h75, s75⟩ := H 14 rfl _ rfl 75 rfl
          have g0 : az.tmps[69]? = some (.bool true) := by rw [h69]; exact congrArg some s69
          refine .inl ⟨wanted_yes _ rfl rfl rfl g0, ?_⟩
          obtain ⟨Aa, ca, hva, hca, hra⟩ := s72
          obtain ⟨Ab, cb, hvb, hcb, hrb⟩ := s75
          refine gives_call rfl Try.call19 (by simp only [List.map_toArray, List.map_cons, List.map_nil, ev h72, ev h75]; rw [hva, hvb]) ?_
          exact (rsame_yes _ _ ca cb wz hra hrb rfl rfl (by have := LP.out; omega) rfl).mono fun _ _ h => ⟨_, h.1, by obtain ⟨-, q, rfl⟩ := h; exact Grw.drewN _ _ _, rfl⟩
        · intro az wz hx hB hk H
          obtain ⟨v69, h69, s69⟩ := H 8 rfl _ rfl 69 rfl
          obtain ⟨v76, h76, s76⟩ := H 15 rfl _ rfl 76 rfl
          refine .inl ⟨wanted_none rfl, ?_⟩
          refine gives_pick true rfl ?_ ?_
          · rw [(ev h69)]
            exact s69
          · show Grw _ _ _ ∧ _
            rw [if_pos rfl, (ev h76)]
            exact ⟨Grw.refl _ _, s76⟩
        · intro az wz hx hB hk H
          obtain ⟨v77, h77, s77⟩ := H 16 rfl _ rfl 77 rfl
          refine .inl ⟨wanted_none rfl, ?_⟩
          refine gives_move rfl ?_
          rw [(ev h77)]
          exact ⟨Grw.refl _ _, s77⟩
        · intro az wz hx hB hk H
          obtain ⟨v78, h78, s78⟩ := H 17 rfl _ rfl 78 rfl
          have g0 : az.tmps[78]? = some (.bool true) := by rw [h78]; exact congrArg some s78
          refine .inl ⟨wanted_yes _ rfl rfl rfl g0, ?_⟩
          refine gives_move rfl ?_
          rw [(ev (show az.tmps[0]? = some (.slice A n c) from hk 0 rfl))]
          exact ⟨Grw.refl _ _, rfl⟩
        · intro az wz hx hB hk H
          obtain ⟨v78, h78, s78⟩ := H 17 rfl _ rfl 78 rfl
          have g0 : az.tmps[78]? = some (.bool true) := by rw [h78]; exact congrArg some s78
          refine .inl ⟨wanted_yes _ rfl rfl rfl g0, ?_⟩
          refine gives_fieldP rfl (by rw [(ev (show az.tmps[3]? = some (.pointer (some ⟨hb, 0, none⟩)) from hk 3 rfl))]) (run_fieldC hb 0 (.inl rfl) _) ?_
          exact ⟨Grw.refl _ _, rfl⟩
        · intro az wz hx hB hk H
          obtain ⟨v78, h78, s78⟩ := H 17 rfl _ rfl 78 rfl
          obtain ⟨v80, h80, s80⟩ := H 19 rfl _ rfl 80 rfl
          have g0 : az.tmps[78]? = some (.bool true) := by rw [h78]; exact congrArg some s78
          refine .inl ⟨wanted_yes _ rfl rfl rfl g0, ?_⟩
          refine gives_load_one rfl (by rw [ev h80, s80]) Try.underlying28 (hx.keeps.cell (RE.out.cell (i := 0) rfl)) ?_
          exact ⟨Grw.refl _ _, rfl⟩
        · intro az wz hx hB hk H
          obtain ⟨v78, h78, s78⟩ := H 17 rfl _ rfl 78 rfl
          obtain ⟨v79, h79, s79⟩ := H 18 rfl _ rfl 79 rfl
          obtain ⟨v81, h81, s81⟩ := H 20 rfl _ rfl 81 rfl
          have g0 : az.tmps[78]? = some (.bool true) := by rw [h78]; exact congrArg some s78
          refine .inl ⟨wanted_yes _ rfl rfl rfl g0, ?_⟩
          refine gives_call rfl Try.call25 (by simp only [List.map_toArray, List.map_cons, List.map_nil, ev h79, ev h81]; rw [s79, s81]) ?_
          exact (KD.out wz (WE.out.keeps.trans hx.keeps)).mono fun _ _ h => h.grw hB
        · intro az wz hx hB hk H
          obtain ⟨v78, h78, s78⟩ := H 17 rfl _ rfl 78 rfl
          have g0 : az.tmps[78]? = some (.bool true) := by rw [h78]; exact congrArg some s78
          refine .inl ⟨wanted_yes _ rfl rfl rfl g0, ?_⟩
          refine gives_move rfl ?_
          rw [(ev (show az.tmps[0]? = some (.slice A n c) from hk 0 rfl))]
          exact ⟨Grw.refl _ _, rfl⟩
        · intro az wz hx hB hk H
          obtain ⟨v78, h78, s78⟩ := H 17 rfl _ rfl 78 rfl
          have g0 : az.tmps[78]? = some (.bool true) := by rw [h78]; exact congrArg some s78
          refine .inl ⟨wanted_yes _ rfl rfl rfl g0, ?_⟩
          refine gives_fieldP rfl (by rw [(ev (show az.tmps[3]? = some (.pointer (some ⟨hb, 0, none⟩)) from hk 3 rfl))]) (run_fieldC hb 0 (.inl rfl) _) ?_
          exact ⟨Grw.refl _ _, rfl⟩
        · intro az wz hx hB hk H
          obtain ⟨v78, h78, s78⟩ := H 17 rfl _ rfl 78 rfl
          obtain ⟨v84, h84, s84⟩ := H 23 rfl _ rfl 84 rfl
          have g0 : az.tmps[78]? = some (.bool true) := by rw [h78]; exact congrArg some s78
          refine .inl ⟨wanted_yes _ rfl rfl rfl g0, ?_⟩
          refine gives_load_one rfl (by rw [ev h84, s84]) Try.underlying28 (hx.keeps.cell (RE.out.cell (i := 0) rfl)) ?_
          exact ⟨Grw.refl _ _, rfl⟩
        · intro az wz hx hB hk H
          obtain ⟨v78, h78, s78⟩ := H 17 rfl _ rfl 78 rfl
          obtain ⟨v85, h85, s85⟩ := H 24 rfl _ rfl 85 rfl
          have g0 : az.tmps[78]? = some (.bool true) := by rw [h78]; exact congrArg some s78
          refine .inl ⟨wanted_yes _ rfl rfl rfl g0, ?_⟩
          refine gives_conv rfl (by rw [ev h85, s85]) (str_any (D1.out.keep (WE.out.keeps.trans hx.keeps)) n1 c1 HE1.out) ?_
          exact ⟨Grw.refl _ _, rfl⟩
        · intro az wz hx hB hk H
          obtain ⟨v78, h78, s78⟩ := H 17 rfl _ rfl 78 rfl
          obtain ⟨v83, h83, s83⟩ := H 22 rfl _ rfl 83 rfl
          obtain ⟨v86, h86, s86⟩ := H 25 rfl _ rfl 86 rfl
          have g0 : az.tmps[78]? = some (.bool true) := by rw [h78]; exact congrArg some s78
          refine .inl ⟨wanted_yes _ rfl rfl rfl g0, ?_⟩
          refine gives_call rfl Try.call26 (by simp only [List.map_toArray, List.map_cons, List.map_nil, ev h83, ev h86]; rw [s83, s86]) ?_
          exact (KE.out wz (WE.out.keeps.trans hx.keeps)).mono fun _ _ h => h.grw hB
        · intro az wz hx hB hk H
          obtain ⟨v78, h78, s78⟩ := H 17 rfl _ rfl 78 rfl
          obtain ⟨v82, h82, s82⟩ := H 21 rfl _ rfl 82 rfl
          obtain ⟨v87, h87, s87⟩ := H 26 rfl _ rfl 87 rfl
          have g0 : az.tmps[78]? = some (.bool true) := by rw [h78]; exact congrArg some s78
          refine .inl ⟨wanted_yes _ rfl rfl rfl g0, ?_⟩
          obtain ⟨Aa, ca, hva, hca, hra⟩ := s82
          obtain ⟨Ab, cb, hvb, hcb, hrb⟩ := s87
          refine gives_call rfl Try.call19 (by simp only [List.map_toArray, List.map_cons, List.map_nil, ev h82, ev h87]; rw [hva, hvb]) ?_
          exact (rsame_yes _ _ ca cb wz hra hrb rfl rfl (by have := LD.out; omega) rfl).mono fun _ _ h => ⟨_, h.1, by obtain ⟨-, q, rfl⟩ := h; exact Grw.drewN _ _ _, rfl⟩
        · intro az wz hx hB hk H
          obtain ⟨v78, h78, s78⟩ := H 17 rfl _ rfl 78 rfl
          obtain ⟨v88, h88, s88⟩ := H 27 rfl _ rfl 88 rfl
          refine .inl ⟨wanted_none rfl, ?_⟩
          refine gives_pick true rfl ?_ ?_
          · rw [(ev h78)]
            exact s78
          · show Grw _ _ _ ∧ _
            rw [if_pos rfl, (ev h88)]
            exact ⟨Grw.refl _ _, s88⟩
        · intro az wz hx hB hk H
          obtain ⟨v89, h89, s89⟩ := H 28 rfl _ rfl 89 rfl
          refine .inl ⟨wanted_none rfl, ?_⟩
          refine gives_assign rfl ?_
          rw [(ev h89)]
          exact ⟨Grw.refl _ _, s89⟩
      · intro az wz hx hd hs hv hsame
        obtain ⟨v, hv4, s4⟩ := hv 29 _ 4 rfl rfl
        obtain rfl : v = .bool true := s4
        refine hK _ _ ?_
        refine wp_ret ?_
        refine bodyPost_ret (results_tmp rfl _ _ _) hd ?_
        refine ⟨_, rfl, XE.out.grw hx, ?_⟩
        simp [Is, hv4]
theorem pageCells_walk (A A1 A2 : Option Addr) (c c1 c2 : Nat) (L : List Cl) (x : Cl) (w : World) (hr : RdC w A L) (h1 : Rd w A1 x.1) (h2 : Rd w A2 x.2) (hc1 : x.1.length ≤ c1) (hc2 : x.2.length ≤ c2) (hnc : L.length ≤ c) (hm : L.length ≤ 4398046511104) (hS : Small L) (hSx : x.1.length ≤ 140737488351232 ∧ x.2.length ≤ 140737488351232) :
    Calls Try.prog 5 #[.slice A L.length c, .agg #[.slice A1 x.1.length c1, .slice A2 x.2.length c2]] w (Ret w (Is (.bool true))) := by
  by_cases hR : Rises L
  · by_cases hl : 300 < L.length
    · exact pageCells_long A A1 A2 _ c _ _ c1 c2 L w hr rfl hm hR hl
    · exact pageCells_main A A1 A2 _ c _ _ c1 c2 L x w hr h1 h2 rfl rfl hc1 hc2 rfl hnc hR (by omega) hS (small_one hSx)
  · exact pageCells_no A A1 A2 _ c _ _ c1 c2 L w hr rfl hm hR
end Go.Proofs.Ytmamhinpkioogaa
