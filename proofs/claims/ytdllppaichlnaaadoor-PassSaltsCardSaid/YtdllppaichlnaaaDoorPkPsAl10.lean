/-
  PassTexts: for every secret and every text, of any size that the form reaches, the law answers true and leaves them as they were; digest.start and digest.roundWords hold what the program's text lays.
  The walk of PassSalts.
  PassSalts: for every password, every two salts and every byte, of any size that the form reaches, the law answers true and leaves them as they were; digest.start and digest.roundWords hold what the program's text lays.
  The walk of PassRounds.
  PassRounds: for every password, every salt and every two bytes, of any size that the form reaches, the law answers true and leaves them as they were; digest.start and digest.roundWords hold what the program's text lays.
-/
import Derived.Test.YtdllppaichlnaaaDoorPkPsAl0
import Derived.Test.YtdllppaichlnaaaDoorPkPsAl1
import Derived.Test.YtdllppaichlnaaaDoorPkPsAl5
import Derived.Test.YtdllppaichlnaaaDoorPkPsAl6
import Derived.Test.YtdllppaichlnaaaDoorPkPsAl9
set_option linter.unusedVariables false
set_option linter.unusedSimpArgs false

namespace Go.Proofs.YtdllppaichlnaaaDoor.lawPassTexts
open Go.ChangeShapes Go.WideShapes Go.ChangeAt Go.RowKit
open Go.ChangeMaps (open_string)

set_option maxRecDepth 100000 in
theorem contract (H : Type) (enc : TypeId × Value → H) (W : World) (base : Nat) (args : Array Value) (ds gs : List (DataW H)) (before : List MemPlace)
    (hval : ∀ (j : Nat) t v, Tryd.f5.params[j]? = some t → args[j]? = some v → Value.okWide Tryd.prog W .any base t v)
    (hW : DataW.Whole enc Tryd.prog Tryd.f5.params.toList Rows.passTextsSpec.vars false W args.toList ds gs before) (hz : (DataW.weightsEach Tryd.prog (Tryd.f5.params.toList ++ (OpenSpec.ofChange Rows.passTextsSpec).bare.plain.varTypes Tryd.prog) (ds ++ gs)).all (· ≤ reachBytes) = true) (hL : laidMetH Tryd.prog Rows.passTextsRow.laid W) :
    Calls Tryd.prog 5 args W fun e W' => ∃ v, e = .returned v ∧ Rows.passTextsSpec.post enc Tryd.prog Tryd.f5 false true false false W args v W' := by
  have hW' := hW
  obtain ⟨p, q, hA0, hV, hbe, hfz, hnd⟩ := hW
  have hA : DataW.TrodAll enc Tryd.prog W 0 (fun _ => true) true Tryd.f5.params.toList args.toList ds p := hA0
  obtain ⟨rfl, rfl⟩ := trodVars_none hV
  rw [Tryd.params5] at hA hval
  obtain ⟨v0, vs0, d0, ds0, p0, q0, hg0, hd0, hp0, h0, r0⟩ := trodAll_cons hA
  obtain ⟨v1, vs1, d1, ds1, p1, q1, hg1, hd1, hp1, h1, r1⟩ := trodAll_cons r0
  obtain ⟨e1, e2, e3⟩ := trodAll_nil r1
  have hds : ds = [d0, d1] := by simp [hd0, hd1, e2]
  obtain rfl : args = #[v0, v1] := by
    have : args.toList = [v0, v1] := by simp [hg0, hg1, e1]
    exact Array.toList_inj.1 this
  subst hds
  obtain ⟨sa0, sr0, sd0, rfl, ha0, hl0⟩ := open_secret (hval 0 26 v0 rfl rfl) h0
  obtain ⟨s1, rfl, hd1, -, hm1⟩ := open_string Tryd.underlying9 (hval 1 9 v1 rfl rfl) h1
  have hb1 : s1.data.toList.length ≤ 140737488351232 := sized_string hz (j := 1) rfl (by rw [hd1]; rfl)
  have ht := tab_of_laid hL
  refine (passTexts_walk sa0 sr0 sd0 s1 W hb1 ha0 hl0 ht).mono fun e W' ⟨v, he, hx, hv⟩ => ?_
  subst he
  have hv' : v = .bool true := hv
  subst hv'
  exact ⟨_, rfl, law_post laidOut hW' rfl (by rw [Tryd.params5]; exact readable_all _ (by kernel_rfl)) (by kernel_rfl) Tryd.underlying4 rfl hx⟩

theorem laid_met (os : Os) : laidMet Tryd.prog Rows.passTextsRow.laid ((laidWorld os).forCall (fun _ _ => 0) ⟨#[], #[secW, Value.string .empty], []⟩).memory :=
  laidWorld_met os _
theorem reads (os : Os) {H : Type} (enc : TypeId × Value → H) : ∃ places, DataW.whole enc Tryd.prog ((laidWorld os).forCall (fun _ _ => 0) ⟨#[], #[secW, Value.string .empty], []⟩).memory Tryd.f5.params.toList Rows.passTextsSpec.vars false (#[secW, Value.string .empty]).toList 8 = some ([secDat, .lit (.string [])], [], places) :=
  ⟨[], by kernel_rfl⟩

set_option maxRecDepth 100000 in
theorem lifted (os : Os) (started : os.Started) (H : Type) (enc : TypeId × Value → H) (F : Stop.Interp) :
    ReturnsInHanded {} Tryd.checked os 5 .any ((OpenSpec.ofChange Rows.passTextsSpec).preRow enc Tryd.prog Tryd.f5 Rows.passTextsRow.domain false Rows.passTextsRow.laid) (((OpenSpec.ofChange Rows.passTextsSpec).at F).post enc Tryd.prog Tryd.f5 false true false false) := by
  obtain ⟨places, hx⟩ := reads os enc
  refine returnsInHanded_of_row (C := Tryd.checked) (s := (OpenSpec.ofChange Rows.passTextsSpec)) own started (by kernel_rfl) Tryd.func5
    (witness_row_at (enc := enc) (C := Tryd.checked) false (laidWorld os) #[secW, Value.string .empty] (laidWorld_os os) (by kernel_rfl) (by kernel_rfl) (by kernel_rfl)
      (OpenSpec.preRow_of_cond 8 hx (by kernel_rfl) (fun k hk => by cases hk) (by kernel_rfl) (laid_met os))) ?_
  intro W base args ds gs before hval hW _ hcond hz hL _ _
  exact contract H enc W base args ds gs before hval hW hz hL

theorem said : Rows.PassTextsSaid :=
  OpenClaim.holds_of_cond 5 Tryd.f5 rfl rfl rfl rfl rfl rfl rfl ⟨rfl, rfl, rfl, rfl, rfl⟩ rfl rfl rfl rfl rfl (by kernel_rfl) Tryd.func5 (by kernel_rfl)
    (of_decide_eq_true (by kernel_rfl)) (by unfold Func.isWrapper; first | (rw [if_pos (by decide +kernel)]; kernel_rfl) | (rw [if_neg (by decide +kernel)]; exact ⟨rfl, rfl⟩))
    (fun os started H enc _ F => by rw [OpenClaim.pre_eq_preRow]; exact lifted os started H enc F)

theorem plain (f : FuncId) (fn : Func) (hf : Tryd.pinned.checked.prog.funcNamed "muniment/munimentlaw18.PassTexts" = some f) (hfn : Tryd.pinned.checked.prog.funcs[f]? = some fn) :
    Rows.passTextsCard.stood.looks = Tryd.pinned.checked.prog.looks [] ∧ ∀ (j : Nat) t, fn.params[j]? = some t → Tryd.pinned.checked.prog.wantsStandIn t = false := by
  obtain rfl : f = 5 := Option.some.inj ((show Tryd.prog.funcNamed "muniment/munimentlaw18.PassTexts" = some 5 by kernel_rfl).symm.trans hf) |>.symm
  obtain rfl : fn = Tryd.f5 := (Option.some.inj (Tryd.func5.symm.trans hfn)).symm
  refine ⟨by kernel_rfl, fun j t ht => ?_⟩
  have h := (show (Tryd.f5.params.toList.all fun t => !Tryd.prog.wantsStandIn t) = true by kernel_rfl)
  have h2 := List.all_eq_true.1 h t (by simpa using Array.mem_of_getElem? ht)
  have h3 : Tryd.prog.wantsStandIn t = false := by simpa using h2
  exact h3

/-- The card. -/
theorem card : Rows.PassTextsCardSaid :=
  Claim7.holds_tied_plain_at .later [] _ _ _ _ said (fun _ h => by cases h) (by kernel_rfl) (fun _ h => by cases h) passTexts_row_tie rfl ⟨rfl, rfl⟩ (by kernel_rfl) rfl plain (by kernel_rfl)
end Go.Proofs.YtdllppaichlnaaaDoor.lawPassTexts
namespace Go.Proofs.YtdllppaichlnaaaDoor
open Go.RowKit

theorem put_none (a : Act) (v : Value) : a.put none v = a := rfl
theorem alloc72 (w : World) : (Instr.alloc 35 true (.tuple #[])).run Tryd.prog w = .ok (.pointer (some ⟨w.heap.size, 0, none⟩)) (w.alloc (.cells (us (List.replicate 72 0)).toArray 35)) := by kernel_rfl
theorem wpList_alloc72 {ops : Array Oper} {rest : List Oper} {o : Oper} {a : Act} {Q : Exit → Act → World → Prop} {w : World} (hgd : Region.wanted o (yielded ops a.tmps) = true) (ho : o.op = .alloc 35)
    (hK : wpList Tryd.prog ops Q rest (a.put o.dst (.pointer (some ⟨w.heap.size, 0, none⟩))) (w.alloc (.cells (us (List.replicate 72 0)).toArray 35))) : wpList Tryd.prog ops Q (o :: rest) a w :=
  wpList_gvx (R := fun v w' => v = .pointer (some ⟨w.heap.size, 0, none⟩) ∧ w' = w.alloc (.cells (us (List.replicate 72 0)).toArray 35)) hgd (gives_alloc ho _ (alloc72 w) ⟨rfl, rfl⟩) (fun v w' ⟨hv, hw⟩ => by subst hv hw; exact hK)
set_option maxRecDepth 20000 in
set_option maxHeartbeats 1600000 in
theorem salts_big (p : ByteArray) (a b z : Int) (w : World) (hbig : 60 < p.size) (hp : p.size ≤ 140737488351232) (ht : Tab w) :
    Calls Tryd.prog 6 #[.string p, .int .u64 a, .int .u64 b, .int .u8 z] w (Ret w (Is (.bool true))) := by
  have KA := hide fun W (h : Ext w W) => awake_any W (ht.ext h)
  have hbi : (60 : Int) < (p.size : Int) := by omega
  clear ht
  go_enter Tryd.func6, Tryd.ntmps6
  go_wp2_with (first
    | (go_at_call 8; (with_reducible refine (KA.out _ X1.out).mono ?_); rintro e w2 ⟨v2, rfl, hw2, rfl⟩; have X2 := hide (X1.out.trans hw2))
    | (go_at_call 8; (with_reducible refine (KA.out _ (Ext.refl w)).mono ?_); rintro e w1 ⟨v1, rfl, hx1, rfl⟩; have X1 := hide hx1))
  go_ret
  exact Ret.mk X2.out rfl
set_option maxRecDepth 20000 in
set_option maxHeartbeats 1600000 in
theorem salts_same (p : ByteArray) (a z : Int) (w : World) (hbig : ¬ 60 < p.size) (ht : Tab w) :
    Calls Tryd.prog 6 #[.string p, .int .u64 a, .int .u64 a, .int .u8 z] w (Ret w (Is (.bool true))) := by
  have KA := hide fun W (h : Ext w W) => awake_any W (ht.ext h)
  have hbi : ¬ (60 : Int) < (p.size : Int) := by omega
  clear ht
  go_enter Tryd.func6, Tryd.ntmps6
  go_wp2_with (first
    | (go_at_call 8; (with_reducible refine (KA.out _ X1.out).mono ?_); rintro e w2 ⟨v2, rfl, hw2, rfl⟩; have X2 := hide (X1.out.trans hw2))
    | (go_at_call 8; (with_reducible refine (KA.out _ (Ext.refl w)).mono ?_); rintro e w1 ⟨v1, rfl, hx1, rfl⟩; have X1 := hide hx1))
  go_ret
  exact Ret.mk X2.out rfl
set_option maxRecDepth 20000 in
set_option maxHeartbeats 6400000 in
theorem salts_main (p : ByteArray) (a b z n : Int) (w : World) (hsm : p.size ≤ 60) (hne : ¬ a = b) (ha : 0 ≤ a ∧ a < 18446744073709551616) (hb : 0 ≤ b ∧ b < 18446744073709551616) (hz : 0 ≤ z ∧ z ≤ 255) (hn : 1 + z % 8 = n) (ht : Tab w) :
    Calls Tryd.prog 6 #[.string p, .int .u64 a, .int .u64 b, .int .u8 z] w (Ret w (Is (.bool true))) := by
  have KA := hide fun W (h : Ext w W) => awake_any W (ht.ext h)
  have hk : okR n = true := decide_eq_true (by omega)
  have hbi : ¬ (60 : Int) < (p.size : Int) := by omega
  have hpl : p.data.toList.length ≤ 1000000 := by rw [show p.data.toList.length = p.size by rw [Array.length_toList]; rfl]; omega
  have hne' : (a == b) = false := beq_eq_false_iff_ne.2 hne
  have HN := hide hn
  obtain ⟨o, HO⟩ : ∃ o, Hid (strU p.data.toList (be64 a) n = o) := ⟨_, hide rfl⟩
  have HOL : Hid (o.length = 32) := hide (by rw [← HO.out]; exact strU_len _ _ _)
  obtain ⟨o2, HO2⟩ : ∃ o, Hid (strU p.data.toList (be64 b) n = o) := ⟨_, hide rfl⟩
  have HOL2 : Hid (o2.length = 32) := hide (by rw [← HO2.out]; exact strU_len _ _ _)
  obtain ⟨tb, htb⟩ : ∃ tb, Hid (tb = startW ++ roundW) := ⟨_, hide rfl⟩
  have HTL : Hid (tb.length = 72) := hide (by rw [htb.out]; rfl)
  have KR := hide fun W (A B : Option Addr) (c d : Nat) (hA : Rd W A p.data.toList) (hB : Rd W B (be64 a)) => (show Calls Tryd.prog 10 #[.agg (us tb).toArray, .slice A p.data.toList.length c, .slice B (be64 a).length d, .int .i64 n] W (Ret W (Is (.agg (bs o).toArray))) from (by
    have h3 := rstretch_u tb htb A B c d p.data.toList (be64 a) n W hA hB hpl (by show 8 ≤ 1000000; decide) hk
    rw [HO.out] at h3
    exact h3))
  have KM := hide fun W (h : Ext w W) => (show Calls Tryd.prog 9 #[.string p, .int .u64 a, .int .i64 n] W (Ret W (Is (.tuple #[.agg (sec a n o).toArray, .int .i64 0]))) from (by
    have h3 := make_any p a n W ha (by omega) (ht.ext h)
    rw [mkV_ok hk, errR_ok hk, HO.out] at h3
    exact h3))
  have KU := hide fun W => ruint_any a W ha.1 ha.2
  have KR2 := hide fun W (A B : Option Addr) (c d : Nat) (hA : Rd W A p.data.toList) (hB : Rd W B (be64 b)) => (show Calls Tryd.prog 10 #[.agg (us tb).toArray, .slice A p.data.toList.length c, .slice B (be64 b).length d, .int .i64 n] W (Ret W (Is (.agg (bs o2).toArray))) from (by
    have h3 := rstretch_u tb htb A B c d p.data.toList (be64 b) n W hA hB hpl (by show 8 ≤ 1000000; decide) hk
    rw [HO2.out] at h3
    exact h3))
  have KM2 := hide fun W (h : Ext w W) => (show Calls Tryd.prog 9 #[.string p, .int .u64 b, .int .i64 n] W (Ret W (Is (.tuple #[.agg (sec b n o2).toArray, .int .i64 0]))) from (by
    have h3 := make_any p b n W hb (by omega) (ht.ext h)
    rw [mkV_ok hk, errR_ok hk, HO2.out] at h3
    exact h3))
  have KU2 := hide fun W => ruint_any b W hb.1 hb.2
  have KT := hide fun W => (show Calls Tryd.prog 11 #[] W (Ret W (Is (.agg (us tb).toArray))) from (by
    rw [htb.out]
    exact rmake_any W))
  clear ht hk hpl hn hne HO HO2 htb
  go_enter Tryd.func6, Tryd.ntmps6
  go_upto_region 3 with (go_at_call 8; (with_reducible refine (KA.out _ (Ext.refl w)).mono ?_); rintro e w1 ⟨v1, rfl, hx1, rfl⟩; have X1 := hide hx1; clear hx1)
  go_upto_region 4 with fail
  rw [HN.out]
  go_upto_region 7 with (first
    | (go_at_call 9; (with_reducible refine (KM.out _ X1.out).mono ?_); rintro e w2 ⟨v2, rfl, hx2, rfl⟩; have X2 := hide (X1.out.trans hx2); clear hx2)
    | ((with_reducible show wpList _ _ _ (⟨none, .store _ (.tmp 10) _, _, _, _, _⟩ :: _) _ _);
       refine wpList_store_sec rfl (.tmp 10) (.tmp 39) rfl w2.heap.size rfl a n o rfl 0 0 zer32 (heap_alloc_new w2 _) HOL.out rfl ?_;
       intro w3 hr3 hl3;
       have X3 := hide ((X2.out.trans (Ext.alloc _ _)).laid hl3 X2.out.size);
       have S3 := hide hr3; clear hr3 hl3)
    | (go_at_call 9; (with_reducible refine (KM2.out _ X3.out).mono ?_); rintro e w4 ⟨v4, rfl, hx4, rfl⟩; have X4 := hide (X3.out.trans hx4); have S4 := hide (S3.out.ext hx4); clear hx4)
    | ((with_reducible show wpList _ _ _ (⟨none, .store _ (.tmp 12) _, _, _, _, _⟩ :: _) _ _);
       refine wpList_store_sec rfl (.tmp 12) (.tmp 46) rfl w4.heap.size rfl b n o2 rfl 0 0 zer32 (heap_alloc_new w4 _) HOL2.out rfl ?_;
       intro w5 hr5 hl5;
       have X5 := hide ((X4.out.trans (Ext.alloc _ _)).laid hl5 X4.out.size);
       have T5 := hide hr5;
       have S5 := hide ((S4.out.alloc _).other hl5 (Nat.ne_of_lt S4.out.lt)); clear hr5 hl5)
    | (go_at_call 11; (with_reducible refine (KT.out _).mono ?_); rintro e w6 ⟨v6, rfl, hx6, rfl⟩; have X6 := hide (X5.out.trans hx6); have S6 := hide (S5.out.ext hx6); have T6 := hide (T5.out.ext hx6); clear hx6)
    | (refine wpList_alloc72 rfl rfl ?_)
    | ((with_reducible show wpList _ _ _ (⟨none, .store _ (.tmp 14) _, _, _, _, _⟩ :: _) _ _);
       refine wpList_store_rw rfl 35 (.tmp 14) (.tmp 48) rfl w6.heap.size rfl (us tb) rfl 35 (us (List.replicate 72 0)) (heap_alloc_new w6 _) 72 (by kernel_rfl) (by rw [us_length, HTL.out]) (by rw [us_length, us_length, HTL.out]; rfl) (us_one _) ?_;
       intro w7 hr7 hl7;
       have X7 := hide ((X6.out.trans (Ext.alloc _ _)).laid hl7 X6.out.size);
       have U7 := hide hr7;
       have S7 := hide ((S6.out.alloc _).other hl7 (Nat.ne_of_lt S6.out.lt));
       have T7 := hide ((T6.out.alloc _).other hl7 (Nat.ne_of_lt T6.out.lt)); clear hr7 hl7))
  obtain ⟨g10, hg10⟩ : ∃ g, g = w2.heap.size := ⟨_, rfl⟩
  obtain ⟨g12, hg12⟩ : ∃ g, g = w4.heap.size := ⟨_, rfl⟩
  obtain ⟨g14, hg14⟩ : ∃ g, g = w6.heap.size := ⟨_, rfl⟩
  rw [← hg10] at S7 ⊢
  rw [← hg12] at T7 ⊢
  rw [← hg14] at U7 ⊢
  clear hg10 hg12 hg14 S3 S4 S5 S6 T5 T6 X1 X2 X3 X4 X5 X6
  rename_i hK
  dsimp only [Act.put, List.setIfInBounds_toArray, List.set_cons_succ, List.set_cons_zero]
  refine Whole.wp_region_last (Nat.le_refl _) [
      Whole.Sp.is (.agg (us tb).toArray),
      Whole.Sp.is (.string p),
      Whole.Sp.bytes p.data.toList,
      Whole.Sp.is (.int .u64 a),
      Whole.Sp.bytes (be64 a),
      Whole.Sp.is (.int .i64 n),
      Whole.Sp.is (.agg (bs o).toArray),
      Whole.Sp.fresh w7.heap.size 24 (bs (List.replicate 32 0))] 8 _ rfl (by kernel_rfl) (by kernel_rfl) (by kernel_rfl) ?_ ?_
  · refine ⟨.inr ?_, .inr ?_, .inr ?_, .inr ?_, .inr ?_, .inr ?_, .inr ?_, .inr ?_, .inl rfl, trivial⟩
    · intro az wz hx hB hk H
      refine .inl ⟨wanted_none rfl, ?_⟩
      exact gives_load_st 35 (.tmp 14) rfl g14 (by rw [(ev (show az.tmps[14]? = some (.pointer (some ⟨g14, 0, none⟩)) from hk 14 rfl))]) 35 _ (Rw.below U7.out hx.below (Rw.lt U7.out)) _ Tryd.underlying35 rfl (by rw [us_length, HTL.out]; kernel_rfl) ⟨Whole.Grw.refl _ _, rfl⟩
    · intro az wz hx hB hk H
      refine .inl ⟨wanted_none rfl, ?_⟩
      refine gives_move rfl ?_
      rw [(ev (show az.tmps[0]? = some (.string p) from hk 0 rfl))]
      exact ⟨Whole.Grw.refl _ _, rfl⟩
    · intro az wz hx hB hk H
      obtain ⟨v50, h50, s50⟩ := H 1 rfl _ rfl 50 rfl
      refine .inl ⟨wanted_none rfl, ?_⟩
      exact gives_conv_str p rfl (by rw [ev h50]; exact s50) (fun v w' h1 h2 => ⟨Whole.Grw.of_ext h2 hB, h1⟩)
    · intro az wz hx hB hk H
      refine .inl ⟨wanted_none rfl, ?_⟩
      refine gives_move rfl ?_
      rw [(ev (show az.tmps[1]? = some (.int .u64 a) from hk 1 rfl))]
      exact ⟨Whole.Grw.refl _ _, rfl⟩
    · intro az wz hx hB hk H
      obtain ⟨v52, h52, s52⟩ := H 3 rfl _ rfl 52 rfl
      refine .inl ⟨wanted_none rfl, ?_⟩
      refine gives_call rfl Tryd.call12 (by simp only [List.map_toArray, List.map_cons, List.map_nil, ev h52]; rw [s52]) ?_
      exact (KU.out wz).mono fun _ _ h => Whole.ret_grw h hB
    · intro az wz hx hB hk H
      refine .inl ⟨wanted_none rfl, ?_⟩
      refine gives_move rfl ?_
      rw [(ev (show az.tmps[9]? = some (.int .i64 n) from hk 9 rfl))]
      exact ⟨Whole.Grw.refl _ _, rfl⟩
    · intro az wz hx hB hk H
      obtain ⟨v49, h49, s49⟩ := H 0 rfl _ rfl 49 rfl
      obtain ⟨v51, h51, s51⟩ := H 2 rfl _ rfl 51 rfl
      obtain ⟨v53, h53, s53⟩ := H 4 rfl _ rfl 53 rfl
      obtain ⟨v54, h54, s54⟩ := H 5 rfl _ rfl 54 rfl
      refine .inl ⟨wanted_none rfl, ?_⟩
      obtain ⟨A6, c6, rfl, hc6, hr6⟩ := s51
      obtain ⟨A8, c8, rfl, hc8, hr8⟩ := s53
      refine gives_call rfl Tryd.call10 (by simp only [List.map_toArray, List.map_cons, List.map_nil, ev h49, ev h51, ev h53, ev h54]; rw [s49, s54]) ?_
      exact (KR.out wz A6 A8 c6 c8 hr6 hr8).mono fun _ _ h => Whole.ret_grw h hB
    · intro az wz hx hB hk H
      refine .inl ⟨wanted_none rfl, ?_⟩
      exact gives_alloc rfl _ (alloc32 wz) ⟨Whole.Grw.alloc hB _, wz.heap.size, rfl, hB, heap_alloc_new wz _⟩
  · intro az wz hx hd hs hv hsame
    obtain ⟨v49, h49, s49⟩ := hv 0 _ 49 (by decide) rfl rfl
    obtain rfl : v49 = (.agg (us tb).toArray) := s49
    obtain ⟨v50, h50, s50⟩ := hv 1 _ 50 (by decide) rfl rfl
    obtain rfl : v50 = (.string p) := s50
    obtain ⟨v51, h51, s51⟩ := hv 2 _ 51 (by decide) rfl rfl
    obtain ⟨v52, h52, s52⟩ := hv 3 _ 52 (by decide) rfl rfl
    obtain rfl : v52 = (.int .u64 a) := s52
    obtain ⟨v53, h53, s53⟩ := hv 4 _ 53 (by decide) rfl rfl
    obtain ⟨v54, h54, s54⟩ := hv 5 _ 54 (by decide) rfl rfl
    obtain rfl : v54 = (.int .i64 n) := s54
    obtain ⟨v55, h55, s55⟩ := hv 6 _ 55 (by decide) rfl rfl
    obtain rfl : v55 = (.agg (bs o).toArray) := s55
    obtain ⟨v15, h15, g15, rfl, hg15, hr15⟩ := hv 7 _ 15 (by decide) rfl rfl
    have hfr := frame_last [(49, (.agg (us tb).toArray)), (50, (.string p)), (51, v51), (52, (.int .u64 a)), (53, v53), (54, (.int .i64 n)), (55, (.agg (bs o).toArray)), (15, .pointer (some ⟨g15, 0, none⟩))] hs (by kernel_rfl) (by simp only [List.forall_mem_cons, List.not_mem_nil, false_implies, implies_true, and_true]; exact ⟨h49, h50, h51, h52, h53, h54, h55, h15⟩) hsame
    simp only [List.foldl_cons, List.foldl_nil, List.setIfInBounds_toArray, List.set_cons_succ, List.set_cons_zero] at hfr
    obtain ⟨tm, df⟩ := az
    simp only [] at hfr hd
    subst hfr hd
    clear hv hsame hs h49 h50 h51 h52 h53 h54 h55 h15
    refine ⟨wanted_none rfl, ?_⟩
    refine gives_store_rw 24 (.tmp 15) (.tmp 55) rfl g15 rfl (bs o) rfl 24 (bs (List.replicate 32 0)) hr15 32 (by kernel_rfl) (by rw [bs_length, HOL.out]) (by rw [bs_length, bs_length, HOL.out]; rfl) (List.all_eq_true.2 (bs_one _)) ?_
    intro w8 hr8 hl8
    have X8 := hide (Ext.laid (Below.trans X7.out (Below.mono hx.below X7.out.size)) hl8 (Nat.le_trans X7.out.size hg15))
    have V8 := hide hr8
    have S8 := hide (Rw.other (Rw.below S7.out hx.below (Rw.lt S7.out)) hl8 (by have := Rw.lt S7.out; omega))
    have T8 := hide (Rw.other (Rw.below T7.out hx.below (Rw.lt T7.out)) hl8 (by have := Rw.lt T7.out; omega))
    have U8 := hide (Rw.other (Rw.below U7.out hx.below (Rw.lt U7.out)) hl8 (by have := Rw.lt U7.out; omega))
    clear hx hl8 hr15 hg15 hr8 S7 T7 U7 X7
    refine hK (Act.put _ none undef) _ ?_
    rw [put_none]
    clear hK
    go_upto_region 8 with fail
    rename_i hK
    refine Whole.wp_region_last (Nat.le_refl _) [
        Whole.Sp.is (.agg (us tb).toArray),
        Whole.Sp.is (.string p),
        Whole.Sp.bytes p.data.toList,
        Whole.Sp.is (.int .u64 b),
        Whole.Sp.bytes (be64 b),
        Whole.Sp.is (.int .i64 n),
        Whole.Sp.is (.agg (bs o2).toArray),
        Whole.Sp.fresh w8.heap.size 24 (bs (List.replicate 32 0))] 8 _ rfl (by kernel_rfl) (by kernel_rfl) (by kernel_rfl) ?_ ?_
    · refine ⟨.inr ?_, .inr ?_, .inr ?_, .inr ?_, .inr ?_, .inr ?_, .inr ?_, .inr ?_, .inl rfl, trivial⟩
      · intro az wz hx hB hk H
        refine .inl ⟨wanted_none rfl, ?_⟩
        exact gives_load_st 35 (.tmp 14) rfl g14 (by rw [(ev (show az.tmps[14]? = some (.pointer (some ⟨g14, 0, none⟩)) from hk 14 rfl))]) 35 _ (Rw.below U8.out hx.below (Rw.lt U8.out)) _ Tryd.underlying35 rfl (by rw [us_length, HTL.out]; kernel_rfl) ⟨Whole.Grw.refl _ _, rfl⟩
      · intro az wz hx hB hk H
        refine .inl ⟨wanted_none rfl, ?_⟩
        refine gives_move rfl ?_
        rw [(ev (show az.tmps[0]? = some (.string p) from hk 0 rfl))]
        exact ⟨Whole.Grw.refl _ _, rfl⟩
      · intro az wz hx hB hk H
        obtain ⟨v57, h57, s57⟩ := H 1 rfl _ rfl 57 rfl
        refine .inl ⟨wanted_none rfl, ?_⟩
        exact gives_conv_str p rfl (by rw [ev h57]; exact s57) (fun v w' h1 h2 => ⟨Whole.Grw.of_ext h2 hB, h1⟩)
      · intro az wz hx hB hk H
        refine .inl ⟨wanted_none rfl, ?_⟩
        refine gives_move rfl ?_
        rw [(ev (show az.tmps[2]? = some (.int .u64 b) from hk 2 rfl))]
        exact ⟨Whole.Grw.refl _ _, rfl⟩
      · intro az wz hx hB hk H
        obtain ⟨v59, h59, s59⟩ := H 3 rfl _ rfl 59 rfl
        refine .inl ⟨wanted_none rfl, ?_⟩
        refine gives_call rfl Tryd.call12 (by simp only [List.map_toArray, List.map_cons, List.map_nil, ev h59]; rw [s59]) ?_
        exact (KU2.out wz).mono fun _ _ h => Whole.ret_grw h hB
      · intro az wz hx hB hk H
        refine .inl ⟨wanted_none rfl, ?_⟩
        refine gives_move rfl ?_
        rw [(ev (show az.tmps[9]? = some (.int .i64 n) from hk 9 rfl))]
        exact ⟨Whole.Grw.refl _ _, rfl⟩
      · intro az wz hx hB hk H
        obtain ⟨v56, h56, s56⟩ := H 0 rfl _ rfl 56 rfl
        obtain ⟨v58, h58, s58⟩ := H 2 rfl _ rfl 58 rfl
        obtain ⟨v60, h60, s60⟩ := H 4 rfl _ rfl 60 rfl
        obtain ⟨v61, h61, s61⟩ := H 5 rfl _ rfl 61 rfl
        refine .inl ⟨wanted_none rfl, ?_⟩
        obtain ⟨A6, c6, rfl, hc6, hr6⟩ := s58
        obtain ⟨A8, c8, rfl, hc8, hr8⟩ := s60
        refine gives_call rfl Tryd.call10 (by simp only [List.map_toArray, List.map_cons, List.map_nil, ev h56, ev h58, ev h60, ev h61]; rw [s56, s61]) ?_
        exact (KR2.out wz A6 A8 c6 c8 hr6 hr8).mono fun _ _ h => Whole.ret_grw h hB
      · intro az wz hx hB hk H
        refine .inl ⟨wanted_none rfl, ?_⟩
        exact gives_alloc rfl _ (alloc32 wz) ⟨Whole.Grw.alloc hB _, wz.heap.size, rfl, hB, heap_alloc_new wz _⟩
    · intro az wz hx hd hs hv hsame
      obtain ⟨v56, h56, s56⟩ := hv 0 _ 56 (by decide) rfl rfl
      obtain rfl : v56 = (.agg (us tb).toArray) := s56
      obtain ⟨v57, h57, s57⟩ := hv 1 _ 57 (by decide) rfl rfl
      obtain rfl : v57 = (.string p) := s57
      obtain ⟨v58, h58, s58⟩ := hv 2 _ 58 (by decide) rfl rfl
      obtain ⟨v59, h59, s59⟩ := hv 3 _ 59 (by decide) rfl rfl
      obtain rfl : v59 = (.int .u64 b) := s59
      obtain ⟨v60, h60, s60⟩ := hv 4 _ 60 (by decide) rfl rfl
      obtain ⟨v61, h61, s61⟩ := hv 5 _ 61 (by decide) rfl rfl
      obtain rfl : v61 = (.int .i64 n) := s61
      obtain ⟨v62, h62, s62⟩ := hv 6 _ 62 (by decide) rfl rfl
      obtain rfl : v62 = (.agg (bs o2).toArray) := s62
      obtain ⟨v16, h16, g16, rfl, hg16, hr16⟩ := hv 7 _ 16 (by decide) rfl rfl
      have hfr := frame_last [(56, (.agg (us tb).toArray)), (57, (.string p)), (58, v58), (59, (.int .u64 b)), (60, v60), (61, (.int .i64 n)), (62, (.agg (bs o2).toArray)), (16, .pointer (some ⟨g16, 0, none⟩))] hs (by kernel_rfl) (by simp only [List.forall_mem_cons, List.not_mem_nil, false_implies, implies_true, and_true]; exact ⟨h56, h57, h58, h59, h60, h61, h62, h16⟩) hsame
      simp only [List.foldl_cons, List.foldl_nil, List.setIfInBounds_toArray, List.set_cons_succ, List.set_cons_zero] at hfr
      obtain ⟨tm, df⟩ := az
      simp only [] at hfr hd
      subst hfr hd
      clear hv hsame hs h56 h57 h58 h59 h60 h61 h62 h16
      refine ⟨wanted_none rfl, ?_⟩
      refine gives_store_rw 24 (.tmp 16) (.tmp 62) rfl g16 rfl (bs o2) rfl 24 (bs (List.replicate 32 0)) hr16 32 (by kernel_rfl) (by rw [bs_length, HOL2.out]) (by rw [bs_length, bs_length, HOL2.out]; rfl) (List.all_eq_true.2 (bs_one _)) ?_
      intro w9 hr9 hl9
      have X9 := hide (Ext.laid (Below.trans X8.out (Below.mono hx.below X8.out.size)) hl9 (Nat.le_trans X8.out.size hg16))
      have Y9 := hide hr9
      have S9 := hide (Rw.other (Rw.below S8.out hx.below (Rw.lt S8.out)) hl9 (by have := Rw.lt S8.out; omega))
      have T9 := hide (Rw.other (Rw.below T8.out hx.below (Rw.lt T8.out)) hl9 (by have := Rw.lt T8.out; omega))
      have V9 := hide (Rw.other (Rw.below V8.out hx.below (Rw.lt V8.out)) hl9 (by have := Rw.lt V8.out; omega))
      clear hx hl9 hr16 hg16 hr9 S8 T8 U8 V8 X8
      refine hK (Act.put _ none undef) _ ?_
      rw [put_none]
      clear hK
      obtain ⟨q, HQ⟩ : ∃ q, Hid ((o == o2) = q) := ⟨_, hide rfl⟩
      go_upto_region 9 with fail
      rename_i hK
      refine wp_region_sp (Nat.le_refl _) [
          Sp.is (.int .i64 0),
          Sp.is (.bool true),
          Sp.is (.bool true),
          Sp.is (.int .i64 0),
          Sp.is (.bool true),
          Sp.is (.bool true),
          Sp.is (.bool true),
          Sp.is (.pointer (some ⟨g10, 2, none⟩)),
          Sp.is (.agg (bs o).toArray),
          Sp.is (.pointer (some ⟨g12, 2, none⟩)),
          Sp.is (.agg (bs o2).toArray),
          Sp.is (.bool q),
          Sp.is (.agg (bs o).toArray),
          Sp.is (.agg (bs o2).toArray),
          Sp.is (.bool q),
          Sp.is (.bool true),
          Sp.is (.bool true),
          Sp.is (.bool true)] (by kernel_rfl) (by kernel_rfl) ?_ ?_
      · refine ⟨?_, ?_, ?_, ?_, ?_, ?_, ?_, ?_, ?_, ?_, ?_, ?_, ?_, ?_, ?_, ?_, ?_, ?_, trivial⟩
        · intro az wz hx hB hk H
          refine .inl ⟨wanted_none rfl, ?_⟩
          refine gives_move rfl ?_
          rw [(ev (show az.tmps[11]? = some (.int .i64 0) from hk 11 rfl))]
          exact ⟨Grw.refl _ _, rfl⟩
        · intro az wz hx hB hk H
          obtain ⟨v63, h63, s63⟩ := H 0 rfl _ rfl 63 rfl
          refine .inl ⟨wanted_none rfl, ?_⟩
          refine gives_eql_int (k := .i64) (0) (0) rfl ?_ ?_ ⟨Grw.refl _ _, congrArg Value.bool (by simp)⟩
          · rw [(ev h63)]
            exact s63
          · rfl
        · intro az wz hx hB hk H
          obtain ⟨v64, h64, s64⟩ := H 1 rfl _ rfl 64 rfl
          refine .inl ⟨wanted_none rfl, ?_⟩
          refine gives_move rfl ?_
          rw [(ev h64)]
          exact ⟨Grw.refl _ _, s64⟩
        · intro az wz hx hB hk H
          obtain ⟨v65, h65, s65⟩ := H 2 rfl _ rfl 65 rfl
          have g0 : az.tmps[65]? = some (.bool true) := by rw [h65]; exact congrArg some s65
          refine .inl ⟨wanted_yes _ rfl rfl rfl g0, ?_⟩
          refine gives_move rfl ?_
          rw [(ev (show az.tmps[13]? = some (.int .i64 0) from hk 13 rfl))]
          exact ⟨Grw.refl _ _, rfl⟩
        · intro az wz hx hB hk H
          obtain ⟨v65, h65, s65⟩ := H 2 rfl _ rfl 65 rfl
          obtain ⟨v66, h66, s66⟩ := H 3 rfl _ rfl 66 rfl
          have g0 : az.tmps[65]? = some (.bool true) := by rw [h65]; exact congrArg some s65
          refine .inl ⟨wanted_yes _ rfl rfl rfl g0, ?_⟩
          refine gives_eql_int (k := .i64) (0) (0) rfl ?_ ?_ ⟨Grw.refl _ _, congrArg Value.bool (by simp)⟩
          · rw [(ev h66)]
            exact s66
          · rfl
        · intro az wz hx hB hk H
          obtain ⟨v65, h65, s65⟩ := H 2 rfl _ rfl 65 rfl
          obtain ⟨v67, h67, s67⟩ := H 4 rfl _ rfl 67 rfl
          refine .inl ⟨wanted_none rfl, ?_⟩
          refine gives_pick true rfl ?_ ?_
          · rw [(ev h65)]
            exact s65
          · show Grw _ _ _ ∧ _
            rw [if_pos rfl, (ev h67)]
            exact ⟨Grw.refl _ _, s67⟩
        · intro az wz hx hB hk H
          obtain ⟨v68, h68, s68⟩ := H 5 rfl _ rfl 68 rfl
          refine .inl ⟨wanted_none rfl, ?_⟩
          refine gives_move rfl ?_
          rw [(ev h68)]
          exact ⟨Grw.refl _ _, s68⟩
        · intro az wz hx hB hk H
          obtain ⟨v69, h69, s69⟩ := H 6 rfl _ rfl 69 rfl
          have g0 : az.tmps[69]? = some (.bool true) := by rw [h69]; exact congrArg some s69
          refine .inl ⟨wanted_yes _ rfl rfl rfl g0, ?_⟩
          exact gives_field rfl (by rw [(ev (show az.tmps[10]? = some (.pointer (some ⟨g10, 0, none⟩)) from hk 10 rfl))]) (run_fd _ _) ⟨Grw.refl _ _, rfl⟩
        · intro az wz hx hB hk H
          obtain ⟨v69, h69, s69⟩ := H 6 rfl _ rfl 69 rfl
          obtain ⟨v70, h70, s70⟩ := H 7 rfl _ rfl 70 rfl
          have g0 : az.tmps[69]? = some (.bool true) := by rw [h69]; exact congrArg some s69
          refine .inl ⟨wanted_yes _ rfl rfl rfl g0, ?_⟩
          exact gives_load_dig g10 o rfl (by rw [ev h70]; exact s70) (sec_cells (S9.out.ext hx.below)) HOL.out ⟨Grw.refl _ _, rfl⟩
        · intro az wz hx hB hk H
          obtain ⟨v69, h69, s69⟩ := H 6 rfl _ rfl 69 rfl
          have g0 : az.tmps[69]? = some (.bool true) := by rw [h69]; exact congrArg some s69
          refine .inl ⟨wanted_yes _ rfl rfl rfl g0, ?_⟩
          exact gives_field rfl (by rw [(ev (show az.tmps[12]? = some (.pointer (some ⟨g12, 0, none⟩)) from hk 12 rfl))]) (run_fd _ _) ⟨Grw.refl _ _, rfl⟩
        · intro az wz hx hB hk H
          obtain ⟨v69, h69, s69⟩ := H 6 rfl _ rfl 69 rfl
          obtain ⟨v72, h72, s72⟩ := H 9 rfl _ rfl 72 rfl
          have g0 : az.tmps[69]? = some (.bool true) := by rw [h69]; exact congrArg some s69
          refine .inl ⟨wanted_yes _ rfl rfl rfl g0, ?_⟩
          exact gives_load_dig g12 o2 rfl (by rw [ev h72]; exact s72) (sec_cells (T9.out.ext hx.below)) HOL2.out ⟨Grw.refl _ _, rfl⟩
        · intro az wz hx hB hk H
          obtain ⟨v69, h69, s69⟩ := H 6 rfl _ rfl 69 rfl
          obtain ⟨v71, h71, s71⟩ := H 8 rfl _ rfl 71 rfl
          obtain ⟨v73, h73, s73⟩ := H 10 rfl _ rfl 73 rfl
          have g0 : az.tmps[69]? = some (.bool true) := by rw [h69]; exact congrArg some s69
          refine .inl ⟨wanted_yes _ rfl rfl rfl g0, ?_⟩
          exact gives_eql_dig o o2 rfl HOL.out HOL2.out (by rw [ev h71]; exact s71) (by rw [ev h73]; exact s73) ⟨Grw.refl _ _, congrArg Value.bool HQ.out⟩
        · intro az wz hx hB hk H
          obtain ⟨v69, h69, s69⟩ := H 6 rfl _ rfl 69 rfl
          have g0 : az.tmps[69]? = some (.bool true) := by rw [h69]; exact congrArg some s69
          refine .inl ⟨wanted_yes _ rfl rfl rfl g0, ?_⟩
          exact gives_load_rw 24 (.tmp 15) rfl g15 (by rw [(ev (show az.tmps[15]? = some (.pointer (some ⟨g15, 0, none⟩)) from hk 15 rfl))]) 24 (bs o) (Rw.below V9.out hx.below (Rw.lt V9.out)) 32 5 Tryd.underlying24 (by kernel_rfl) (by rw [bs_length, HOL.out]) ⟨Grw.refl _ _, rfl⟩
        · intro az wz hx hB hk H
          obtain ⟨v69, h69, s69⟩ := H 6 rfl _ rfl 69 rfl
          have g0 : az.tmps[69]? = some (.bool true) := by rw [h69]; exact congrArg some s69
          refine .inl ⟨wanted_yes _ rfl rfl rfl g0, ?_⟩
          exact gives_load_rw 24 (.tmp 16) rfl g16 (by rw [(ev (show az.tmps[16]? = some (.pointer (some ⟨g16, 0, none⟩)) from hk 16 rfl))]) 24 (bs o2) (Rw.below Y9.out hx.below (Rw.lt Y9.out)) 32 5 Tryd.underlying24 (by kernel_rfl) (by rw [bs_length, HOL2.out]) ⟨Grw.refl _ _, rfl⟩
        · intro az wz hx hB hk H
          obtain ⟨v69, h69, s69⟩ := H 6 rfl _ rfl 69 rfl
          obtain ⟨v75, h75, s75⟩ := H 12 rfl _ rfl 75 rfl
          obtain ⟨v76, h76, s76⟩ := H 13 rfl _ rfl 76 rfl
          have g0 : az.tmps[69]? = some (.bool true) := by rw [h69]; exact congrArg some s69
          refine .inl ⟨wanted_yes _ rfl rfl rfl g0, ?_⟩
          exact gives_eql_dig o o2 rfl HOL.out HOL2.out (by rw [ev h75]; exact s75) (by rw [ev h76]; exact s76) ⟨Grw.refl _ _, congrArg Value.bool HQ.out⟩
        · intro az wz hx hB hk H
          obtain ⟨v69, h69, s69⟩ := H 6 rfl _ rfl 69 rfl
          obtain ⟨v74, h74, s74⟩ := H 11 rfl _ rfl 74 rfl
          obtain ⟨v77, h77, s77⟩ := H 14 rfl _ rfl 77 rfl
          have g0 : az.tmps[69]? = some (.bool true) := by rw [h69]; exact congrArg some s69
          refine .inl ⟨wanted_yes _ rfl rfl rfl g0, ?_⟩
          exact gives_eql_bool q q Tryd.underlying4 rfl (by rw [ev h74]; exact s74) (by rw [ev h77]; exact s77) ⟨Grw.refl _ _, congrArg Value.bool (beq_self_eq_true q)⟩
        · intro az wz hx hB hk H
          obtain ⟨v69, h69, s69⟩ := H 6 rfl _ rfl 69 rfl
          obtain ⟨v78, h78, s78⟩ := H 15 rfl _ rfl 78 rfl
          refine .inl ⟨wanted_none rfl, ?_⟩
          refine gives_pick true rfl ?_ ?_
          · rw [(ev h69)]
            exact s69
          · show Grw _ _ _ ∧ _
            rw [if_pos rfl, (ev h78)]
            exact ⟨Grw.refl _ _, s78⟩
        · intro az wz hx hB hk H
          obtain ⟨v79, h79, s79⟩ := H 16 rfl _ rfl 79 rfl
          refine .inl ⟨wanted_none rfl, ?_⟩
          refine gives_assign rfl ?_
          rw [(ev h79)]
          exact ⟨Grw.refl _ _, s79⟩
      · intro az wz hx hd hs hv hsame
        obtain ⟨v8x, h8x, s8x⟩ := hv 17 _ 8 rfl rfl
        obtain rfl : v8x = .bool true := s8x
        refine hK _ _ ?_
        refine wp_ret ?_
        refine bodyPost_ret (results_tmp rfl _ _ _) hd ?_
        refine ⟨_, rfl, X9.out.trans hx.below, ?_⟩
        simp [Is, h8x]
theorem passSalts_walk (p : ByteArray) (a b z : Int) (w : World) (hp : p.size ≤ 140737488351232) (ha : 0 ≤ a ∧ a < 18446744073709551616) (hb : 0 ≤ b ∧ b < 18446744073709551616) (hz : 0 ≤ z ∧ z ≤ 255) (ht : Tab w) :
    Calls Tryd.prog 6 #[.string p, .int .u64 a, .int .u64 b, .int .u8 z] w (Ret w (Is (.bool true))) := by
  by_cases hbig : 60 < p.size
  · exact salts_big p a b z w hbig hp ht
  · by_cases he : a = b
    · subst he
      exact salts_same p a z w hbig ht
    · exact salts_main p a b z _ w (by omega) he ha hb hz rfl ht
end Go.Proofs.YtdllppaichlnaaaDoor
namespace Go.Proofs.YtdllppaichlnaaaDoor.lawPassSalts
open Go.ChangeShapes Go.WideShapes Go.ChangeAt Go.RowKit
open Go.ChangeMaps (open_string)

set_option maxRecDepth 100000 in
theorem contract (H : Type) (enc : TypeId × Value → H) (W : World) (base : Nat) (args : Array Value) (ds gs : List (DataW H)) (before : List MemPlace)
    (hval : ∀ (j : Nat) t v, Tryd.f6.params[j]? = some t → args[j]? = some v → Value.okWide Tryd.prog W .any base t v)
    (hW : DataW.Whole enc Tryd.prog Tryd.f6.params.toList Rows.passSaltsSpec.vars false W args.toList ds gs before) (hz : (DataW.weightsEach Tryd.prog (Tryd.f6.params.toList ++ (OpenSpec.ofChange Rows.passSaltsSpec).bare.plain.varTypes Tryd.prog) (ds ++ gs)).all (· ≤ reachBytes) = true) (hL : laidMetH Tryd.prog Rows.passSaltsRow.laid W) :
    Calls Tryd.prog 6 args W fun e W' => ∃ v, e = .returned v ∧ Rows.passSaltsSpec.post enc Tryd.prog Tryd.f6 false true false false W args v W' := by
  have hW' := hW
  obtain ⟨p, q, hA0, hV, hbe, hfz, hnd⟩ := hW
  have hA : DataW.TrodAll enc Tryd.prog W 0 (fun _ => true) true Tryd.f6.params.toList args.toList ds p := hA0
  obtain ⟨rfl, rfl⟩ := trodVars_none hV
  rw [Tryd.params6] at hA hval
  obtain ⟨v0, vs0, d0, ds0, p0, q0, hg0, hd0, hp0, h0, r0⟩ := trodAll_cons hA
  obtain ⟨v1, vs1, d1, ds1, p1, q1, hg1, hd1, hp1, h1, r1⟩ := trodAll_cons r0
  obtain ⟨v2, vs2, d2, ds2, p2, q2, hg2, hd2, hp2, h2, r2⟩ := trodAll_cons r1
  obtain ⟨v3, vs3, d3, ds3, p3, q3, hg3, hd3, hp3, h3, r3⟩ := trodAll_cons r2
  obtain ⟨e1, e2, e3⟩ := trodAll_nil r3
  have hds : ds = [d0, d1, d2, d3] := by simp [hd0, hd1, hd2, hd3, e2]
  obtain rfl : args = #[v0, v1, v2, v3] := by
    have : args.toList = [v0, v1, v2, v3] := by simp [hg0, hg1, hg2, hg3, e1]
    exact Array.toList_inj.1 this
  subst hds
  obtain ⟨s0, rfl, hd0, -, hm0⟩ := open_string Tryd.underlying9 (hval 0 9 v0 rfl rfl) h0
  have hb0 : s0.data.toList.length ≤ 140737488351232 := sized_string hz (j := 0) rfl (by rw [hd0]; rfl)
  obtain ⟨n1, rfl, hd1, -, wf1⟩ := open_int Tryd.underlying22 (hval 1 22 v1 rfl rfl) h1
  have hb1 := bounds_u64 wf1
  obtain ⟨n2, rfl, hd2, -, wf2⟩ := open_int Tryd.underlying22 (hval 2 22 v2 rfl rfl) h2
  have hb2 := bounds_u64 wf2
  obtain ⟨n3, rfl, hd3, -, wf3⟩ := open_int Tryd.underlying5 (hval 3 5 v3 rfl rfl) h3
  have hb3 := bounds_u8 wf3
  have ht := tab_of_laid hL
  refine (passSalts_walk s0 n1 n2 n3 W hb0 ⟨hb1.1, by omega⟩ ⟨hb2.1, by omega⟩ ⟨hb3.1, by omega⟩ ht).mono fun e W' ⟨v, he, hx, hv⟩ => ?_
  subst he
  have hv' : v = .bool true := hv
  subst hv'
  exact ⟨_, rfl, law_post laidOut hW' rfl (by rw [Tryd.params6]; exact readable_all _ (by kernel_rfl)) (by kernel_rfl) Tryd.underlying4 rfl hx⟩

theorem laid_met (os : Os) : laidMet Tryd.prog Rows.passSaltsRow.laid ((laidWorld os).forCall (fun _ _ => 0) ⟨#[], #[Value.string .empty, Value.int .u64 0, Value.int .u64 0, Value.int .u8 0], []⟩).memory :=
  laidWorld_met os _
theorem reads (os : Os) {H : Type} (enc : TypeId × Value → H) : ∃ places, DataW.whole enc Tryd.prog ((laidWorld os).forCall (fun _ _ => 0) ⟨#[], #[Value.string .empty, Value.int .u64 0, Value.int .u64 0, Value.int .u8 0], []⟩).memory Tryd.f6.params.toList Rows.passSaltsSpec.vars false (#[Value.string .empty, Value.int .u64 0, Value.int .u64 0, Value.int .u8 0]).toList 8 = some ([.lit (.string []), .lit (.int .u64 0), .lit (.int .u64 0), .lit (.int .u8 0)], [], places) :=
  ⟨[], by kernel_rfl⟩

set_option maxRecDepth 100000 in
theorem lifted (os : Os) (started : os.Started) (H : Type) (enc : TypeId × Value → H) (F : Stop.Interp) :
    ReturnsInHanded {} Tryd.checked os 6 .any ((OpenSpec.ofChange Rows.passSaltsSpec).preRow enc Tryd.prog Tryd.f6 Rows.passSaltsRow.domain false Rows.passSaltsRow.laid) (((OpenSpec.ofChange Rows.passSaltsSpec).at F).post enc Tryd.prog Tryd.f6 false true false false) := by
  obtain ⟨places, hx⟩ := reads os enc
  refine returnsInHanded_of_row (C := Tryd.checked) (s := (OpenSpec.ofChange Rows.passSaltsSpec)) own started (by kernel_rfl) Tryd.func6
    (witness_row_at (enc := enc) (C := Tryd.checked) false (laidWorld os) #[Value.string .empty, Value.int .u64 0, Value.int .u64 0, Value.int .u8 0] (laidWorld_os os) (by kernel_rfl) (by kernel_rfl) (by kernel_rfl)
      (OpenSpec.preRow_of_cond 8 hx (by kernel_rfl) (fun k hk => by cases hk) (by kernel_rfl) (laid_met os))) ?_
  intro W base args ds gs before hval hW _ hcond hz hL _ _
  exact contract H enc W base args ds gs before hval hW hz hL

theorem said : Rows.PassSaltsSaid :=
  OpenClaim.holds_of_cond 6 Tryd.f6 rfl rfl rfl rfl rfl rfl rfl ⟨rfl, rfl, rfl, rfl, rfl⟩ rfl rfl rfl rfl rfl (by kernel_rfl) Tryd.func6 (by kernel_rfl)
    (of_decide_eq_true (by kernel_rfl)) (by unfold Func.isWrapper; first | (rw [if_pos (by decide +kernel)]; kernel_rfl) | (rw [if_neg (by decide +kernel)]; exact ⟨rfl, rfl⟩))
    (fun os started H enc _ F => by rw [OpenClaim.pre_eq_preRow]; exact lifted os started H enc F)

theorem plain (f : FuncId) (fn : Func) (hf : Tryd.pinned.checked.prog.funcNamed "muniment/munimentlaw18.PassSalts" = some f) (hfn : Tryd.pinned.checked.prog.funcs[f]? = some fn) :
    Rows.passSaltsCard.stood.looks = Tryd.pinned.checked.prog.looks [] ∧ ∀ (j : Nat) t, fn.params[j]? = some t → Tryd.pinned.checked.prog.wantsStandIn t = false := by
  obtain rfl : f = 6 := Option.some.inj ((show Tryd.prog.funcNamed "muniment/munimentlaw18.PassSalts" = some 6 by kernel_rfl).symm.trans hf) |>.symm
  obtain rfl : fn = Tryd.f6 := (Option.some.inj (Tryd.func6.symm.trans hfn)).symm
  refine ⟨by kernel_rfl, fun j t ht => ?_⟩
  have h := (show (Tryd.f6.params.toList.all fun t => !Tryd.prog.wantsStandIn t) = true by kernel_rfl)
  have h2 := List.all_eq_true.1 h t (by simpa using Array.mem_of_getElem? ht)
  have h3 : Tryd.prog.wantsStandIn t = false := by simpa using h2
  exact h3

/-- The card. -/
theorem card : Rows.PassSaltsCardSaid :=
  Claim7.holds_tied_plain_at .later [] _ _ _ _ said (fun _ h => by cases h) (by kernel_rfl) (fun _ h => by cases h) passSalts_row_tie rfl ⟨rfl, rfl⟩ (by kernel_rfl) rfl plain (by kernel_rfl)
end Go.Proofs.YtdllppaichlnaaaDoor.lawPassSalts
namespace Go.Proofs.YtdllppaichlnaaaDoor
open Go.RowKit

set_option maxRecDepth 20000 in
set_option maxHeartbeats 1600000 in
theorem rounds_big (p : ByteArray) (a z y : Int) (w : World) (hbig : 200 < p.size) (hp : p.size ≤ 140737488351232) (ht : Tab w) :
    Calls Tryd.prog 7 #[.string p, .int .u64 a, .int .u8 z, .int .u8 y] w (Ret w (Is (.bool true))) := by
  have KA := hide fun W (h : Ext w W) => awake_any W (ht.ext h)
  have hbi : (200 : Int) < (p.size : Int) := by omega
  clear ht
  go_enter Tryd.func7, Tryd.ntmps7
  go_wp2_with (first
    | (go_at_call 8; (with_reducible refine (KA.out _ X1.out).mono ?_); rintro e w2 ⟨v2, rfl, hw2, rfl⟩; have X2 := hide (X1.out.trans hw2))
    | (go_at_call 8; (with_reducible refine (KA.out _ (Ext.refl w)).mono ?_); rintro e w1 ⟨v1, rfl, hx1, rfl⟩; have X1 := hide hx1))
  go_ret
  exact Ret.mk X2.out rfl
set_option maxRecDepth 20000 in
set_option maxHeartbeats 6400000 in
theorem rounds_main (p : ByteArray) (a z y n : Int) (w : World) (hsm : p.size ≤ 200) (ha : 0 ≤ a ∧ a < 18446744073709551616) (hz : 0 ≤ z ∧ z ≤ 255) (hy : 0 ≤ y ∧ y ≤ 255) (hn : 1 + z % 12 = n) (ht : Tab w) :
    Calls Tryd.prog 7 #[.string p, .int .u64 a, .int .u8 z, .int .u8 y] w (Ret w (Is (.bool true))) := by
  have KA := hide fun W (h : Ext w W) => awake_any W (ht.ext h)
  have hk : okR n = true := decide_eq_true (by omega)
  have hk1 : okR (n + 1) = true := decide_eq_true (by omega)
  have hbi : ¬ (200 : Int) < (p.size : Int) := by omega
  have hn0 : 1 ≤ n := by omega
  have hn1 : n ≤ 12 := by omega
  have HN := hide hn
  obtain ⟨o, HO⟩ : ∃ o, Hid (strU p.data.toList (be64 a) n = o) := ⟨_, hide rfl⟩
  have HOL : Hid (o.length = 32) := hide (by rw [← HO.out]; exact strU_len _ _ _)
  obtain ⟨o2, HO2⟩ : ∃ o, Hid (strU p.data.toList (be64 a) (n + 1) = o) := ⟨_, hide rfl⟩
  have HOL2 : Hid (o2.length = 32) := hide (by rw [← HO2.out]; exact strU_len _ _ _)
  obtain ⟨b, HB⟩ : ∃ b, Hid ((o2 == o) = b) := ⟨_, hide rfl⟩
  obtain ⟨b2, HB2⟩ : ∃ b2, Hid (lsT b (n + 1) 1 = b2) := ⟨_, hide rfl⟩
  obtain ⟨tx, HTX⟩ : ∃ tx : ByteArray, Hid ((⟨(baseB (secB a n o)).toArray⟩ : ByteArray) = tx) := ⟨_, hide rfl⟩
  have htz : tx.size ≤ 1000 := by
    rw [← HTX.out]
    show (baseB (secB a n o)).toArray.size ≤ 1000
    rw [List.size_toArray, baseB_len, secB_len a n o HOL.out]
    decide
  have KM := hide fun W (h : Ext w W) => (show Calls Tryd.prog 9 #[.string p, .int .u64 a, .int .i64 n] W (Ret W (Is (.tuple #[.agg (sec a n o).toArray, .int .i64 0]))) from (by
    have h3 := make_any p a n W ha (by omega) (ht.ext h)
    rw [mkV_ok hk, errR_ok hk, HO.out] at h3
    exact h3))
  have KM2 := hide fun W (h : Ext w W) => (show Calls Tryd.prog 9 #[.string p, .int .u64 a, .int .i64 (n + 1)] W (Ret W (Is (.tuple #[.agg (sec a (n + 1) o2).toArray, .int .i64 0]))) from (by
    have h3 := make_any p a (n + 1) W ha (by omega) (ht.ext h)
    rw [mkV_ok hk1, errR_ok hk1, HO2.out] at h3
    exact h3))
  have KC := hide fun W (h : Ext w W) (k : Int) => (show Calls Tryd.prog 13 #[.agg (sec a n o).toArray, .string p, .int .i64 k] W (Ret W (Is (.tuple #[.bool true, .bool (decide (n < k))]))) from (by
    have h3 := check_any a n o p k W ha HOL.out (by omega) (ht.ext h)
    have e : chkV p.data.toList a n o = true := by unfold chkV; rw [hk, HO.out, beq_self_eq_true]; rfl
    rw [e] at h3
    exact h3))
  have KC2 := hide fun W (h : Ext w W) => (show Calls Tryd.prog 13 #[.agg (sec a (n + 1) o).toArray, .string p, .int .i64 1] W (Ret W (Is (.tuple #[.bool b, .bool b2]))) from (by
    have h3 := check_any a (n + 1) o p 1 W ha HOL.out (by omega) (ht.ext h)
    have e : chkV p.data.toList a (n + 1) o = b := by unfold chkV; rw [hk1, HO2.out, HB.out]; rfl
    rw [e, HB2.out] at h3
    exact h3))
  have KW := hide fun W => (show Calls Tryd.prog 14 #[.agg (sec a n o).toArray] W (Ret W (Is (.tuple #[.string tx, .int .i64 0]))) from (by
    have h3 := write_yes a n o W ha HOL.out hk
    rw [HTX.out] at h3
    exact h3))
  have KD := hide fun W => (show Calls Tryd.prog 15 #[.string tx] W (Ret W (Is (.tuple #[.agg (sec a n o).toArray, .int .i64 0]))) from (by
    have h3 := read_any tx W (by omega)
    have e : rdS (readB tx.data.toList) = some (a, n, o) := by
      rw [← HTX.out]
      show rdS (readB (baseB (secB a n o))) = _
      rw [read_base]
      exact rdS_back ha hk HOL.out
    rw [e] at h3
    exact h3))
  clear ht hk hk1 hn HO HO2 HB2 HTX htz
  go_enter Tryd.func7, Tryd.ntmps7
  go_upto_region 3 with (go_at_call 8; (with_reducible refine (KA.out _ (Ext.refl w)).mono ?_); rintro e w1 ⟨v1, rfl, hx1, rfl⟩; have X1 := hide hx1; clear hx1)
  go_upto_region 4 with fail
  rw [HN.out]
  go_upto_region 9 with (first
    | (go_at_call 9; (with_reducible refine (KM.out _ X1.out).mono ?_); rintro e w2 ⟨v2, rfl, hx2, rfl⟩; have X2 := hide (X1.out.trans hx2); clear hx2)
    | ((with_reducible show wpList _ _ _ (⟨none, .store _ (.tmp 10) _, _, _, _, _⟩ :: _) _ _); refine wpList_store_sec rfl (.tmp 10) (.tmp 41) rfl w2.heap.size rfl a n o rfl 0 0 zer32 (heap_alloc_new w2 _) HOL.out rfl ?_;
       intro w3 hr3 hl3;
       have X3 := hide ((X2.out.trans (Ext.alloc _ _)).laid hl3 X2.out.size);
       have S3 := hide hr3; clear hr3 hl3)
    | ((with_reducible show wpList _ _ _ (⟨some 44, .load _ _, _, _, _, _⟩ :: _) _ _); refine wpList_load_sec rfl (.tmp 10) rfl _ rfl a n o S3.out HOL.out ?_)
    | (go_at_call 13; (with_reducible refine (KC.out _ X3.out _).mono ?_); rintro e w4 ⟨v4, rfl, hx4, rfl⟩; have X4 := hide (X3.out.trans hx4); have S4 := hide (S3.out.ext hx4); clear hx4)
    | ((with_reducible show wpList _ _ _ (⟨some 53, .load _ _, _, _, _, _⟩ :: _) _ _); refine wpList_load_sec rfl (.tmp 10) rfl _ rfl a n o S4.out HOL.out ?_)
    | (go_at_call 14; (with_reducible refine (KW.out _).mono ?_); rintro e w5 ⟨v5, rfl, hx5, rfl⟩; have X5 := hide (X4.out.trans hx5); have S5 := hide (S4.out.ext hx5); clear hx5)
    | (go_at_call 15; (with_reducible refine (KD.out _).mono ?_); rintro e w6 ⟨v6, rfl, hx6, rfl⟩; have X6 := hide (X5.out.trans hx6); have S6 := hide (S5.out.ext hx6); clear hx6)
    | ((with_reducible show wpList _ _ _ (⟨none, .store _ (.tmp 16) _, _, _, _, _⟩ :: _) _ _); refine wpList_store_sec rfl (.tmp 16) (.tmp 60) rfl w6.heap.size rfl a n o rfl 0 0 zer32 (heap_alloc_new w6 _) HOL.out rfl ?_;
       intro w7 hr7 hl7;
       have X7 := hide ((X6.out.trans (Ext.alloc _ _)).laid hl7 X6.out.size);
       have T7 := hide hr7;
       have S7 := hide ((S6.out.alloc _).other hl7 (Nat.ne_of_lt S6.out.lt)); clear hr7 hl7)
    | ((with_reducible show wpList _ _ _ (⟨some 63, .load _ _, _, _, _, _⟩ :: _) _ _); refine wpList_load_sec rfl (.tmp 16) rfl _ rfl a n o T7.out HOL.out ?_)
    | (go_at_call 13; (with_reducible refine (KC.out _ X7.out _).mono ?_); rintro e w8 ⟨v8, rfl, hx8, rfl⟩; have X8 := hide (X7.out.trans hx8); have S8 := hide (S7.out.ext hx8); have T8 := hide (T7.out.ext hx8); clear hx8))
  clear X1 X2 X3 X4 X5 X6 X7 S3 S4 S5 S6 S7 T7
  go_upto_region 11 with (first
    | ((with_reducible show wpList _ _ _ (⟨some 73, .load _ _, _, _, _, _⟩ :: _) _ _); refine wpList_load_dig rfl (.tmp 72) rfl _ rfl a n o S8.out HOL.out ?_)
    | ((with_reducible show wpList _ _ _ (⟨some 74, .build _ _, _, _, _, _⟩ :: _) _ _); refine wpList_build_sec rfl (.tmp 69) (.tmp 71) (.tmp 73) rfl a (n + 1) o rfl rfl rfl HOL.out ?_)
    | (go_at_call 13; (with_reducible refine (KC2.out _ X8.out).mono ?_); rintro e w9 ⟨v9, rfl, hx9, rfl⟩; have X9 := hide (X8.out.trans hx9); have S9 := hide (S8.out.ext hx9); have T9 := hide (T8.out.ext hx9); clear hx9)
    | (go_at_call 9; (with_reducible refine (KM2.out _ X9.out).mono ?_); rintro e w10 ⟨v10, rfl, hx10, rfl⟩; have X10 := hide (X9.out.trans hx10); have S10 := hide (S9.out.ext hx10); have T10 := hide (T9.out.ext hx10); clear hx10)
    | ((with_reducible show wpList _ _ _ (⟨none, .store _ (.tmp 22) _, _, _, _, _⟩ :: _) _ _); refine wpList_store_sec rfl (.tmp 22) (.tmp 85) rfl w10.heap.size rfl a (n + 1) o2 rfl 0 0 zer32 (heap_alloc_new w10 _) HOL2.out rfl ?_;
       intro w11 hr11 hl11;
       have X11 := hide ((X10.out.trans (Ext.alloc _ _)).laid hl11 X10.out.size);
       have U11 := hide hr11;
       have S11 := hide ((S10.out.alloc _).other hl11 (Nat.ne_of_lt S10.out.lt));
       have T11 := hide ((T10.out.alloc _).other hl11 (Nat.ne_of_lt T10.out.lt)); clear hr11 hl11))
  clear X8 X9 X10 S8 S9 S10 T8 T9 T10
  go_wp2_with (first
    | ((with_reducible show wpList _ _ _ (⟨some 114, .load _ _, _, _, _, _⟩ :: _) _ _); refine wpList_load_sec rfl (.tmp 16) rfl _ rfl a n o T11.out HOL.out ?_)
    | ((with_reducible show wpList _ _ _ (⟨some 115, .load _ _, _, _, _, _⟩ :: _) _ _); refine wpList_load_sec rfl (.tmp 10) rfl _ rfl a n o S11.out HOL.out ?_)
    | ((with_reducible show wpList _ _ _ (⟨some 116, .binOp _ _ _ _ _, _, _, _, _⟩ :: _) _ _); refine wpList_eql_sec1 rfl (.tmp 114) (.tmp 115) rfl a n o rfl rfl HOL.out ?_)
    | ((with_reducible show wpList _ _ _ (⟨some 124, .load _ _, _, _, _, _⟩ :: _) _ _); refine wpList_load_dig rfl (.tmp 123) rfl _ rfl a (n + 1) o2 U11.out HOL2.out ?_)
    | ((with_reducible show wpList _ _ _ (⟨some 126, .load _ _, _, _, _, _⟩ :: _) _ _); refine wpList_load_dig rfl (.tmp 125) rfl _ rfl a n o S11.out HOL.out ?_)
    | ((with_reducible show wpList _ _ _ (⟨some 127, .binOp _ _ _ _ _, _, _, _, _⟩ :: _) _ _); refine wpList_eql_dig rfl (.tmp 124) (.tmp 126) rfl o2 o rfl rfl HOL2.out HOL.out ?_; rw [HB.out]))
  go_ret
  exact Ret.mk X11.out rfl
theorem passRounds_walk (p : ByteArray) (a z y : Int) (w : World) (hp : p.size ≤ 140737488351232) (ha : 0 ≤ a ∧ a < 18446744073709551616) (hz : 0 ≤ z ∧ z ≤ 255) (hy : 0 ≤ y ∧ y ≤ 255) (ht : Tab w) :
    Calls Tryd.prog 7 #[.string p, .int .u64 a, .int .u8 z, .int .u8 y] w (Ret w (Is (.bool true))) := by
  by_cases hbig : 200 < p.size
  · exact rounds_big p a z y w hbig hp ht
  · exact rounds_main p a z y _ w (by omega) ha hz hy rfl ht
end Go.Proofs.YtdllppaichlnaaaDoor
namespace Go.Proofs.YtdllppaichlnaaaDoor.lawPassRounds
open Go.ChangeShapes Go.WideShapes Go.ChangeAt Go.RowKit
open Go.ChangeMaps (open_string)

set_option maxRecDepth 100000 in
theorem contract (H : Type) (enc : TypeId × Value → H) (W : World) (base : Nat) (args : Array Value) (ds gs : List (DataW H)) (before : List MemPlace)
    (hval : ∀ (j : Nat) t v, Tryd.f7.params[j]? = some t → args[j]? = some v → Value.okWide Tryd.prog W .any base t v)
    (hW : DataW.Whole enc Tryd.prog Tryd.f7.params.toList Rows.passRoundsSpec.vars false W args.toList ds gs before) (hz : (DataW.weightsEach Tryd.prog (Tryd.f7.params.toList ++ (OpenSpec.ofChange Rows.passRoundsSpec).bare.plain.varTypes Tryd.prog) (ds ++ gs)).all (· ≤ reachBytes) = true) (hL : laidMetH Tryd.prog Rows.passRoundsRow.laid W) :
    Calls Tryd.prog 7 args W fun e W' => ∃ v, e = .returned v ∧ Rows.passRoundsSpec.post enc Tryd.prog Tryd.f7 false true false false W args v W' := by
  have hW' := hW
  obtain ⟨p, q, hA0, hV, hbe, hfz, hnd⟩ := hW
  have hA : DataW.TrodAll enc Tryd.prog W 0 (fun _ => true) true Tryd.f7.params.toList args.toList ds p := hA0
  obtain ⟨rfl, rfl⟩ := trodVars_none hV
  rw [Tryd.params7] at hA hval
  obtain ⟨v0, vs0, d0, ds0, p0, q0, hg0, hd0, hp0, h0, r0⟩ := trodAll_cons hA
  obtain ⟨v1, vs1, d1, ds1, p1, q1, hg1, hd1, hp1, h1, r1⟩ := trodAll_cons r0
  obtain ⟨v2, vs2, d2, ds2, p2, q2, hg2, hd2, hp2, h2, r2⟩ := trodAll_cons r1
  obtain ⟨v3, vs3, d3, ds3, p3, q3, hg3, hd3, hp3, h3, r3⟩ := trodAll_cons r2
  obtain ⟨e1, e2, e3⟩ := trodAll_nil r3
  have hds : ds = [d0, d1, d2, d3] := by simp [hd0, hd1, hd2, hd3, e2]
  obtain rfl : args = #[v0, v1, v2, v3] := by
    have : args.toList = [v0, v1, v2, v3] := by simp [hg0, hg1, hg2, hg3, e1]
    exact Array.toList_inj.1 this
  subst hds
  obtain ⟨s0, rfl, hd0, -, hm0⟩ := open_string Tryd.underlying9 (hval 0 9 v0 rfl rfl) h0
  have hb0 : s0.data.toList.length ≤ 140737488351232 := sized_string hz (j := 0) rfl (by rw [hd0]; rfl)
  obtain ⟨n1, rfl, hd1, -, wf1⟩ := open_int Tryd.underlying22 (hval 1 22 v1 rfl rfl) h1
  have hb1 := bounds_u64 wf1
  obtain ⟨n2, rfl, hd2, -, wf2⟩ := open_int Tryd.underlying5 (hval 2 5 v2 rfl rfl) h2
  have hb2 := bounds_u8 wf2
  obtain ⟨n3, rfl, hd3, -, wf3⟩ := open_int Tryd.underlying5 (hval 3 5 v3 rfl rfl) h3
  have hb3 := bounds_u8 wf3
  have ht := tab_of_laid hL
  refine (passRounds_walk s0 n1 n2 n3 W hb0 ⟨hb1.1, by omega⟩ ⟨hb2.1, by omega⟩ ⟨hb3.1, by omega⟩ ht).mono fun e W' ⟨v, he, hx, hv⟩ => ?_
  subst he
  have hv' : v = .bool true := hv
  subst hv'
  exact ⟨_, rfl, law_post laidOut hW' rfl (by rw [Tryd.params7]; exact readable_all _ (by kernel_rfl)) (by kernel_rfl) Tryd.underlying4 rfl hx⟩

theorem laid_met (os : Os) : laidMet Tryd.prog Rows.passRoundsRow.laid ((laidWorld os).forCall (fun _ _ => 0) ⟨#[], #[Value.string .empty, Value.int .u64 0, Value.int .u8 0, Value.int .u8 0], []⟩).memory :=
  laidWorld_met os _
theorem reads (os : Os) {H : Type} (enc : TypeId × Value → H) : ∃ places, DataW.whole enc Tryd.prog ((laidWorld os).forCall (fun _ _ => 0) ⟨#[], #[Value.string .empty, Value.int .u64 0, Value.int .u8 0, Value.int .u8 0], []⟩).memory Tryd.f7.params.toList Rows.passRoundsSpec.vars false (#[Value.string .empty, Value.int .u64 0, Value.int .u8 0, Value.int .u8 0]).toList 8 = some ([.lit (.string []), .lit (.int .u64 0), .lit (.int .u8 0), .lit (.int .u8 0)], [], places) :=
  ⟨[], by kernel_rfl⟩

set_option maxRecDepth 100000 in
theorem lifted (os : Os) (started : os.Started) (H : Type) (enc : TypeId × Value → H) (F : Stop.Interp) :
    ReturnsInHanded {} Tryd.checked os 7 .any ((OpenSpec.ofChange Rows.passRoundsSpec).preRow enc Tryd.prog Tryd.f7 Rows.passRoundsRow.domain false Rows.passRoundsRow.laid) (((OpenSpec.ofChange Rows.passRoundsSpec).at F).post enc Tryd.prog Tryd.f7 false true false false) := by
  obtain ⟨places, hx⟩ := reads os enc
  refine returnsInHanded_of_row (C := Tryd.checked) (s := (OpenSpec.ofChange Rows.passRoundsSpec)) own started (by kernel_rfl) Tryd.func7
    (witness_row_at (enc := enc) (C := Tryd.checked) false (laidWorld os) #[Value.string .empty, Value.int .u64 0, Value.int .u8 0, Value.int .u8 0] (laidWorld_os os) (by kernel_rfl) (by kernel_rfl) (by kernel_rfl)
      (OpenSpec.preRow_of_cond 8 hx (by kernel_rfl) (fun k hk => by cases hk) (by kernel_rfl) (laid_met os))) ?_
  intro W base args ds gs before hval hW _ hcond hz hL _ _
  exact contract H enc W base args ds gs before hval hW hz hL

theorem said : Rows.PassRoundsSaid :=
  OpenClaim.holds_of_cond 7 Tryd.f7 rfl rfl rfl rfl rfl rfl rfl ⟨rfl, rfl, rfl, rfl, rfl⟩ rfl rfl rfl rfl rfl (by kernel_rfl) Tryd.func7 (by kernel_rfl)
    (of_decide_eq_true (by kernel_rfl)) (by unfold Func.isWrapper; first | (rw [if_pos (by decide +kernel)]; kernel_rfl) | (rw [if_neg (by decide +kernel)]; exact ⟨rfl, rfl⟩))
    (fun os started H enc _ F => by rw [OpenClaim.pre_eq_preRow]; exact lifted os started H enc F)

theorem plain (f : FuncId) (fn : Func) (hf : Tryd.pinned.checked.prog.funcNamed "muniment/munimentlaw18.PassRounds" = some f) (hfn : Tryd.pinned.checked.prog.funcs[f]? = some fn) :
    Rows.passRoundsCard.stood.looks = Tryd.pinned.checked.prog.looks [] ∧ ∀ (j : Nat) t, fn.params[j]? = some t → Tryd.pinned.checked.prog.wantsStandIn t = false := by
  obtain rfl : f = 7 := Option.some.inj ((show Tryd.prog.funcNamed "muniment/munimentlaw18.PassRounds" = some 7 by kernel_rfl).symm.trans hf) |>.symm
  obtain rfl : fn = Tryd.f7 := (Option.some.inj (Tryd.func7.symm.trans hfn)).symm
  refine ⟨by kernel_rfl, fun j t ht => ?_⟩
  have h := (show (Tryd.f7.params.toList.all fun t => !Tryd.prog.wantsStandIn t) = true by kernel_rfl)
  have h2 := List.all_eq_true.1 h t (by simpa using Array.mem_of_getElem? ht)
  have h3 : Tryd.prog.wantsStandIn t = false := by simpa using h2
  exact h3

/-- The card. -/
theorem card : Rows.PassRoundsCardSaid :=
  Claim7.holds_tied_plain_at .later [] _ _ _ _ said (fun _ h => by cases h) (by kernel_rfl) (fun _ h => by cases h) passRounds_row_tie rfl ⟨rfl, rfl⟩ (by kernel_rfl) rfl plain (by kernel_rfl)
end Go.Proofs.YtdllppaichlnaaaDoor.lawPassRounds
