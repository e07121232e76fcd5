/-
  PageEncodes: for every page the law answers true and leaves it as it was. No condition is put but the form's own.
-/
import Derived.Test.YtmamhinpkioogaaLawM
import Derived.Test.YtmamhinpkioogaaLawPg
import Derived.Test.YtmamhinpkioogaaPgEc
namespace Go.Proofs.Ytmamhinpkioogaa.lawPageEncodes
open Go.ChangeShapes Go.WideShapes Go.ChangeAt Go.RowKit
open Go.ChangeMaps (open_string)

set_option maxRecDepth 100000 in
theorem contract (H : Type) (enc : TypeId × Value → H) (W : World) (base : Nat) (args : Array Value) (ds gs : List (DataW H)) (before : List MemPlace)
    (hval : ∀ (j : Nat) t v, Try.f3.params[j]? = some t → args[j]? = some v → Value.okWide Try.prog W .any base t v)
    (hW : DataW.Whole enc Try.prog Try.f3.params.toList Rows.pageEncodesSpec.vars false W args.toList ds gs before) (hz : (DataW.weightsEach Try.prog (Try.f3.params.toList ++ (OpenSpec.ofChange Rows.pageEncodesSpec).bare.plain.varTypes Try.prog) (ds ++ gs)).all (· ≤ reachBytes) = true) :
    Calls Try.prog 3 args W fun e W' => ∃ v, e = .returned v ∧ Rows.pageEncodesSpec.post enc Try.prog Try.f3 false true false false W args v W' := by
  have hW' := hW
  obtain ⟨p, q, hA0, hV, hbe, hfz, hnd⟩ := hW
  have hA : DataW.TrodAll enc Try.prog W 0 (fun _ => true) true Try.f3.params.toList args.toList ds p := hA0
  obtain ⟨rfl, rfl⟩ := trodVars_none hV
  rw [Try.params3] at hA hval
  obtain ⟨v0, vs0, d0, ds0, p0, q0, hg0, hd0, hp0, h0, r0⟩ := trodAll_cons hA
  obtain ⟨e1, e2, e3⟩ := trodAll_nil r0
  have hds : ds = [d0] := by simp [hd0, e2]
  obtain rfl : args = #[v0] := by
    have : args.toList = [v0] := by simp [hg0, e1]
    exact Array.toList_inj.1 this
  subst hds
  obtain ⟨n0, m0, A0, c0, l0, rfl, hc0, hr0, hd0⟩ := open_page (hval 0 24 v0 rfl rfl) h0
  have hs0 := page_small hd0 (arg_small hz (j := 0) rfl rfl)
  have hn0 := page_kind (hval 0 24 _ rfl rfl) h0
  refine (pageEncodes_walk A0 n0 m0 c0 l0 W hr0 hs0 hn0).mono fun e W' ⟨v, he, hx, hv⟩ => ?_
  subst he
  have hv' : v = .bool true := hv
  subst hv'
  exact ⟨_, rfl, law_post laidOut hW' rfl (by rw [Try.params3]; exact readable_all _ (by kernel_rfl)) (by kernel_rfl) Try.underlying4 rfl hx⟩

theorem laid_met (os : Os) : laidMet Try.prog Rows.pageEncodesRow.laid ((laidWorld os).forCall (fun _ _ => 0) ⟨#[], #[Value.agg #[.int .u8 0, .int .i64 0, .slice none 0 0]], []⟩).memory :=
  laidWorld_met os _
theorem reads (os : Os) {H : Type} (enc : TypeId × Value → H) : ∃ places, DataW.whole enc Try.prog ((laidWorld os).forCall (fun _ _ => 0) ⟨#[], #[Value.agg #[.int .u8 0, .int .i64 0, .slice none 0 0]], []⟩).memory Try.f3.params.toList Rows.pageEncodesSpec.vars false (#[Value.agg #[.int .u8 0, .int .i64 0, .slice none 0 0]]).toList 8 = some ([.agg [.lit (.int .u8 0), .lit (.int .i64 0), .nil]], [], places) :=
  ⟨[], by kernel_rfl⟩

set_option maxRecDepth 100000 in
theorem lifted (os : Os) (started : os.Started) (H : Type) (enc : TypeId × Value → H) (F : Stop.Interp) :
    ReturnsInHanded {} Try.checked os 3 .any ((OpenSpec.ofChange Rows.pageEncodesSpec).preRow enc Try.prog Try.f3 Rows.pageEncodesRow.domain false Rows.pageEncodesRow.laid) (((OpenSpec.ofChange Rows.pageEncodesSpec).at F).post enc Try.prog Try.f3 false true false false) := by
  obtain ⟨places, hx⟩ := reads os enc
  refine returnsInHanded_of_row (C := Try.checked) (s := (OpenSpec.ofChange Rows.pageEncodesSpec)) own started (by kernel_rfl) Try.func3
    (witness_row_at (enc := enc) (C := Try.checked) false (laidWorld os) #[Value.agg #[.int .u8 0, .int .i64 0, .slice none 0 0]] (laidWorld_os os) (by kernel_rfl) (by kernel_rfl) (by kernel_rfl)
      (OpenSpec.preRow_of_cond 8 hx (by kernel_rfl) (fun k hk => by cases hk) (by kernel_rfl) (laid_met os))) ?_
  intro W base args ds gs before hval hW _ hcond hz _ _ _
  exact contract H enc W base args ds gs before hval hW hz 

theorem said : Rows.PageEncodesSaid :=
  OpenClaim.holds_of_cond 3 Try.f3 rfl rfl rfl rfl rfl rfl rfl ⟨rfl, rfl, rfl, rfl, rfl⟩ rfl rfl rfl rfl rfl (by kernel_rfl) Try.func3 (by kernel_rfl)
    (of_decide_eq_true (by kernel_rfl)) (by unfold Func.isWrapper; first | (rw [if_pos (by decide +kernel)]; kernel_rfl) | (rw [if_neg (by decide +kernel)]; exact ⟨rfl, rfl⟩))
    (fun os started H enc _ F => by rw [OpenClaim.pre_eq_preRow]; exact lifted os started H enc F)

end Go.Proofs.Ytmamhinpkioogaa.lawPageEncodes
