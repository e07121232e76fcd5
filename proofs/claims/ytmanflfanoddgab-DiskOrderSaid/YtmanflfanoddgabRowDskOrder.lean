/-
  DiskOrder: for every number, every choices and every place of the Sync, the law answers true and leaves the choices as they were. No condition is put but the form's own.
-/
import Derived.Test.YtmanflfanoddgabLawM
import Derived.Test.YtmanflfanoddgabLawE
import Derived.Test.YtmanflfanoddgabDskP
namespace Go.Proofs.Ytmanflfanoddgab.lawDiskOrder
open Go.ChangeShapes Go.WideShapes Go.ChangeAt Go.RowKit
open Go.ChangeMaps (open_string)

set_option maxRecDepth 100000 in
theorem contract (H : Type) (enc : TypeId × Value → H) (W : World) (base : Nat) (args : Array Value) (ds gs : List (DataW H)) (before : List MemPlace)
    (hval : ∀ (j : Nat) t v, Try.f7.params[j]? = some t → args[j]? = some v → Value.okWide Try.prog W .any base t v)
    (hW : DataW.Whole enc Try.prog Try.f7.params.toList Rows.diskOrderSpec.vars false W args.toList ds gs before) (hz : (DataW.weightsEach Try.prog (Try.f7.params.toList ++ (OpenSpec.ofChange Rows.diskOrderSpec).bare.plain.varTypes Try.prog) (ds ++ gs)).all (· ≤ reachBytes) = true) :
    Calls Try.prog 7 args W fun e W' => ∃ v, e = .returned v ∧ Rows.diskOrderSpec.post enc Try.prog Try.f7 false true false false W args v W' := by
  have hW' := hW
  obtain ⟨p, q, hA0, hV, hbe, hfz, hnd⟩ := hW
  have hA : DataW.TrodAll enc Try.prog W 0 (fun _ => true) true Try.f7.params.toList args.toList ds p := hA0
  obtain ⟨rfl, rfl⟩ := trodVars_none hV
  rw [Try.params7] at hA hval
  obtain ⟨v0, vs0, d0, ds0, p0, q0, hg0, hd0, hp0, h0, r0⟩ := trodAll_cons hA
  obtain ⟨v1, vs1, d1, ds1, p1, q1, hg1, hd1, hp1, h1, r1⟩ := trodAll_cons r0
  obtain ⟨v2, vs2, d2, ds2, p2, q2, hg2, hd2, hp2, h2, r2⟩ := trodAll_cons r1
  obtain ⟨e1, e2, e3⟩ := trodAll_nil r2
  have hds : ds = [d0, d1, d2] := by simp [hd0, hd1, hd2, e2]
  obtain rfl : args = #[v0, v1, v2] := by
    have : args.toList = [v0, v1, v2] := by simp [hg0, hg1, hg2, e1]
    exact Array.toList_inj.1 this
  subst hds
  obtain ⟨n0, rfl, hd0, -, wf0⟩ := open_int Try.underlying5 (hval 0 5 v0 rfl rfl) h0
  have hb0 := bounds_u8 wf0
  obtain ⟨A1, c1, l1, rfl, hr1⟩ := open_choices (hval 1 33 v1 rfl rfl) h1
  obtain ⟨n2, rfl, hd2, -, wf2⟩ := open_int Try.underlying5 (hval 2 5 v2 rfl rfl) h2
  have hb2 := bounds_u8 wf2
  refine (diskOrder_walk_int n0 n2 ⟨hb0.1, by omega⟩ ⟨hb2.1, by omega⟩ W (fun a b => Calls Try.prog 7 #[.int .u8 a, .slice A1 l1.length c1, .int .u8 b] W (Ret W (Is (.bool true)))) fun a b ha hb => diskOrder_walk a b ha hb A1 c1 l1 W hr1).mono fun e W' ⟨v, he, hx, hv⟩ => ?_
  subst he
  have hv' : v = .bool true := hv
  subst hv'
  exact ⟨_, rfl, law_post laidOut hW' rfl (by rw [Try.params7]; exact readable_all _ (by kernel_rfl)) (by kernel_rfl) Try.underlying4 rfl hx⟩

theorem laid_met (os : Os) : laidMet Try.prog Rows.diskOrderRow.laid ((laidWorld os).forCall (fun _ _ => 0) ⟨#[], #[Value.int .u8 0, Value.slice none 0 0, Value.int .u8 0], []⟩).memory :=
  laidWorld_met os _
theorem reads (os : Os) {H : Type} (enc : TypeId × Value → H) : ∃ places, DataW.whole enc Try.prog ((laidWorld os).forCall (fun _ _ => 0) ⟨#[], #[Value.int .u8 0, Value.slice none 0 0, Value.int .u8 0], []⟩).memory Try.f7.params.toList Rows.diskOrderSpec.vars false (#[Value.int .u8 0, Value.slice none 0 0, Value.int .u8 0]).toList 8 = some ([.lit (.int .u8 0), .nil, .lit (.int .u8 0)], [], places) :=
  ⟨[], by kernel_rfl⟩

set_option maxRecDepth 100000 in
theorem lifted (os : Os) (started : os.Started) (H : Type) (enc : TypeId × Value → H) (F : Stop.Interp) :
    ReturnsInHanded {} Try.checked os 7 .any ((OpenSpec.ofChange Rows.diskOrderSpec).preRow enc Try.prog Try.f7 Rows.diskOrderRow.domain false Rows.diskOrderRow.laid) (((OpenSpec.ofChange Rows.diskOrderSpec).at F).post enc Try.prog Try.f7 false true false false) := by
  obtain ⟨places, hx⟩ := reads os enc
  refine returnsInHanded_of_row (C := Try.checked) (s := (OpenSpec.ofChange Rows.diskOrderSpec)) own started (by kernel_rfl) Try.func7
    (witness_row_at (enc := enc) (C := Try.checked) false (laidWorld os) #[Value.int .u8 0, Value.slice none 0 0, Value.int .u8 0] (laidWorld_os os) (by kernel_rfl) (by kernel_rfl) (by kernel_rfl)
      (OpenSpec.preRow_of_cond 8 hx (by kernel_rfl) (fun k hk => by cases hk) (by kernel_rfl) (laid_met os))) ?_
  intro W base args ds gs before hval hW _ hcond hz _ _ _
  exact contract H enc W base args ds gs before hval hW hz 

theorem said : Rows.DiskOrderSaid :=
  OpenClaim.holds_of_cond 7 Try.f7 rfl rfl rfl rfl rfl rfl rfl ⟨rfl, rfl, rfl, rfl, rfl⟩ rfl rfl rfl rfl rfl (by kernel_rfl) Try.func7 (by kernel_rfl)
    (of_decide_eq_true (by kernel_rfl)) (by unfold Func.isWrapper; first | (rw [if_pos (by decide +kernel)]; kernel_rfl) | (rw [if_neg (by decide +kernel)]; exact ⟨rfl, rfl⟩))
    (fun os started H enc _ F => by rw [OpenClaim.pre_eq_preRow]; exact lifted os started H enc F)

end Go.Proofs.Ytmanflfanoddgab.lawDiskOrder
