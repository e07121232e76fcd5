/-
  DiskLasts: for every bytes, every list of writes, every number and every choices the law answers true and leaves what it was handed as it was. No condition is put but the form's own.
-/
import Derived.Test.YtgpkblpnccokfaaLawM
import Derived.Test.YtgpkblpnccokfaaLawF
import Derived.Test.YtgpkblpnccokfaaDskG
namespace Go.Proofs.Ytgpkblpnccokfaa.lawDiskLasts
open Go.ChangeShapes Go.WideShapes Go.ChangeAt Go.RowKit
open Go.ChangeMaps (open_string)

set_option maxRecDepth 100000 in
theorem contract (H : Type) (enc : TypeId × Value → H) (W : World) (base : Nat) (args : Array Value) (ds gs : List (DataW H)) (before : List MemPlace)
    (hval : ∀ (j : Nat) t v, Try.f5.params[j]? = some t → args[j]? = some v → Value.okWide Try.prog W .any base t v)
    (hW : DataW.Whole enc Try.prog Try.f5.params.toList Rows.diskLastsSpec.vars false W args.toList ds gs before) (hz : (DataW.weightsEach Try.prog (Try.f5.params.toList ++ (OpenSpec.ofChange Rows.diskLastsSpec).bare.plain.varTypes Try.prog) (ds ++ gs)).all (· ≤ reachBytes) = true) :
    Calls Try.prog 5 args W fun e W' => ∃ v, e = .returned v ∧ Rows.diskLastsSpec.post enc Try.prog Try.f5 false true false false W args v W' := by
  have hW' := hW
  obtain ⟨p, q, hA0, hV, hbe, hfz, hnd⟩ := hW
  have hA : DataW.TrodAll enc Try.prog W 0 (fun _ => true) true Try.f5.params.toList args.toList ds p := hA0
  obtain ⟨rfl, rfl⟩ := trodVars_none hV
  rw [Try.params5] at hA hval
  obtain ⟨v0, vs0, d0, ds0, p0, q0, hg0, hd0, hp0, h0, r0⟩ := trodAll_cons hA
  obtain ⟨v1, vs1, d1, ds1, p1, q1, hg1, hd1, hp1, h1, r1⟩ := trodAll_cons r0
  obtain ⟨v2, vs2, d2, ds2, p2, q2, hg2, hd2, hp2, h2, r2⟩ := trodAll_cons r1
  obtain ⟨v3, vs3, d3, ds3, p3, q3, hg3, hd3, hp3, h3, r3⟩ := trodAll_cons r2
  obtain ⟨e1, e2, e3⟩ := trodAll_nil r3
  have hds : ds = [d0, d1, d2, d3] := by simp [hd0, hd1, hd2, hd3, e2]
  obtain rfl : args = #[v0, v1, v2, v3] := by
    have : args.toList = [v0, v1, v2, v3] := by simp [hg0, hg1, hg2, hg3, e1]
    exact Array.toList_inj.1 this
  subst hds
  obtain ⟨A0, c0, l0, rfl, hlc0, hr0, hd0⟩ := open_bytes (hval 0 32 v0 rfl rfl) h0
  have hb0 := reach_bytes hz (j := 0) rfl rfl Try.underlying32 (by kernel_rfl) hd0
  obtain ⟨A1, c1, l1, rfl, hr1⟩ := open_lists (hval 1 51 v1 rfl rfl) h1
  obtain ⟨n2, rfl, hd2, -, wf2⟩ := open_int Try.underlying5 (hval 2 5 v2 rfl rfl) h2
  have hb2 := bounds_u8 wf2
  obtain ⟨A3, c3, l3, rfl, hr3⟩ := open_choices (hval 3 33 v3 rfl rfl) h3
  refine (diskLasts_all A0 A1 A3 c0 c1 c3 l0 l1 n2 ⟨hb2.1, by omega⟩ l3 W hr0 hr1 hr3).mono fun e W' ⟨v, he, hx, hv⟩ => ?_
  subst he
  have hv' : v = .bool true := hv
  subst hv'
  exact ⟨_, rfl, law_post laidOut hW' rfl (by rw [Try.params5]; exact readable_all _ (by kernel_rfl)) (by kernel_rfl) Try.underlying4 rfl hx⟩

theorem laid_met (os : Os) : laidMet Try.prog Rows.diskLastsRow.laid ((laidWorld os).forCall (fun _ _ => 0) ⟨#[], #[Value.slice none 0 0, Value.slice none 0 0, Value.int .u8 0, Value.slice none 0 0], []⟩).memory :=
  laidWorld_met os _
theorem reads (os : Os) {H : Type} (enc : TypeId × Value → H) : ∃ places, DataW.whole enc Try.prog ((laidWorld os).forCall (fun _ _ => 0) ⟨#[], #[Value.slice none 0 0, Value.slice none 0 0, Value.int .u8 0, Value.slice none 0 0], []⟩).memory Try.f5.params.toList Rows.diskLastsSpec.vars false (#[Value.slice none 0 0, Value.slice none 0 0, Value.int .u8 0, Value.slice none 0 0]).toList 8 = some ([.nil, .nil, .lit (.int .u8 0), .nil], [], places) :=
  ⟨[], by kernel_rfl⟩

set_option maxRecDepth 100000 in
theorem lifted (os : Os) (started : os.Started) (H : Type) (enc : TypeId × Value → H) (F : Stop.Interp) :
    ReturnsInHanded {} Try.checked os 5 .any ((OpenSpec.ofChange Rows.diskLastsSpec).preRow enc Try.prog Try.f5 Rows.diskLastsRow.domain false Rows.diskLastsRow.laid) (((OpenSpec.ofChange Rows.diskLastsSpec).at F).post enc Try.prog Try.f5 false true false false) := by
  obtain ⟨places, hx⟩ := reads os enc
  refine returnsInHanded_of_row (C := Try.checked) (s := (OpenSpec.ofChange Rows.diskLastsSpec)) own started (by kernel_rfl) Try.func5
    (witness_row_at (enc := enc) (C := Try.checked) false (laidWorld os) #[Value.slice none 0 0, Value.slice none 0 0, Value.int .u8 0, Value.slice none 0 0] (laidWorld_os os) (by kernel_rfl) (by kernel_rfl) (by kernel_rfl)
      (OpenSpec.preRow_of_cond 8 hx (by kernel_rfl) (fun k hk => by cases hk) (by kernel_rfl) (laid_met os))) ?_
  intro W base args ds gs before hval hW _ hcond hz _ _ _
  exact contract H enc W base args ds gs before hval hW hz 

theorem said : Rows.DiskLastsSaid :=
  OpenClaim.holds_of_cond 5 Try.f5 rfl rfl rfl rfl rfl rfl rfl ⟨rfl, rfl, rfl, rfl, rfl⟩ rfl rfl rfl rfl rfl (by kernel_rfl) Try.func5 (by kernel_rfl)
    (of_decide_eq_true (by kernel_rfl)) (by unfold Func.isWrapper; first | (rw [if_pos (by decide +kernel)]; kernel_rfl) | (rw [if_neg (by decide +kernel)]; exact ⟨rfl, rfl⟩))
    (fun os started H enc _ F => by rw [OpenClaim.pre_eq_preRow]; exact lifted os started H enc F)

end Go.Proofs.Ytgpkblpnccokfaa.lawDiskLasts
