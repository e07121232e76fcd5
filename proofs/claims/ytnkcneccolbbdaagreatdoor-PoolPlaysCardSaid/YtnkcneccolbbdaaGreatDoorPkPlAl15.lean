/-
  Arguments that are slices of calls of a pool.
  PoolPlays: for every two numbers and every script of calls, of any size that the form reaches, the law answers true and leaves what it was handed as it was; octet.halfBytes holds what the program's text lays.
-/
import Derived.Deep.Slices
import Derived.OpenShut
import Derived.Test.YtnkcneccolbbdaaGreatDoorPkPlAl0
import Derived.Test.YtnkcneccolbbdaaGreatDoorPkPlAl14
set_option linter.unusedVariables false
set_option linter.unusedSimpArgs false

namespace Go.Proofs.YtnkcneccolbbdaaGreatDoor
open Go.ChangeShapes Go.WideShapes Go.ChangeAt Go.RowKit

section
variable {H : Type} {enc : TypeId × Value → H} {W : World}
/-- What a slice of bytes reads as. -/
def BytesD (d : DataW H) (l : List UInt8) : Prop := (d = .nil ∧ l = []) ∨ ∃ elems spare, d = .slice elems spare ∧ elems.length = l.length
set_option maxRecDepth 100000 in
theorem bytes_open {n : Nat} {cs : List Value} {y : DataW H × List MemPlace} (hn : DataW.trod enc Tryz.prog W 0 (fun _ => true) true n 32 cs = some y) :
    ∃ A c l, cs = [.slice A l.length c] ∧ l.length ≤ c ∧ Rd W A l ∧ BytesD y.1 l := by
  rcases open_ints Tryz.underlying32 Tryz.underlying5 (by kernel_rfl) hn with ⟨hc, hx⟩ | ⟨a, len, cap, zs, hc, _, hlc, _, hz, hx, hcell, hwf⟩
  · subst hx
    exact ⟨none, 0, [], hc, Nat.le_refl _, Rd.nil _ _, .inl ⟨rfl, rfl⟩⟩
  · subst hx
    simp only [if_true] at hz
    have hlen : ((zs.take len).map b8).length = len := by simp; omega
    refine ⟨some a, cap, (zs.take len).map b8, by rw [hlen]; exact hc, by rw [hlen]; exact hlc, fun hn0 => ?_, .inr ⟨_, _, rfl, ?_⟩⟩
    · have hp : 0 < zs.length := by
        have : len ≠ 0 := by intro e; apply hn0; apply List.length_eq_zero_iff.1; rw [hlen, e]
        omega
      obtain ⟨b, off, rfl, hcl⟩ := ints_at hcell hp
      refine ⟨b, off, rfl, fun j u hu => ?_⟩
      have hj := (List.getElem?_eq_some_iff.1 hu).1
      rw [hlen] at hj
      rw [hcl j (by omega)]
      rw [List.getElem?_map, List.getElem?_take_of_lt hj, List.getElem?_eq_getElem (by omega)] at hu
      have hu' : b8 zs[j] = u := by simpa using hu
      have hw := bounds_u8 (hwf zs[j] (List.getElem_mem _))
      rw [← hu', b8_toNat hw.1 (by omega), List.getD_eq_getElem?_getD, List.getElem?_eq_getElem (by omega)]
      rfl
    · rw [hlen]; simp [lits]; omega
instance : Inhabited Ap := ⟨⟨0, 0, 0, none, 0, []⟩⟩
/-- What a call reads as. -/
def AcD (d : DataW H) (x : Ap) : Prop := ∃ d0 d1 d2 d3, d = .agg [d0, d1, d2, d3] ∧ BytesD d3 x.p
/-- A call as the form hands it. -/
structure AcIn (W : World) (y : Ap) : Prop where
  k : y.k < 256
  g : y.g < 256
  o : y.o < 65536
  p : Rd W y.P y.p
set_option maxRecDepth 100000 in
theorem act_open {n : Nat} {cs : List Value} {y : DataW H × List MemPlace} (h : DataW.trod enc Tryz.prog W 0 (fun _ => true) true n 37 cs = some y) :
    ∃ x : Ap, cs = apC x ∧ AcIn W x ∧ AcD y.1 x := by
  obtain ⟨xs, m, rfl, rfl, hl, hxl, hall⟩ := DataW.trod_struct Tryz.underlying37 h
  have hcl : cs.length = 4 := hl.trans (by kernel_rfl)
  match cs, hcl with
  | [v0, v1, v2, v3], _ =>
    have hx2 : xs.length = 4 := hxl
    match xs, hx2 with
    | [y0, y1, y2, y3], _ =>
      have e0 : DataW.trod enc Tryz.prog W 0 (fun _ => true) true m 5 [v0] = some y0 := hall 0 _ rfl
      have e1 : DataW.trod enc Tryz.prog W 0 (fun _ => true) true m 5 [v1] = some y1 := hall 1 _ rfl
      have e2 : DataW.trod enc Tryz.prog W 0 (fun _ => true) true m 35 [v2] = some y2 := hall 2 _ rfl
      have e3 : DataW.trod enc Tryz.prog W 0 (fun _ => true) true m 32 [v3] = some y3 := hall 3 _ rfl
      obtain ⟨k, h0, _, w0⟩ := DataW.trod_int Tryz.underlying5 e0
      obtain ⟨g, h1, _, w1⟩ := DataW.trod_int Tryz.underlying5 e1
      obtain ⟨o, h2, _, w2⟩ := DataW.trod_int Tryz.underlying35 e2
      obtain ⟨P, cp, p, g3, -, r3, b3⟩ := bytes_open e3
      injection h0 with h0
      injection h1 with h1
      injection h2 with h2
      injection g3 with g3
      subst h0 h1 h2 g3
      have b0 := bounds_u8 w0
      have b1 := bounds_u8 w1
      have b2 := bounds_u16 w2
      obtain ⟨k, rfl⟩ : ∃ u : Nat, k = (u : Int) := ⟨k.toNat, by omega⟩
      obtain ⟨g, rfl⟩ : ∃ u : Nat, g = (u : Int) := ⟨g.toNat, by omega⟩
      obtain ⟨o, rfl⟩ : ∃ u : Nat, o = (u : Int) := ⟨o.toNat, by omega⟩
      exact ⟨⟨k, g, o, P, cp, p⟩, rfl, ⟨by show k < 256; omega, by show g < 256; omega, by show o < 65536; omega, r3⟩, y0.1, y1.1, y2.1, y3.1, rfl, b3⟩
/-- What a slice of calls reads as. -/
def ActsD (d : DataW H) (L : List Ap) : Prop := (d = .nil ∧ L = []) ∨ ∃ elems spare, d = .slice elems spare ∧ elems.length = L.length ∧ ∀ (j : Nat) (x : Ap), L[j]? = some x → ∃ e, elems[j]? = some e ∧ AcD e x
set_option maxRecDepth 100000 in
theorem acts_open {n : Nat} {cs : List Value} {y : DataW H × List MemPlace} (hn : DataW.trod enc Tryz.prog W 0 (fun _ => true) true n 22 cs = some y) :
    ∃ A c L, cs = [.slice A L.length c] ∧ RdAp W A L ∧ (∀ x ∈ L, AcIn W x) ∧ ActsD y.1 L := by
  rcases Deep.open_slice Tryz.underlying22 hn with ⟨hc, rfl⟩ | ⟨a, len, cap, m, n', D, Pl, hc, _, hlc, _, hm, rfl, hx⟩
  · exact ⟨none, 0, [], hc, fun h => absurd rfl h, fun _ h => (List.not_mem_nil h).elim, .inl ⟨rfl, rfl⟩⟩
  · simp only [if_true] at hm
    subst hm
    have hce : Tryz.prog.cellsOf 37 = 4 := by kernel_rfl
    rw [hce] at hx
    have each : ∀ i, i < m → ∃ x : Ap, (∀ q v, (apC x)[q]? = some v → W.cell? ((a.add (i * 4)).add q) = some v) ∧ AcIn W x ∧ AcD (D i) x := fun i hi => by
      obtain ⟨cs', h1, h2⟩ := hx i hi
      obtain ⟨x, rfl, hb, hd⟩ := act_open h2
      obtain ⟨_, _, hcc⟩ := World.cells?_some h1
      refine ⟨x, fun q v hq => ?_, hb, hd⟩
      have hql : q < 4 := (List.getElem?_eq_some_iff.1 hq).1
      have := hcc q (by simpa [apC] using hql)
      rw [this]
      simpa using hq
    obtain ⟨X, hX⟩ := Deep.choose_lt each
    have hlen : ((List.range len).map X).length = len := by simp
    refine ⟨some a, m, (List.range len).map X, by rw [hlen]; exact hc, fun hn0 => ?_, fun x hx => ?_, .inr ⟨_, _, rfl, by simp, fun j x hj => ?_⟩⟩
    · have hp : 0 < len := by
        rcases Nat.eq_zero_or_pos len with h | h
        · exfalso; apply hn0; rw [h]; rfl
        · exact h
      obtain ⟨b, off, spot⟩ := a
      have hspot : spot = none := by
        have g1 := (hX 0 (by omega)).1 0 _ rfl
        simpa [Addr.add] using World.cell?_spot g1
      subst hspot
      refine ⟨b, off, rfl, fun j x hj => ?_⟩
      have hjl := (List.getElem?_eq_some_iff.1 hj).1
      rw [hlen] at hjl
      rw [List.getElem?_map, List.getElem?_range hjl] at hj
      have hj2 : X j = x := by simpa using hj
      have g1 := (hX j (by omega)).1
      rw [hj2] at g1
      intro q v hq
      have g2 := g1 q v hq
      rw [add_flat, add_flat] at g2
      exact g2
    · obtain ⟨i, hi, rfl⟩ := List.mem_map.1 hx
      exact (hX i (by have := List.mem_range.1 hi; omega)).2.1
    · have hjl := (List.getElem?_eq_some_iff.1 hj).1
      rw [hlen] at hjl
      rw [List.getElem?_map, List.getElem?_range hjl] at hj
      have hj2 : X j = x := by simpa using hj
      refine ⟨D j, by rw [List.getElem?_map, List.getElem?_range hjl]; rfl, ?_⟩
      rw [← hj2]
      exact (hX j (by omega)).2.2
set_option maxRecDepth 100000 in
/-- An argument that is a slice of calls. -/
theorem open_acts {base : Nat} {v : Value} {d : DataW H} {ps : List MemPlace} (hval : Value.okWide Tryz.prog W .any base 22 v)
    (h : DataW.Trod enc Tryz.prog W 0 (fun _ => true) true 22 v d ps) : ∃ A c L, v = .slice A L.length c ∧ RdAp W A L ∧ (∀ x ∈ L, AcIn W x) ∧ ActsD d L := by
  obtain ⟨a0, len, cap, rfl⟩ := okWide_slice Tryz.underlying22 hval
  obtain ⟨n, hn⟩ := h
  obtain ⟨A, c, L, hc, h1, h2, h3⟩ := acts_open hn
  have e : (Value.slice a0 len cap) = .slice A L.length c := by
    have : [Value.slice a0 len cap] = [Value.slice A L.length c] := hc
    injection this
  exact ⟨A, c, L, e, h1, h2, h3⟩
theorem weights_all {P : Program} {e : TypeId} : ∀ {l : List (DataW H)} {d : DataW H}, d ∈ l → ∀ n ∈ d.weights P e, n ∈ DataW.weightsAll P e l
  | [], _, h, _, _ => by cases h
  | x :: r, d, h, n, hn => by
    simp only [DataW.weightsAll, List.mem_append]
    rcases List.mem_cons.1 h with rfl | h
    · exact .inl hn
    · exact .inr (weights_all h n hn)
set_option maxRecDepth 100000 in
theorem bytes_small {d : DataW H} {l : List UInt8} (h : BytesD d l) (hw : ∀ n ∈ d.weights Tryz.prog 32, n ≤ reachBytes) : l.length ≤ 140737488351232 := by
  rcases h with ⟨_, rfl⟩ | ⟨elems, spare, rfl, hl⟩
  · exact Nat.zero_le _
  · have h1 := hw ((elems.length + spare.length) * Tryz.prog.bytesOf 5) (by simp [DataW.weights, Tryz.underlying32])
    have e : Tryz.prog.bytesOf 5 = 1 := by kernel_rfl
    rw [e] at h1
    unfold reachBytes at h1
    omega
set_option maxRecDepth 100000 in
theorem act_small {d : DataW H} {x : Ap} (h : AcD d x) (hw : ∀ n ∈ d.weights Tryz.prog 37, n ≤ reachBytes) : x.p.length ≤ 140737488351232 := by
  obtain ⟨d0, d1, d2, d3, rfl, b2⟩ := h
  have e : DataW.weights Tryz.prog 37 (.agg [d0, d1, d2, d3] : DataW H) = d0.weights Tryz.prog 5 ++ (d1.weights Tryz.prog 5 ++ (d2.weights Tryz.prog 35 ++ (d3.weights Tryz.prog 32 ++ []))) := by
    simp [DataW.weights, Tryz.underlying37, DataW.weightsEach]
  rw [e] at hw
  exact bytes_small b2 (fun n hn => hw n (List.mem_append_right _ (List.mem_append_right _ (List.mem_append_right _ (List.mem_append_left _ hn)))))
set_option maxRecDepth 100000 in
theorem acts_small {d : DataW H} {L : List Ap} (h : ActsD d L) (hw : ∀ n ∈ d.weights Tryz.prog 22, n ≤ reachBytes) : ∀ x ∈ L, x.p.length ≤ 140737488351232 := by
  rcases h with ⟨_, rfl⟩ | ⟨elems, spare, rfl, hl, hall⟩
  · exact fun x hx => by cases hx
  · intro x hx
    obtain ⟨j, hj⟩ := List.mem_iff_getElem?.1 hx
    obtain ⟨e, he, hd⟩ := hall j x hj
    refine act_small hd (fun n hn => hw n ?_)
    simp only [DataW.weights, Tryz.underlying22]
    exact List.mem_cons_of_mem _ (List.mem_append_left _ (weights_all (List.mem_of_getElem? he) n hn))
theorem arg_small {P : Program} {ts : List TypeId} {ds : List (DataW H)} {j : Nat} {t : TypeId} {d : DataW H} (hz : (DataW.weightsEach P ts ds).all (· ≤ reachBytes) = true) (ht : ts[j]? = some t) (hd : ds[j]? = some d) : ∀ n ∈ d.weights P t, n ≤ reachBytes := fun n hn => by
  have := List.all_eq_true.1 hz _ (DataW.weights_mem_each ht hd n hn)
  simpa using this
set_option maxRecDepth 100000 in
/-- So many calls there may be. -/
theorem acts_many {d : DataW H} {L : List Ap} (h : ActsD d L) (hw : ∀ n ∈ d.weights Tryz.prog 22, n ≤ reachBytes) : L.length ≤ 4398046511104 := by
  rcases h with ⟨_, rfl⟩ | ⟨elems, spare, rfl, hl, _⟩
  · exact Nat.zero_le _
  · have h1 := hw ((elems.length + spare.length) * Tryz.prog.bytesOf 37) (by simp [DataW.weights, Tryz.underlying22])
    have e : Tryz.prog.bytesOf 37 = 32 := by kernel_rfl
    rw [e] at h1
    unfold reachBytes at h1
    omega
theorem acts_ok {L : List Ap} (h : ∀ x ∈ L, AcIn W x) (hs : ∀ x ∈ L, x.p.length ≤ 140737488351232) : ∀ y ∈ L, ApOk W y := fun y hy => ⟨(h y hy).k, (h y hy).g, (h y hy).o, (h y hy).p, hs y hy⟩
end
theorem plays_int {w : World} (a b : Int) (A : Option Addr) (L : List Ap) (c : Nat) (hT : Tab w) (h1 : 0 ≤ a ∧ a ≤ 255) (h2 : 0 ≤ b ∧ b ≤ 255) (hA : RdAp w A L) (hml : L.length ≤ 4398046511104) (hy : ∀ y ∈ L, ApOk w y) :
    Calls Tryz.prog 3 #[.int .u8 a, .int .u8 b, .slice A L.length c] w (Ret w (Is (.bool true))) := by
  obtain ⟨x, rfl⟩ : ∃ x : Nat, a = (x : Int) := ⟨a.toNat, by omega⟩
  obtain ⟨y, rfl⟩ : ∃ y : Nat, b = (y : Int) := ⟨b.toNat, by omega⟩
  exact poolPlays_walk x y A L L.length c (by omega) (by omega) hA rfl hml hy hT
end Go.Proofs.YtnkcneccolbbdaaGreatDoor
namespace Go.Proofs.YtnkcneccolbbdaaGreatDoor.lawPoolPlays
open Go.ChangeShapes Go.WideShapes Go.ChangeAt Go.RowKit
open Go.ChangeMaps (open_string)

set_option maxRecDepth 100000 in
theorem contract (H : Type) (enc : TypeId × Value → H) (W : World) (base : Nat) (args : Array Value) (ds gs : List (DataW H)) (before : List MemPlace)
    (hval : ∀ (j : Nat) t v, Tryz.f3.params[j]? = some t → args[j]? = some v → Value.okWide Tryz.prog W .any base t v)
    (hW : DataW.Whole enc Tryz.prog Tryz.f3.params.toList Rows.poolPlaysSpec.vars false W args.toList ds gs before) (hz : (DataW.weightsEach Tryz.prog (Tryz.f3.params.toList ++ (OpenSpec.ofChange Rows.poolPlaysSpec).bare.plain.varTypes Tryz.prog) (ds ++ gs)).all (· ≤ reachBytes) = true) (hL : laidMetH Tryz.prog Rows.poolPlaysRow.laid W) :
    Calls Tryz.prog 3 args W fun e W' => ∃ v, e = .returned v ∧ Rows.poolPlaysSpec.post enc Tryz.prog Tryz.f3 false true false false W args v W' := by
  have hW' := hW
  obtain ⟨p, q, hA0, hV, hbe, hfz, hnd⟩ := hW
  have hA : DataW.TrodAll enc Tryz.prog W 0 (fun _ => true) true Tryz.f3.params.toList args.toList ds p := hA0
  obtain ⟨rfl, rfl⟩ := trodVars_none hV
  rw [Tryz.params3] at hA hval
  obtain ⟨v0, vs0, d0, ds0, p0, q0, hg0, hd0, hp0, h0, r0⟩ := trodAll_cons hA
  obtain ⟨v1, vs1, d1, ds1, p1, q1, hg1, hd1, hp1, h1, r1⟩ := trodAll_cons r0
  obtain ⟨v2, vs2, d2, ds2, p2, q2, hg2, hd2, hp2, h2, r2⟩ := trodAll_cons r1
  obtain ⟨e1, e2, e3⟩ := trodAll_nil r2
  have hds : ds = [d0, d1, d2] := by simp [hd0, hd1, hd2, e2]
  obtain rfl : args = #[v0, v1, v2] := by
    have : args.toList = [v0, v1, v2] := by simp [hg0, hg1, hg2, e1]
    exact Array.toList_inj.1 this
  subst hds
  obtain ⟨n0, rfl, hd0, -, wf0⟩ := open_int Tryz.underlying5 (hval 0 5 v0 rfl rfl) h0
  have hb0 := bounds_u8 wf0
  obtain ⟨n1, rfl, hd1, -, wf1⟩ := open_int Tryz.underlying5 (hval 1 5 v1 rfl rfl) h1
  have hb1 := bounds_u8 wf1
  obtain ⟨A2, c2, l2, rfl, hr2, hy2, hd2⟩ := open_acts (hval 2 22 v2 rfl rfl) h2
  have ho2 := acts_ok hy2 (acts_small hd2 (arg_small hz (j := 2) rfl rfl))
  have hm2 := acts_many hd2 (arg_small hz (j := 2) rfl rfl)
  have ht := tab_of_laid hL
  refine (plays_int n0 n1 A2 l2 c2 ht hb0 hb1 hr2 hm2 ho2).mono fun e W' ⟨v, he, hx, hv⟩ => ?_
  subst he
  have hv' : v = .bool true := hv
  subst hv'
  exact ⟨_, rfl, law_post laidOut hW' rfl (by rw [Tryz.params3]; exact readable_all _ (by kernel_rfl)) (by kernel_rfl) Tryz.underlying4 rfl hx⟩

theorem laid_met (os : Os) : laidMet Tryz.prog Rows.poolPlaysRow.laid ((laidWorld os).forCall (fun _ _ => 0) ⟨#[], #[Value.int .u8 0, Value.int .u8 0, Value.slice none 0 0], []⟩).memory :=
  laidMet_of_run' 8 (by kernel_rfl) (by kernel_rfl)
theorem reads (os : Os) {H : Type} (enc : TypeId × Value → H) : ∃ places, DataW.whole enc Tryz.prog ((laidWorld os).forCall (fun _ _ => 0) ⟨#[], #[Value.int .u8 0, Value.int .u8 0, Value.slice none 0 0], []⟩).memory Tryz.f3.params.toList Rows.poolPlaysSpec.vars false (#[Value.int .u8 0, Value.int .u8 0, Value.slice none 0 0]).toList 8 = some ([.lit (.int .u8 0), .lit (.int .u8 0), .nil], [], places) :=
  ⟨[], by kernel_rfl⟩

set_option maxRecDepth 100000 in
theorem lifted (os : Os) (started : os.Started) (H : Type) (enc : TypeId × Value → H) (F : Stop.Interp) :
    ReturnsInHanded {} Tryz.checked os 3 .any ((OpenSpec.ofChange Rows.poolPlaysSpec).preRow enc Tryz.prog Tryz.f3 Rows.poolPlaysRow.domain false Rows.poolPlaysRow.laid) (((OpenSpec.ofChange Rows.poolPlaysSpec).at F).post enc Tryz.prog Tryz.f3 false true false false) := by
  obtain ⟨places, hx⟩ := reads os enc
  refine returnsInHanded_of_row (C := Tryz.checked) (s := (OpenSpec.ofChange Rows.poolPlaysSpec)) own started (by kernel_rfl) Tryz.func3
    (witness_row_at (enc := enc) (C := Tryz.checked) false (laidWorld os) #[Value.int .u8 0, Value.int .u8 0, Value.slice none 0 0] rfl (by kernel_rfl) (by kernel_rfl) (by kernel_rfl)
      (OpenSpec.preRow_of_cond 8 hx (by kernel_rfl) (fun k hk => by cases hk) (by kernel_rfl) (laid_met os))) ?_
  intro W base args ds gs before hval hW _ hcond hz hL _ _
  exact contract H enc W base args ds gs before hval hW hz hL

theorem said : Rows.PoolPlaysSaid :=
  OpenClaim.holds_of_cond 3 Tryz.f3 rfl rfl rfl rfl rfl rfl rfl ⟨rfl, rfl, rfl, rfl, rfl⟩ rfl rfl rfl rfl rfl (by kernel_rfl) Tryz.func3 (by kernel_rfl)
    (of_decide_eq_true (by kernel_rfl)) (by unfold Func.isWrapper; first | (rw [if_pos (by decide +kernel)]; kernel_rfl) | (rw [if_neg (by decide +kernel)]; exact ⟨rfl, rfl⟩))
    (fun os started H enc _ F => by rw [OpenClaim.pre_eq_preRow]; exact lifted os started H enc F)

theorem plain (f : FuncId) (fn : Func) (hf : Tryz.pinned.checked.prog.funcNamed "muniment/munimentlaw11.PoolPlays" = some f) (hfn : Tryz.pinned.checked.prog.funcs[f]? = some fn) :
    Rows.poolPlaysCard.stood.looks = Tryz.pinned.checked.prog.looks [] ∧ ∀ (j : Nat) t, fn.params[j]? = some t → Tryz.pinned.checked.prog.wantsStandIn t = false := by
  obtain rfl : f = 3 := Option.some.inj ((show Tryz.prog.funcNamed "muniment/munimentlaw11.PoolPlays" = some 3 by kernel_rfl).symm.trans hf) |>.symm
  obtain rfl : fn = Tryz.f3 := (Option.some.inj (Tryz.func3.symm.trans hfn)).symm
  refine ⟨by kernel_rfl, fun j t ht => ?_⟩
  have h := (show (Tryz.f3.params.toList.all fun t => !Tryz.prog.wantsStandIn t) = true by kernel_rfl)
  have h2 := List.all_eq_true.1 h t (by simpa using Array.mem_of_getElem? ht)
  have h3 : Tryz.prog.wantsStandIn t = false := by simpa using h2
  exact h3

/-- The card. -/
theorem card : Rows.PoolPlaysCardSaid :=
  Claim7.holds_tied_plain_at .later [] _ _ _ _ said (fun _ h => by cases h) (by kernel_rfl) (fun _ h => by cases h) poolPlays_row_tie rfl ⟨rfl, rfl⟩ (by kernel_rfl) rfl plain (by kernel_rfl)
end Go.Proofs.YtnkcneccolbbdaaGreatDoor.lawPoolPlays
