/-
  The laws' model of a log: behind.
  The laws' model of a log: add.
  What behind wants, out of a round of LogCrashes (plain).
  The walk of LogHeld, for every input.
-/
import Derived.Test.YtdifpbicdicggaaDoorPkLgAl6
import Derived.Test.YtdifpbicdicggaaDoorPkLgAl8
set_option linter.unusedVariables false
set_option linter.unusedSimpArgs false

namespace Go.Proofs.YtdifpbicdicggaaDoor
open Go.RowKit

theorem take_push {α : Type} (K : List α) (k : Nat) (r : α) (h : K[k]? = some r) : K.take k ++ [r] = K.take (k + 1) := by
  rw [List.take_add_one, h]
  rfl
theorem RecS.low {w : World} {B B' : Nat} {v : Value} {l : List (Nat × List UInt8)} (h : RecS w B v l) (hB : B' ≤ B) : RecS w B' v l := by
  rcases h with h | ⟨g, off, c, cur, h0, h1, h2⟩
  · exact .inl h
  · exact .inr ⟨g, off, c, cur, h0, Nat.le_trans hB h1, h2⟩
section
variable {w0 w w1 : World} {X : Bk} {D D' : Dk} {L L' : Lg} {B gm : Nat} {vl : Value} {M : Md} {H : List UInt8} {rs : List (List UInt8)}
set_option maxRecDepth 20000 in
set_option maxHeartbeats 3200000 in
theorem behind_any {lo K Q : List (Nat × List UInt8)} {en : Nat} (h : LgAt w0 w X D L) (hm : MdAt w w0.heap.size gm vl M) (mi : Mil D L H (backM M K en L.hd.ck) lo rs) (hl : M.l = K ++ Q) (hK : ∀ r ∈ K, r.1 < en) (hQ : ∀ r ∈ Q, en ≤ r.1)
    (hbd : ∀ r ∈ M.l, r.1 < 1000000000000 ∧ r.2.length ≤ 1200) (hend : en = L.hd.st ∨ ∃ (j : Nat) (r : Nat × List UInt8), K[j]? = some r ∧ r.1 + r.2.length + 2 = en) (hst : M.st = L.hd.st) (hen : en = H.length) (hsu : L.sure = en) (hms : M.su ≤ en) (hme : en ≤ M.en) (hnum : M.l.length ≤ 100000) (hT : Tab w0) :
    Calls Tryd.prog 18 #[.pointer (some ⟨gm, 0, none⟩), .pointer (some ⟨X.q, 0, none⟩)] w (fun e w' => e = .returned (.bool true) ∧ ∃ vl', MdAt w' w0.heap.size gm vl' (backM M K en L.hd.ck) ∧ Mfr gm vl w w') := by
  have HL := hide h
  have HM := hide hm
  have HMI := hide mi
  have HT := hide hT
  have hok := mi.rg.ok
  have KE := hide (fun (W : World) (hW : Ext w W) => end_any (h.ext_ hW) hok)
  have KS := hide (fun (W : World) (hW : Ext w W) => (lsure_any (h.ext_ hW)).mono fun _ _ hh => to_drewN hh)
  have KT := hide (fun (W : World) (hW : Ext w W) => (lstart_any (h.ext_ hW)).mono fun _ _ hh => to_drewN hh)
  obtain ⟨n, HN⟩ : ∃ n, Hid (M.l.length = n) := ⟨_, hide rfl⟩
  obtain ⟨ne, HNE⟩ : ∃ ne, Hid (K.length = ne) := ⟨_, hide rfl⟩
  have HNN : Hid (ne ≤ n ∧ n ≤ 100000) := hide (by rw [← HN.out, ← HNE.out]; rw [hl, List.length_append] at hnum ⊢; omega)
  obtain ⟨A0, d0, hv0⟩ := hm.recs.slice
  rw [HN.out] at hv0
  have HV0 := hide hv0
  obtain ⟨st, HST⟩ : ∃ st, Hid (L.hd.st = st) := ⟨_, hide rfl⟩
  obtain ⟨su, HSU⟩ : ∃ su, Hid (M.su = su) := ⟨_, hide rfl⟩
  obtain ⟨me, HME⟩ : ∃ me, Hid (M.en = me) := ⟨_, hide rfl⟩
  rw [mi.rg.end_, ← hen] at KE
  rw [hsu] at KS
  rw [HST.out] at KT hst hend
  rw [HSU.out] at hms
  rw [HME.out] at hme
  obtain ⟨c0, c1, c2, c3, -, -, -⟩ := hm.cells
  rw [hv0] at c0
  rw [HME.out] at c1
  rw [HSU.out] at c2
  rw [hst] at c3
  have x1 : ((st : Int) != (st : Int)) = false := by simp
  have x2 : ¬ (en : Int) < (su : Int) := by omega
  have x3 : ¬ (me : Int) < (en : Int) := by omega
  have x4 : ((en : Int) != (en : Int)) = false := by simp
  have HHL := hide hl
  have HHK := hide hK
  have HHQ := hide hQ
  have HBD := hide hbd
  have HEND := hide hend
  have HENB : Hid (en < 1000000000000) := hide (by rw [hen]; exact mi.rg.big)
  have HENL := hide hen
  clear h hm mi hok hl hK hQ hbd hend hst hen hsu hms hme hnum hT hv0
  go_enter Tryd.func18, Tryd.ntmps18
  go_upto_region 1 with fail
  go_quiet (first
    | (go_at_call 15; exact Calls.quiet_of (KE.out _ ((Ext.refl _).drewN _)))
    | (go_at_call 26; exact Calls.quiet_of (KS.out _ ((Ext.refl _).drewN _)))
    | (go_at_call 27; exact Calls.quiet_of (KT.out _ ((Ext.refl _).drewN _))))
  obtain ⟨wq, hwq⟩ : ∃ wq, w.drewN nq = wq := ⟨_, rfl⟩
  have HXQ : Hid (Ext w wq) := hide (by rw [← hwq]; exact (Ext.refl _).drewN _)
  rw [hwq]
  clear hwq x1 x2 x3 x4 c0 c1 c2 c3
  have d3 : wq.cell? ⟨gm, 3, none⟩ = some (.int .u64 (st : Int)) := by
    have hq := (HM.out.ext HXQ.out).cells.2.2.2.1
    rw [show M.st = st from HMI.out.st.trans HST.out] at hq
    exact hq
  obtain ⟨b0, hb0, HB0⟩ : ∃ b0, ((en : Int) == (st : Int)) = b0 ∧ Hid (en = st → b0 = true) := ⟨_, rfl, hide (fun h => by simp [h])⟩
  go_upto_region 7 with (go_at_call 15; (with_reducible refine (KE.out wq HXQ.out).mono ?_); rintro e w2 ⟨rfl, m2, hw2⟩; have HX2 : Hid (Ext w w2) := hide (by rw [hw2]; exact HXQ.out.drewN _); clear hw2 d3; have d3 : w2.cell? ⟨gm, 3, none⟩ = some (.int .u64 (st : Int)) := (by
      have hq := (HM.out.ext HX2.out).cells.2.2.2.1
      rw [show M.st = st from HMI.out.st.trans HST.out] at hq
      exact hq))
  clear d3 hb0
  go_loopw [6, 7, 8] (fun ov lv iv wr => ∃ (i : Nat) (bo : Bool) (v : Value), ov = .bool bo ∧ lv = v ∧ iv = .int .i64 (i : Int) ∧ Hid (i ≤ n) ∧ Hid (Ext w wr) ∧ Hid (RecS wr w.heap.size v (K.take i)) ∧ Hid (∃ A c, v = .slice A (K.take i).length c) ∧ Hid (en = st → bo = true) ∧ Hid (∀ (j : Nat) (r : Nat × List UInt8), j < i → K[j]? = some r → r.1 + r.2.length + 2 = en → bo = true)) (fun _ _ iv _ => n - (intOf iv).toNat)
  case atStart => exact ⟨0, b0, _, rfl, rfl, rfl, hide (Nat.zero_le _), HX2, hide (.inl ⟨rfl, List.take_zero⟩), hide ⟨none, 0, rfl⟩, HB0, hide (fun j r hj => absurd hj (Nat.not_lt_zero _))⟩
  case round =>
    obtain ⟨i, bo, v, rfl, rfl, rfl, HI, HX, HRS, HVS, HBE, HBJ⟩ := hrel
    have HMR := hide (HM.out.ext HX.out)
    have b0 := HMR.out.cells.1
    by_cases hin : i < n
    · obtain ⟨r, hr⟩ : ∃ r, M.l[i]? = some r := ⟨_, List.getElem?_eq_getElem (by rw [HN.out]; exact hin)⟩
      obtain ⟨g, off, d, hv, hnd, hcell⟩ := HMR.out.recs.at (by intro e; rw [e] at hr; cases hr)
      rw [HN.out] at hv hnd
      have HV := hide hv
      have HND := hide hnd
      rw [hv] at b0
      obtain ⟨a0, a1⟩ := hcell i r hr
      obtain ⟨x, HX0⟩ : ∃ x, Hid (r.1 = x) := ⟨_, hide rfl⟩
      obtain ⟨p, HP0⟩ : ∃ p, Hid (r.2 = p) := ⟨_, hide rfl⟩
      have HRE : Hid (r = (x, p)) := hide (by rw [← HX0.out, ← HP0.out])
      have HBR : Hid (x < 1000000000000 ∧ p.length ≤ 1200) := hide (by rw [← HX0.out, ← HP0.out]; exact HBD.out r (List.mem_of_getElem? hr))
      have HRI := hide hr
      rw [HX0.out] at a0
      rw [HP0.out] at a1
      have HCL : Hid (∀ W, Ext w W → W.cell? ⟨gm, 0, none⟩ = some (.slice (some ⟨g, off, none⟩) n d) ∧ W.cell? ⟨g, off + i * 2, none⟩ = some (.int .u64 (x : Int)) ∧ W.cell? ⟨g, off + i * 2 + 1, none⟩ = some (.string ⟨p.toArray⟩)) := hide (fun W hW => by
        have hm2 := HM.out.ext hW
        have q0 := hm2.cells.1
        obtain ⟨g2, off2, d2, hv2, -, hc2⟩ := hm2.recs.at (by intro e; rw [e] at hr; cases hr)
        rw [hv2] at hv
        injection hv with e1 e2 e3
        injection e1 with e1
        injection e1 with e4 e5
        subst e4 e5 e3
        rw [hv2, HN.out] at q0
        obtain ⟨q1, q2⟩ := hc2 i r hr
        rw [HX0.out] at q1
        rw [HP0.out] at q2
        exact ⟨q0, q1, q2⟩)
      have hki : (i : Int) < (n : Int) := by omega
      have HIN := hide hin
      have hw1 : IntKind.u64.wrap (p.length : Int) = (p.length : Int) := by rw [IntKind.wrap_u64]; have := HBR.out; omega
      have hw2 : IntKind.u64.wrap ((x : Int) + (p.length : Int)) = (x : Int) + (p.length : Int) := by rw [IntKind.wrap_u64]; have := HBR.out; omega
      have hw3 : IntKind.u64.wrap ((x : Int) + (p.length : Int) + 2) = ((x + p.length + 2 : Nat) : Int) := by rw [IntKind.wrap_u64]; have := HBR.out; omega
      have hw4 : IntKind.i64.wrap ((i : Int) + 1) = ((i + 1 : Nat) : Int) := by rw [IntKind.wrap_i64]; have := HNN.out; omega
      obtain ⟨i1, HI1⟩ : ∃ i1, Hid (i + 1 = i1) := ⟨_, hide rfl⟩
      rw [HI1.out] at hw4
      obtain ⟨y, HY⟩ : ∃ y, Hid (x + p.length + 2 = y) := ⟨_, hide rfl⟩
      rw [HY.out] at hw3
      have HWS := hide (And.intro hw1 (And.intro hw2 (And.intro hw3 hw4)))
      clear hv hnd hr hcell hin
      by_cases hxe : x < en
      · have hxi : (x : Int) < (en : Int) := by omega
        have HKI : Hid (K[i]? = some (x, p) ∧ i < ne) := hide (by
          have h1 := HRI.out
          rw [HRE.out, HHL.out] at h1
          rcases Nat.lt_or_ge i K.length with h2 | h2
          · rw [List.getElem?_append_left h2] at h1
            exact ⟨h1, by rw [← HNE.out]; exact h2⟩
          · rw [List.getElem?_append_right h2] at h1
            have h3 := HHQ.out (x, p) (List.mem_of_getElem? h1)
            omega)
        obtain ⟨Av, cv, hvs⟩ := HVS.out
        obtain ⟨v5, w5, hrun, hrs5, hg5, hn5, A5, d5, hv5⟩ := run_pushR wr 30 w.heap.size u7 (K.take i) (x, p) HRS.out HX.out.size (by rw [List.length_take]; have := HNN.out; rw [HNE.out]; omega)
        subst hv5
        have HRS5 : Hid (RecS w5 w.heap.size (.slice A5 ((K.take i).length + 1) d5) (K.take (i + 1))) := hide (by rw [← take_push K i (x, p) HKI.out.1]; exact hrs5)
        have HX5 : Hid (Ext w w5) := hide ⟨hg5.os.trans HX.out.os, hg5.tape.trans HX.out.tape, hg5.output.trans HX.out.output, Nat.le_trans HX.out.size hg5.size, fun k hk => (hg5.block k (Nat.lt_of_lt_of_le hk HX.out.size) (fun e => by have := (HRS.out.lt k e.symm).1; omega)).trans (Below.block HX.out k hk)⟩
        have HVS5 : Hid (∃ A c, Value.slice A5 ((K.take i).length + 1) d5 = .slice A (K.take (i + 1)).length c) := hide ⟨A5, d5, by rw [← take_push K i (x, p) HKI.out.1, List.length_append]; rfl⟩
        obtain ⟨vn, HVN⟩ : ∃ vn, Hid (Value.slice A5 ((K.take i).length + 1) d5 = vn) := ⟨_, hide rfl⟩
        rw [HVN.out] at HRS5 HVS5 hrun
        have HRUN := hide hrun
        clear hrs5 hg5 hn5 hvs hrun
        go_upto_region 11 with ((with_reducible show wpList _ _ _ (⟨some 77, _, _, _, _, _⟩ :: _) _ _); refine wpList_gives (gives_append (s := .tmp 68) (x := .tmp 76) rfl (by rfl) (by rfl) HRUN.out ⟨rfl, rfl⟩) rfl ?_)
        rw [HI1.out] at HRS5 HVS5
        have HRS6 := HRS5
        have HVS6 := HVS5
        obtain ⟨d0, d1, d2⟩ := HCL.out w5 HX5.out
        cases bo with
        | true =>
          go_quiet (fail)
          obtain ⟨wz, hwz⟩ : ∃ wz, w5.drewN nq = wz := ⟨_, rfl⟩
          have HXZ : Hid (Ext w5 wz) := hide (by rw [← hwz]; exact (Ext.refl _).drewN _)
          rw [hwz]
          clear hwz d0 d1 d2
          go_wp2
          refine ⟨⟨i1, true, _, rfl, rfl, rfl, hide (by have := HI1.out; have := HIN.out; omega), hide (HX5.out.trans HXZ.out), hide (HRS6.out.ext HXZ.out), HVS6, hide (fun _ => rfl), hide (fun _ _ _ _ _ => rfl)⟩, ?_⟩
          show n - ((i1 : Nat) : Int).toNat < n - ((i : Nat) : Int).toNat
          have := HI1.out
          have := HIN.out
          omega
        | false =>
          by_cases hye : y = en
          · have hyi : ((y : Int) == (en : Int)) = true := by simp [hye]
            have HYE := hide hye
            clear hye
            go_quiet (fail)
            obtain ⟨wz, hwz⟩ : ∃ wz, w5.drewN nq = wz := ⟨_, rfl⟩
            have HXZ : Hid (Ext w5 wz) := hide (by rw [← hwz]; exact (Ext.refl _).drewN _)
            rw [hwz]
            clear hwz d0 d1 d2
            go_wp2
            refine ⟨⟨i1, true, _, rfl, rfl, rfl, hide (by have := HI1.out; have := HIN.out; omega), hide (HX5.out.trans HXZ.out), hide (HRS6.out.ext HXZ.out), HVS6, hide (fun _ => rfl), hide (fun _ _ _ _ _ => rfl)⟩, ?_⟩
            show n - ((i1 : Nat) : Int).toNat < n - ((i : Nat) : Int).toNat
            have := HI1.out
            have := HIN.out
            omega
          · have hyi : ((y : Int) == (en : Int)) = false := by simp; omega
            have HYE := hide hye
            clear hye
            go_quiet (fail)
            obtain ⟨wz, hwz⟩ : ∃ wz, w5.drewN nq = wz := ⟨_, rfl⟩
            have HXZ : Hid (Ext w5 wz) := hide (by rw [← hwz]; exact (Ext.refl _).drewN _)
            rw [hwz]
            clear hwz d0 d1 d2
            go_wp2
            refine ⟨⟨i1, false, _, rfl, rfl, rfl, hide (by have := HI1.out; have := HIN.out; omega), hide (HX5.out.trans HXZ.out), hide (HRS6.out.ext HXZ.out), HVS6, HBE, hide (fun j r hj hjr he => ?_)⟩, ?_⟩
            · rcases Nat.lt_or_ge j i with h5 | h5
              · exact HBJ.out j r h5 hjr he
              · have h6 : j = i := by have := HI1.out; omega
                subst h6
                rw [HKI.out.1] at hjr
                obtain rfl := Option.some.inj hjr
                exact absurd (by have := HY.out; simp only at he; omega) HYE.out
            · show n - ((i1 : Nat) : Int).toNat < n - ((i : Nat) : Int).toNat
              have := HI1.out
              have := HIN.out
              omega
      · have hxi : ¬ (x : Int) < (en : Int) := by omega
        have HNI : Hid (ne ≤ i) := hide (by
          have h1 := HRI.out
          rw [HRE.out, HHL.out] at h1
          rcases Nat.lt_or_ge i K.length with h2 | h2
          · rw [List.getElem?_append_left h2] at h1
            have h3 := HHK.out (x, p) (List.mem_of_getElem? h1)
            simp only at h3
            omega
          · rw [← HNE.out]; exact h2)
        have HTK : Hid (K.take i1 = K.take i) := hide (by
          have := HNI.out
          have := HNE.out
          have := HI1.out
          rw [List.take_of_length_le (by omega), List.take_of_length_le (by omega)])
        have HRS6 : Hid (RecS wr w.heap.size u7 (K.take i1)) := hide (by rw [HTK.out]; exact HRS.out)
        have HVS6 : Hid (∃ A c, u7 = .slice A (K.take i1).length c) := hide (by rw [HTK.out]; exact HVS.out)
        clear HTK
        go_wp2
        refine ⟨⟨i1, bo, _, rfl, rfl, rfl, hide (by have := HI1.out; have := HIN.out; omega), HX, HRS6, HVS6, HBE, hide (fun j r hj hjr he => ?_)⟩, ?_⟩
        · rcases Nat.lt_or_ge j i with h5 | h5
          · exact HBJ.out j r h5 hjr he
          · have h7 := (List.getElem?_eq_some_iff.1 hjr).1
            have := HNI.out
            have := HNE.out
            omega
        · show n - ((i1 : Nat) : Int).toNat < n - ((i : Nat) : Int).toNat
          have := HI1.out
          have := HIN.out
          omega
    · have hki : ¬ (i : Int) < (n : Int) := by omega
      rw [HV0.out] at b0
      have HIN : Hid (i = n) := hide (by have := HI.out; omega)
      have HTK : Hid (K.take i = K) := hide (List.take_of_length_le (by have := HIN.out; have := HNN.out; have := HNE.out; omega))
      have hbo : bo = true := by
        rcases HEND.out with h1 | ⟨j, r, h1, h2⟩
        · exact HBE.out h1
        · refine HBJ.out j r ?_ h1 h2
          have h3 := (List.getElem?_eq_some_iff.1 h1).1
          have := HIN.out
          have := HNN.out
          have := HNE.out
          omega
      subst hbo
      have f0 := HMR.out.blk.frozen 0
      have f1 := HMR.out.blk.frozen 1
      have f2 := HMR.out.blk.frozen 2
      have b1 := HMR.out.cells.2.1
      have b2 := HMR.out.cells.2.2.1
      obtain ⟨Av, cv, hvs⟩ := HVS.out
      rw [HTK.out] at HRS hvs
      subst hvs
      have HKL : Hid (K.length = ne) := HNE
      have HPM := hide ((((HMR.out.putL (.slice Av K.length cv) K (HRS.out.low HL.out.ext.size) (fun e => by have := (HRS.out.lt gm e).1; have := HM.out.blk.lt; omega)).put 1 (.int .u64 (en : Int)) { M with l := K, en := en } rfl rfl).put 2 (.int .u64 (en : Int)) { M with l := K, en := en, su := en } rfl rfl))
      have HFM : Hid (Mfr gm vl w (((wr.setCell ⟨gm, 0, none⟩ (.slice Av K.length cv)).setCell ⟨gm, 1, none⟩ (.int .u64 (en : Int))).setCell ⟨gm, 2, none⟩ (.int .u64 (en : Int)))) := hide ((((Mfr.ext HX.out).trans (Mfr.cell 0 _) (.inl rfl)).trans (Mfr.cell 1 _) (.inl rfl)).trans (Mfr.cell 2 _) (.inl rfl))
      go_upto_region 15 with fail
      clear b0 b1 b2 f0 f1 f2
      obtain ⟨w3, hw3⟩ : ∃ w3, (((wr.setCell ⟨gm, 0, none⟩ (.slice Av K.length cv)).setCell ⟨gm, 1, none⟩ (.int .u64 (en : Int))).setCell ⟨gm, 2, none⟩ (.int .u64 (en : Int))) = w3 := ⟨_, rfl⟩
      rw [hw3] at HPM HFM ⊢
      clear hw3
      have HL3 : Hid (LgAt w0 w3 X D L) := hide (HL.out.mfr HM.out HFM.out)
      have KC := hide (lcheck_any HL3.out)
      obtain ⟨ck, HCK⟩ : ∃ ck, Hid (L.hd.ck = ck) := ⟨_, hide rfl⟩
      rw [HCK.out] at KC HMI
      have f4 := HPM.out.blk.frozen 4
      have f5 := HPM.out.blk.frozen 5
      have b4 := HPM.out.cells.2.2.2.2.1
      have b5 := HPM.out.cells.2.2.2.2.2.1
      have HPN := hide ((HPM.out.put 4 (.int .u64 (ck : Int)) { M with l := K, en := en, su := en, ck := ck } rfl rfl).put 5 (.int .i64 0) (backM M K en ck) rfl rfl)
      have HFN : Hid (Mfr gm vl w ((w3.setCell ⟨gm, 4, none⟩ (.int .u64 (ck : Int))).setCell ⟨gm, 5, none⟩ (.int .i64 0))) := hide ((HFM.out.trans (Mfr.cell 4 _) (.inl rfl)).trans (Mfr.cell 5 _) (.inl rfl))
      go_upto_region 17 with (go_at_call 28; (with_reducible refine KC.out.mono ?_); rintro e w4 ⟨rfl, rfl⟩)
      clear f4 f5 b4 b5
      obtain ⟨w5, hw5⟩ : ∃ w5, ((w3.setCell ⟨gm, 4, none⟩ (.int .u64 (ck : Int))).setCell ⟨gm, 5, none⟩ (.int .i64 0)) = w5 := ⟨_, rfl⟩
      rw [hw5] at HPN HFN ⊢
      clear hw5
      have KAL := hide (all_gen (HL.out.mfr HM.out HFN.out) HPN.out HMI.out HT.out)
      have HBM : Hid (∀ W, Ext w5 W → MdAt W w0.heap.size gm (.slice Av K.length cv) (backM M K en ck)) := hide (fun W hW => HPN.out.ext hW)
      go_wp2_with (go_at_call 33; (with_reducible refine KAL.out.mono ?_); rintro e w6 ⟨rfl, hx6⟩; have HX6 := hide hx6; clear hx6)
      go_ret
      rw [HCK.out]
      exact ⟨rfl, _, HBM.out _ HX6.out, HFN.out.trans (Mfr.ext HX6.out) (.inl rfl)⟩
end
end Go.Proofs.YtdifpbicdicggaaDoor
namespace Go.Proofs.YtdifpbicdicggaaDoor
open Go.RowKit

/-- Blocks of other kinds stay. -/
def Kept (w w' : World) : Prop := ∀ (b : Nat) (t : TypeId) (vs : List Value), Rw w b t vs → t ≠ 75 → t ≠ 71 → t ≠ 86 → t ≠ 3 → t ≠ 88 → t ≠ 5 → t ≠ 32 → t ≠ 63 → Rw w' b t vs
theorem Kept.ext {w w' : World} (h : Ext w w') : Kept w w' := fun _ _ _ hr _ _ _ _ _ _ _ _ => hr.ext h
theorem Kept.trans {w w' w'' : World} (h : Kept w w') (k : Kept w' w'') : Kept w w'' := fun b t vs hr h1 h2 h3 h4 h5 h6 h7 h8 => k b t vs (h b t vs hr h1 h2 h3 h4 h5 h6 h7 h8) h1 h2 h3 h4 h5 h6 h7 h8
section
variable {w0 w w' w1 : World} {X : Bk} {D D' : Dk} {L L' : Lg} {B gm : Nat} {vl : Value} {M : Md} {H : List UInt8} {rs rsS rsM : List (List UInt8)} {lo : List (Nat × List UInt8)} {c n o b : Nat}
theorem Kept.lfr (h : LgAt w0 w X D L) (hf : Lfr X w w') : Kept w w' := fun b t vs hr h1 h2 h3 h4 h5 h6 _ _ => (hf.other b hr.lt (h.not_has hr h1 h2 h3 h4 h5 h6)).trans hr
theorem Kept.mfr (h : MdAt w B gm vl M) (hf : Mfr gm vl w w') : Kept w w' := fun b t vs hr _ _ _ _ _ _ h7 h8 => (hf.other b hr.lt (hr.apart h.blk h7) (fun e => by
  obtain ⟨us, hu⟩ := h.recs.row b e
  exact hr.apart hu h8 rfl)).trans hr
theorem Kept.dfr (h : LgAt w0 w X D L) (hf : Dfr X.g X.gd X.gn X.A w w') : Kept w w' := fun b t vs hr h1 h2 h3 h4 h5 h6 _ _ => by
  have hn := h.not_has hr h1 h2 h3 h4 h5 h6
  exact (hf.other b hr.lt (fun e => hn (.inr (.inl e))) (fun e => hn (.inr (.inr (.inl e)))) (fun e => hn (.inr (.inr (.inr (.inl e))))) (fun a ha e => hn (.inr (.inr (.inr (.inr (.inl ⟨a, ha, e⟩))))))).trans hr
theorem LgAt.hasGe (h : LgAt w0 w X D L) {k : Nat} (hk : X.has k) : w0.heap.size ≤ k := by
  rcases hk with rfl | rfl | rfl | rfl | ⟨a, ha, rfl⟩ | hk
  · exact h.base
  · exact h.disk.base.1
  · exact h.disk.base.2.1
  · exact h.disk.base.2.2
  · exact (own_base h.disk.pen a ha).1
  · exact (own_block h.tail k hk).1
theorem append_empty {X : Bk} {W : World} (P : Option Addr) (c : Nat) : Calls Tryd.prog 23 #[.pointer (some ⟨X.q, 0, none⟩), .slice P 0 c, .int .i64 0] W (Same W (.tuple #[.int .u64 0, .int .i64 1])) := by
  go_enter Tryd.func23, Tryd.ntmps23
  go_wp2
  go_ret2
  exact ⟨rfl, rfl⟩
/-- What add leaves. -/
def AddPost (w0 w : World) (X : Bk) (D : Dk) (L : Lg) (gm : Nat) (M : Md) (p : List UInt8) (e : Ending) (w' : World) : Prop :=
  ∃ X' vl', e = .returned (.bool true) ∧ X'.q = X.q ∧ X'.g = X.g ∧ Kept w w' ∧ (wantE M p.length = 0 ∧ LgAt w0 w' X' D (apL L p 0) ∧ MdAt w' w0.heap.size gm vl' (appM M p) ∨ wantE M p.length ≠ 0 ∧ LgAt w0 w' X' D L ∧ MdAt w' w0.heap.size gm vl' M)
set_option maxRecDepth 20000 in
set_option maxHeartbeats 3200000 in
theorem madd_any (h : LgAt w0 w X D L) (hm : MdAt w w0.heap.size gm vl M) (cb : Cb D L H M lo rsS rsM c n o b) (hon : D.off = false) (hn1 : n < 1000) (P : Option Addr) (cp np : Nat) (p : List UInt8) (hr : Rd w0 P p) (hnp : p.length = np) (hlp : np ≤ 140737488351232) (N : Int) (K : Value) :
    Calls Tryd.prog 10 #[.pointer (some ⟨gm, 0, none⟩), .pointer (some ⟨X.q, 0, none⟩), .agg #[.int .u8 0, .slice P np cp, .int .i64 N, .int .i64 0, K]] w (AddPost w0 w X D L gm M p) := by
  have HL := hide h
  have HM := hide hm
  have HR := hide hr
  have HNP := hide hnp
  obtain ⟨a1, a2⟩ := cb.app hon hn1 p
  have rg := cb.on hon
  have hst := rg.st
  have hsu := rg.sure
  have hbg := rg.big
  have hP : np ≠ 0 → ∀ a, P = some a → ¬ X.has a.block ∧ a.block < w.heap.size := fun hne a ha => by
    obtain ⟨bb, off, e1, hc⟩ := hr (by intro e; rw [e] at hnp; exact hne hnp.symm)
    rw [ha] at e1
    obtain rfl := Option.some.inj e1
    obtain ⟨u, hu⟩ : ∃ u, p[0]? = some u := ⟨_, List.getElem?_eq_getElem (by omega)⟩
    have h1 : bb < w0.heap.size := World.block_lt_of_cell? w0 _ (hc 0 u hu)
    exact ⟨fun hh => by have := h.hasGe hh; show False; simp only at this; omega, Nat.lt_of_lt_of_le h1 h.ext.size⟩
  have KAP : Hid (np ≠ 0 → ∀ W, Ext w W → Calls Tryd.prog 23 #[.pointer (some ⟨X.q, 0, none⟩), .slice P np cp, .int .i64 0] W (LPost w0 W X (apR L p 0) D (apL L p 0))) := hide (fun hne W hW => append_any (h.ext_ hW) rg.ok (by omega) P cp np p 0 (hr.ext (h.ext.trans hW)) hnp (by omega) (fun a ha => ⟨(hP hne a ha).1, Nat.lt_of_lt_of_le (hP hne a ha).2 hW.size⟩) (by have := cb.tail hon; omega) (by decide))
  have KRM : Hid (∀ W, Ext w W → Calls Tryd.prog 13 #[.pointer (some ⟨gm, 0, none⟩)] W (fun e w' => e = .returned (.int .i64 (mRoom M)) ∧ ∃ m, w' = W.drewN m)) := hide (fun W hW => mroom_any (hm.ext hW) (by rw [cb.st]; omega) (by rw [cb.cn]; have := cb.c4; omega) (by rw [cb.st, cb.cn, cb.en]; exact cb.ring) (by rw [cb.hl]; decide))
  have HRB : Hid (0 ≤ mRoom M ∧ mRoom M < 1000000000000000) := hide (by
    have h1 := cb.ring
    have h2 := cb.c4
    unfold mRoom
    rw [cb.st, cb.cn, cb.en, cb.hl]
    omega)
  obtain ⟨ro, HRO⟩ : ∃ ro, Hid (mRoom M = ro) := ⟨_, hide rfl⟩
  have HW : Hid (wantE M p.length = if np = 0 then 1 else if 1200 < np then 2 else if ro < ((np + 2 : Nat) : Int) then 9 else 0) := hide (by unfold wantE; rw [hnp, HRO.out])
  have HAR : Hid (apR L p 0 = .tuple #[.int .u64 (if wantE M p.length = 0 then (endOf L : Int) else 0), .int .i64 (wantE M p.length)]) := hide (by unfold apR; rw [a1])
  have HAL : Hid (wantE M p.length ≠ 0 → apL L p 0 = L) := hide (fun hw => by unfold apL; rw [a1, if_neg hw])
  rw [HRO.out] at KRM HRB
  obtain ⟨we, HWE⟩ : ∃ we, Hid (wantE M p.length = we) := ⟨_, hide rfl⟩
  rw [HWE.out] at HW HAR HAL
  unfold AddPost
  rw [HWE.out]
  rw [HAR.out] at KAP
  have HLE := hide hlp
  have hw1 : IntKind.i64.wrap ((np : Int) + 2) = ((np + 2 : Nat) : Int) := by rw [IntKind.wrap_i64]; omega
  have hz1 : ¬ ro < 0 := by have := HRB.out; omega
  have hz2 : IntKind.i64.wrap (ro - 0) = ro := by rw [IntKind.wrap_i64]; have := HRB.out; omega
  have hz3 : ro - 0 = ro := by omega
  have hz4 : IntKind.i64.wrap ro = ro := by rw [IntKind.wrap_i64]; have := HRB.out; omega
  obtain ⟨n2, HN2⟩ : ∃ n2 : Nat, Hid (np + 2 = n2) := ⟨_, hide rfl⟩
  rw [HN2.out] at hw1 HW
  have HMH : Hid (M.hl = 0) := hide cb.hl
  have HCB : Hid (M.l.length ≤ 1000 ∧ M.en < 1000000000000 ∧ M.en = endOf L) := hide (by have := cb.num; rw [cb.en, rg.end_]; omega)
  clear h hm hP hr hnp a1 a2 rg hst hsu hbg cb
  by_cases hz : np = 0
  · have hwe : we = 1 := by rw [HW.out, if_pos hz]
    have KA0 := hide (fun (W : World) (hW : Ext w W) => (append_empty (X := X) (W := W) P cp))
    have hzi : ((np : Int) == 0) = true := by simp [hz]
    clear hlp
    subst hwe
    have hz2 : ((0 : Nat) : Int) = 0 := rfl
    subst hz
    have HXA : Hid (Ext w (w.alloc (.cells #[.int .u8 0, .slice P 0 cp, .int .i64 N, .int .i64 0, K] 36))) := hide (Ext.alloc _ _)
    go_enter Tryd.func10, Tryd.ntmps10
    go_wp2_with (go_at_call 23; (with_reducible refine (KA0.out _ HXA.out).mono ?_); rintro e w4 ⟨rfl, rfl⟩)
    go_ret
    exact ⟨X, vl, rfl, rfl, rfl, Kept.ext HXA.out, .inr ⟨by decide, HL.out.ext_ HXA.out, HM.out.ext HXA.out⟩⟩
  have hzi : ((np : Int) == 0) = false := by simp; omega
  have hz0 : np ≠ 0 := hz
  rw [if_neg hz] at HW
  by_cases hb : 1200 < np
  · have hwe : we = 2 := by rw [HW.out, if_pos hb]
    have hbi : (1200 : Int) < (np : Int) := by omega
    clear hlp hz
    subst hwe
    replace KAP := hide (KAP.out hz0)
    rw [if_neg (by decide)] at KAP
    rw [HAL.out (by decide)] at KAP
    have HXA : Hid (Ext w (w.alloc (.cells #[.int .u8 0, .slice P np cp, .int .i64 N, .int .i64 0, K] 36))) := hide (Ext.alloc _ _)
    go_enter Tryd.func10, Tryd.ntmps10
    go_upto_region 16 with (go_at_call 23; (with_reducible refine (KAP.out _ HXA.out).mono ?_); rintro e w4 ⟨X4, rfl, hl4, hf4, hn4⟩; have HL4 := hide hl4; have HQ4 : Hid (X4.q = X.q ∧ X4.g = X.g) := hide ⟨hn4.q, hn4.g⟩; clear hl4 hn4)
    have HX9 := HXA
    have HMW : Hid (MdAt w4 w0.heap.size gm vl M) := hide ((HM.out.ext HX9.out).lfr (HL.out.ext_ HX9.out) hf4)
    have HKW : Hid (Kept w w4) := hide ((Kept.ext HX9.out).trans (Kept.lfr (HL.out.ext_ HX9.out) hf4))
    clear hf4
    go_wp2
    go_ret
    exact ⟨X4, vl, rfl, HQ4.out.1, HQ4.out.2, HKW.out, .inr ⟨by decide, HL4.out, HMW.out⟩⟩
  have hbi : ¬ (1200 : Int) < (np : Int) := by omega
  rw [if_neg hb] at HW
  by_cases hf : ro < ((n2 : Nat) : Int)
  · have hwe : we = 9 := by rw [HW.out, if_pos hf]
    clear hlp hz hb
    subst hwe
    replace KAP := hide (KAP.out hz0)
    rw [if_neg (by decide)] at KAP
    rw [HAL.out (by decide)] at KAP
    have HXA : Hid (Ext w (w.alloc (.cells #[.int .u8 0, .slice P np cp, .int .i64 N, .int .i64 0, K] 36))) := hide (Ext.alloc _ _)
    go_enter Tryd.func10, Tryd.ntmps10
    go_upto_region 9 with fail
    go_quiet ((go_at_call 13; exact Calls.quiet_of (KRM.out _ (HXA.out.drewN _))))
    obtain ⟨wq, hwq⟩ : ∃ wq, (w.alloc (.cells #[.int .u8 0, .slice P np cp, .int .i64 N, .int .i64 0, K] 36)).drewN nq = wq := ⟨_, rfl⟩
    have HX9 : Hid (Ext w wq) := hide (by rw [← hwq]; exact HXA.out.drewN _)
    rw [hwq]
    have HBQ : Hid (Rw wq w.heap.size 36 [.int .u8 0, .slice P np cp, .int .i64 N, .int .i64 0, K]) := hide (by
      have h9 := (Rw.new w 36 [.int .u8 0, .slice P np cp, .int .i64 N, .int .i64 0, K]).ext ((Ext.refl (w.alloc (.cells #[.int .u8 0, .slice P np cp, .int .i64 N, .int .i64 0, K] 36))).drewN nq)
      rw [hwq] at h9
      exact h9)
    clear hwq
    have e1 := HBQ.out.cell (i := 1) rfl
    have e3 := HBQ.out.cell (i := 3) rfl
    go_upto_region 16 with (go_at_call 23; (with_reducible refine (KAP.out _ HX9.out).mono ?_); rintro e w4 ⟨X4, rfl, hl4, hf4, hn4⟩; have HL4 := hide hl4; have HQ4 : Hid (X4.q = X.q ∧ X4.g = X.g) := hide ⟨hn4.q, hn4.g⟩; clear hl4 hn4)
    clear e1 e3
    have HMW : Hid (MdAt w4 w0.heap.size gm vl M) := hide ((HM.out.ext HX9.out).lfr (HL.out.ext_ HX9.out) hf4)
    have HKW : Hid (Kept w w4) := hide ((Kept.ext HX9.out).trans (Kept.lfr (HL.out.ext_ HX9.out) hf4))
    clear hf4
    go_wp2
    go_ret
    exact ⟨X4, vl, rfl, HQ4.out.1, HQ4.out.2, HKW.out, .inr ⟨by decide, HL4.out, HMW.out⟩⟩
  have hwe : we = 0 := by rw [HW.out, if_neg hf]
  subst hwe
  replace KAP := hide (KAP.out hz0)
  rw [if_pos rfl] at KAP
  have HXA : Hid (Ext w (w.alloc (.cells #[.int .u8 0, .slice P np cp, .int .i64 N, .int .i64 0, K] 36))) := hide (Ext.alloc _ _)
  have HNB : Hid (np ≤ 1200) := hide (by omega)
  rw [← HCB.out.2.2] at KAP
  obtain ⟨me, HME⟩ : ∃ me, Hid (M.en = me) := ⟨_, hide rfl⟩
  rw [HME.out] at KAP
  have KPU : Hid (∀ W, MdAt W w0.heap.size gm vl M → Rd W P p → w0.heap.size ≤ W.heap.size → Calls Tryd.prog 31 #[.pointer (some ⟨gm, 0, none⟩), .slice P np cp] W (fun e w' => ∃ vl', e = .returned (.int .u64 (me : Int)) ∧ MdAt w' w0.heap.size gm vl' (appM M p) ∧ Mfr gm vl W w')) := hide (fun W h1 h2 h3 => by
    have k := put_any h1 P cp np p h2 HNP.out HNB.out HCB.out.1 HCB.out.2.1 h3
    refine k.mono fun e w' hh => ?_
    obtain ⟨v', e1, e2, e3, -⟩ := hh
    refine ⟨v', by rw [e1, HME.out], ?_, e3⟩
    unfold appM
    rw [HNP.out]
    exact e2)
  clear hlp hz hb
  go_enter Tryd.func10, Tryd.ntmps10
  go_upto_region 9 with fail
  go_quiet ((go_at_call 13; exact Calls.quiet_of (KRM.out _ (HXA.out.drewN _))))
  obtain ⟨wq, hwq⟩ : ∃ wq, (w.alloc (.cells #[.int .u8 0, .slice P np cp, .int .i64 N, .int .i64 0, K] 36)).drewN nq = wq := ⟨_, rfl⟩
  have HX9 : Hid (Ext w wq) := hide (by rw [← hwq]; exact HXA.out.drewN _)
  rw [hwq]
  have HBQ : Hid (Rw wq w.heap.size 36 [.int .u8 0, .slice P np cp, .int .i64 N, .int .i64 0, K]) := hide (by
    have h9 := (Rw.new w 36 [.int .u8 0, .slice P np cp, .int .i64 N, .int .i64 0, K]).ext ((Ext.refl (w.alloc (.cells #[.int .u8 0, .slice P np cp, .int .i64 N, .int .i64 0, K] 36))).drewN nq)
    rw [hwq] at h9
    exact h9)
  clear hwq
  have e1 := HBQ.out.cell (i := 1) rfl
  have e3 := HBQ.out.cell (i := 3) rfl
  go_upto_region 20 with (go_at_call 23; (with_reducible refine (KAP.out _ HX9.out).mono ?_); rintro e w4 ⟨X4, rfl, hl4, hf4, hn4⟩; have HL4 := hide hl4; have HQ4 : Hid (X4.q = X.q ∧ X4.g = X.g) := hide ⟨hn4.q, hn4.g⟩; clear hl4 hn4)
  clear e1 e3
  have HM4 : Hid (MdAt w4 w0.heap.size gm vl M) := hide ((HM.out.ext HX9.out).lfr (HL.out.ext_ HX9.out) hf4)
  have HK4 : Hid (Kept w w4) := hide ((Kept.ext HX9.out).trans (Kept.lfr (HL.out.ext_ HX9.out) hf4))
  have HB4 : Hid (Rw w4 w.heap.size 36 [.int .u8 0, .slice P np cp, .int .i64 N, .int .i64 0, K]) := hide (Kept.lfr (HL.out.ext_ HX9.out) hf4 _ _ _ HBQ.out (by decide) (by decide) (by decide) (by decide) (by decide) (by decide) (by decide) (by decide))
  clear hf4
  have c5 := HM4.out.cells.2.2.2.2.2.1
  rw [HMH.out] at c5
  have f5 := HM4.out.blk.frozen 5
  have e3 := HB4.out.cell (i := 3) rfl
  go_cut [] from 107 to 116 (fun wx => Hid (Mfr gm vl w4 wx ∧ MdAt wx w0.heap.size gm vl M ∧ Rw wx w.heap.size 36 [.int .u8 0, .slice P np cp, .int .i64 N, .int .i64 0, K]))
  case first =>
    go_region
    all_goals (go_wp2_with fail; go_meet)
    all_goals
      refine hide ⟨?_, ?_, ?_⟩
      · exact (Mfr.ext (Ext.drew _)).trans (Mfr.cell 5 _) (.inl rfl)
      · exact (HM4.out.ext (Ext.drew _)).put 5 _ M rfl (by unfold mdC; rw [HMH.out]; rfl)
      · exact (Kept.mfr HM4.out ((Mfr.ext (Ext.drew _)).trans (Mfr.cell 5 _) (.inl rfl))) _ _ _ HB4.out (by decide) (by decide) (by decide) (by decide) (by decide) (by decide) (by decide) (by decide)
  case rest =>
  obtain ⟨wx, HWXE⟩ : ∃ wx, wx = wc := ⟨_, rfl⟩
  subst HWXE
  clear c5 f5 e3
  have HL5 : Hid (LgAt w0 wx X4 D (apL L p 0)) := hide (HL4.out.mfr HM4.out hcut.out.1)
  have HR5 : Hid (Rd wx P p) := hide (HR.out.ext HL5.out.ext)
  have KP5 := hide (KPU.out wx hcut.out.2.1 HR5.out HL5.out.ext.size)
  have e1 := hcut.out.2.2.cell (i := 1) rfl
  have HKX : Hid (Kept w wx) := hide (HK4.out.trans (Kept.mfr HM4.out hcut.out.1))
  have hme : ((me : Int) == (me : Int)) = true := by simp
  go_wp2_with (go_at_call 31; (with_reducible refine KP5.out.mono ?_); rintro e w7 ⟨vl7, rfl, hm7, hf7⟩; have HM7 := hide hm7; have HL7 : Hid (LgAt w0 w7 X4 D (apL L p 0)) := hide (HL5.out.mfr hcut.out.2.1 hf7); have HK7 : Hid (Kept w w7) := hide (HKX.out.trans (Kept.mfr hcut.out.2.1 hf7)); clear hm7 hf7)
  go_ret
  exact ⟨X4, vl7, rfl, HQ4.out.1, HQ4.out.2, HK7.out, .inl ⟨by first | trivial | rfl, HL7.out, HM7.out⟩⟩
end
end Go.Proofs.YtdifpbicdicggaaDoor
namespace Go.Proofs.YtdifpbicdicggaaDoor
open Go.RowKit

theorem plc_ge : ∀ (rs : List (List UInt8)) (a : Nat), ∀ r ∈ plc a rs, a ≤ r.1 := fun rs a r hr => by
  obtain ⟨j, hj⟩ := List.mem_iff_getElem?.1 hr
  obtain ⟨pre, post, e1, e2, e3⟩ := plc_get rs a j r hj
  omega
theorem plc_end : ∀ (rs : List (List UInt8)) (a : Nat), ∀ r ∈ plc a rs, r.1 + r.2.length + 2 ≤ a + (recsB rs).length := fun rs a r hr => by
  obtain ⟨j, hj⟩ := List.mem_iff_getElem?.1 hr
  obtain ⟨pre, post, e1, e2, e3⟩ := plc_get rs a j r hj
  rw [e1, recsB_app, recsB_cons, List.length_append, List.length_append, frm_len]
  omega
theorem plc_mem : ∀ (rs : List (List UInt8)) (a : Nat), ∀ r ∈ plc a rs, r.2 ∈ rs := fun rs a r hr => by
  obtain ⟨j, hj⟩ := List.mem_iff_getElem?.1 hr
  obtain ⟨pre, post, e1, e2, e3⟩ := plc_get rs a j r hj
  rw [e1]
  simp
section
variable {D D3 : Dk} {L L3 : Lg} {H S : List UInt8} {M : Md} {lo : List (Nat × List UInt8)} {rsS rsM pre post : List (List UInt8)} {c n o b o' b' : Nat}
theorem Cb.behind (h : Cb D L H M lo rsS rsM c n o b) (hp : rsM = pre ++ post) (cb : Cb D3 L3 (H.take (L.sure + (recsB pre).length)) (backM M (lo ++ plc L.hd.fi (rsS ++ pre)) (L.sure + (recsB pre).length) L3.hd.ck) lo (rsS ++ pre) [] c n o' b') (hon : D3.off = false) (hst : L3.hd.st = L.hd.st) (hsu : L3.sure = (H.take (L.sure + (recsB pre).length)).length) :
    Mil D3 L3 (H.take (L.sure + (recsB pre).length)) (backM M (lo ++ plc L.hd.fi (rsS ++ pre)) (L.sure + (recsB pre).length) L3.hd.ck) lo (rsS ++ pre) ∧
    M.l = (lo ++ plc L.hd.fi (rsS ++ pre)) ++ plc (L.sure + (recsB pre).length) post ∧ (∀ r ∈ lo ++ plc L.hd.fi (rsS ++ pre), r.1 < L.sure + (recsB pre).length) ∧ (∀ r ∈ plc (L.sure + (recsB pre).length) post, L.sure + (recsB pre).length ≤ r.1) ∧
    (∀ r ∈ M.l, r.1 < 1000000000000 ∧ r.2.length ≤ 1200) ∧ (L.sure + (recsB pre).length = L3.hd.st ∨ ∃ (j : Nat) (r : Nat × List UInt8), (lo ++ plc L.hd.fi (rsS ++ pre))[j]? = some r ∧ r.1 + r.2.length + 2 = L.sure + (recsB pre).length) ∧
    M.st = L3.hd.st ∧ L.sure + (recsB pre).length = (H.take (L.sure + (recsB pre).length)).length ∧ L3.sure = L.sure + (recsB pre).length ∧ M.su ≤ L.sure + (recsB pre).length ∧ L.sure + (recsB pre).length ≤ M.en ∧ M.l.length ≤ 100000 := by
  have hsr := h.sr
  have hlt := h.lt
  have hrl : (recsB rsS).length + ((recsB pre).length + (recsB post).length) = H.length - L.hd.fi := by
    rw [← List.length_append, ← recsB_app, ← List.length_append, ← recsB_app, ← hp, ← h.recs, List.length_drop]
  have hel : (H.take (L.sure + (recsB pre).length)).length = L.sure + (recsB pre).length := by rw [List.length_take]; omega
  have hcat : (recsB (rsS ++ pre)).length = (recsB rsS).length + (recsB pre).length := by rw [recsB_app, List.length_append]
  have hl : M.l = (lo ++ plc L.hd.fi (rsS ++ pre)) ++ plc (L.sure + (recsB pre).length) post := by
    rw [h.l, hp, ← List.append_assoc rsS, plc_cat (rsS ++ pre), List.append_assoc, hcat, hsr]
    congr 3
    omega
  have hnum := h.num
  have hfi : L3.hd.fi = L.hd.fi := by rw [(cb.on hon).fs, hst, h.fs]
  refine ⟨⟨cb.on hon, cb.en, cb.st, cb.fs, ?_, cb.old, ?_, ?_, ?_⟩, hl, ?_, plc_ge _ _, ?_, ?_, by rw [hst]; exact h.st, hel.symm, by rw [hsu, hel], by rw [h.su]; omega, by rw [h.en]; omega, by omega⟩
  · have := cb.l
    rw [List.append_nil] at this
    exact this
  · have := cb.recs
    rw [List.append_nil] at this
    exact this
  · have := cb.ok
    rw [List.append_nil] at this
    exact this
  · have := cb.num
    omega
  · intro r hr
    rcases List.mem_append.1 hr with h1 | h1
    · have := (h.old r h1).1
      omega
    · have := plc_end _ _ r h1
      rw [hcat] at this
      omega
  · intro r hr
    rw [h.l] at hr
    rcases List.mem_append.1 hr with h1 | h1
    · have := h.old r h1
      exact ⟨by omega, this.2⟩
    · have h2 := plc_end _ _ r h1
      have h3 := (h.ok r.2 (plc_mem _ _ r h1)).2
      have h4 : (recsB (rsS ++ rsM)).length = H.length - L.hd.fi := by rw [← h.recs, List.length_drop]
      rw [h4] at h2
      exact ⟨by omega, h3⟩
  · rcases List.eq_nil_or_concat (rsS ++ pre) with h1 | ⟨init, p, h1⟩
    · left
      rw [h1] at hcat
      have h2 : (recsB ([] : List (List UInt8))).length = 0 := rfl
      rw [hst, ← h.fs]
      omega
    · right
      have h1 : rsS ++ pre = init ++ [p] := by rw [h1, List.concat_eq_append]
      refine ⟨lo.length + init.length, (L.hd.fi + (recsB init).length, p), ?_, ?_⟩
      · rw [h1, plc_app, List.getElem?_append_right (by omega), Nat.add_sub_cancel_left, List.getElem?_append_right (by rw [plc_len]; exact Nat.le_refl _), plc_len, Nat.sub_self]
        rfl
      · rw [h1, recsB_app, recsB_cons, recsB_nil, List.append_nil, List.length_append, frm_len] at hcat
        show L.hd.fi + (recsB init).length + p.length + 2 = _
        omega
end
theorem RdB.extW {w w' : World} {P : Option Addr} {l : List Bool} (h : RdB w P l) (hx : Ext w w') : RdB w' P l := fun hn => by
  obtain ⟨b, off, e, hc⟩ := h hn
  exact ⟨b, off, e, fun j v hj => (World.cell?_of_block (Below.block hx b (World.block_lt_of_cell? w _ (hc j v hj)))).trans (hc j v hj)⟩
end Go.Proofs.YtdifpbicdicggaaDoor
namespace Go.Proofs.YtdifpbicdicggaaDoor
open Go.RowKit

def lenAt (q : Nat) (w : World) : Nat := match w.cell? ⟨q, 9, none⟩ with
  | some (.slice _ n _) => n
  | _ => 0
section
variable {w0 w : World} {X : Bk} {D : Dk} {L : Lg}
theorem lenAt_is (h : LgAt w0 w X D L) : lenAt X.q w = L.tail.length := by
  obtain ⟨A, c, htv, -, -⟩ := h.tail.bytes
  have c9 := h.blk.cell (i := 9) rfl
  unfold lenAt
  rw [c9, htv]
set_option maxRecDepth 20000 in
set_option maxHeartbeats 3200000 in
theorem logHeld_walk (cn ho nn : Nat) (h1 : cn < 256) (h2 : ho < 65536) (h3 : nn < 256) (hT : Tab w) :
    Calls Tryd.prog 6 #[.int .u8 (cn : Int), .int .u16 (ho : Int), .int .u8 (nn : Int)] w (Ret w (Is (.bool true))) := by
  have KA := hide (fun (W : World) (hW : Ext w W) => awake_any W (hT.ext hW))
  obtain ⟨c, HC⟩ : ∃ c, Hid (4 + cn % 6 = c) := ⟨_, hide rfl⟩
  obtain ⟨hh, HH⟩ : ∃ hh, Hid (3 + ho % 1000 = hh) := ⟨_, hide rfl⟩
  obtain ⟨sz, HS⟩ : ∃ sz, Hid (1 + nn % 200 = sz) := ⟨_, hide rfl⟩
  have HCB : Hid (4 ≤ c ∧ c ≤ 9) := hide (by have := HC.out; omega)
  have HHB : Hid (3 ≤ hh ∧ hh ≤ 1002) := hide (by have := HH.out; omega)
  have HSB : Hid (1 ≤ sz ∧ sz ≤ 200) := hide (by have := HS.out; omega)
  have KF : Hid (∀ W, Ext w W → Calls Tryd.prog 8 #[.int .i64 (c : Int)] W (FrPost c W)) := hide (fun W hW => fresh_any HCB.out.1 (by have := HCB.out.2; omega) (hT.ext hW))
  have hc1 : (4 : Int) + (cn : Int) % 6 = (c : Int) := by have := HC.out; omega
  have hh1 : (3 : Int) + (ho : Int) % 1000 = (hh : Int) := by have := HH.out; omega
  have hs1 : (1 : Int) + (nn : Int) % 200 = (sz : Int) := by have := HS.out; omega
  have hcw : IntKind.i64.wrap (c : Int) = (c : Int) := by rw [IntKind.wrap_i64]; have := HCB.out; omega
  have hhw : IntKind.i64.wrap (hh : Int) = (hh : Int) := by rw [IntKind.wrap_i64]; have := HHB.out; omega
  have hsw : IntKind.i64.wrap (sz : Int) = (sz : Int) := by rw [IntKind.wrap_i64]; have := HSB.out; omega
  have hn1 : IntKind.i64.wrap (cn : Int) = (cn : Int) := by rw [IntKind.wrap_i64]; omega
  have hn2 : IntKind.i64.wrap (ho : Int) = (ho : Int) := by rw [IntKind.wrap_i64]; omega
  have hn3 : IntKind.i64.wrap (nn : Int) = (nn : Int) := by rw [IntKind.wrap_i64]; omega
  have HM50 : Hid (∀ W : World, (Instr.makeSlice 33 (.int .i64 50) (.int .i64 50)).run Tryd.prog W = .ok (.slice (some ⟨W.heap.size, 0, none⟩) 50 50) (mkW 50 W)) := hide (fun W => mkW_run 50 (by decide) W)
  have HT := hide hT
  have HM1 := hide mk1_run
  clear hT h1 h2 h3
  go_enter Tryd.func6, Tryd.ntmps6
  go_upto_region 8 with (first
    | (go_at_call 7; (with_reducible refine (KA.out w (Ext.refl w)).mono ?_); rintro e w1 ⟨rfl, hx1⟩; have HX1 := hide hx1; clear hx1)
    | (go_at_call 8; (with_reducible refine (KF.out w1 HX1.out).mono ?_); rintro e w2 ⟨X1, rfl, hl1⟩; have HL1 := hide hl1; clear hl1))
  obtain ⟨q, HQ⟩ : ∃ q, Hid (X1.q = q) := ⟨_, hide rfl⟩
  rw [HQ.out]
  rw [hL_new] at HL1
  clear hc1 hh1 hcw hhw hn1 hn2
  go_loopw [10] (fun x wr => ∃ (k H : Nat) (T : List UInt8) (X : Bk), x = .int .i64 (k : Int) ∧ Hid (X.q = q) ∧ Hid (LgAt w1 wr X (dk2 (c + 3) 1 c) (hL c T H)) ∧ Hid (T.length + H ≤ 480 * c) ∧ Hid (52 * k ≤ T.length) ∧ Hid (H = 0 ∨ 0 < k)) (fun x _ => 100 - (intOf x).toNat)
  case atStart => exact ⟨0, 0, [], X1, rfl, HQ, HL1, hide (by show 0 + 0 ≤ _; omega), hide (by show 52 * 0 ≤ 0; omega), hide (.inl rfl)⟩
  case round =>
    obtain ⟨k, H, T, X2, rfl, HQ2, HL2, HS2, HK2, HH2⟩ := hrel
    have HKB : Hid (k ≤ 90) := hide (by have h1 := HK2.out; have h2 := HS2.out; have h3 := HCB.out.2; omega)
    have HL2b : Hid (LgAt w1 (mkW 50 wr) X2 (dk2 (c + 3) 1 c) (hL c T H)) := hide (HL2.out.ext_ (mkW_ext 50 wr))
    have hkw : IntKind.i64.wrap ((k : Int) + 1) = ((k + 1 : Nat) : Int) := by rw [IntKind.wrap_i64]; have := HKB.out; omega
    by_cases hfit : T.length + H + 2 + 50 + hh ≤ 480 * c
    · have KAP := hide (held_app HCB.out.1 HCB.out.2 HL2b.out (some ⟨wr.heap.size, 0, none⟩) 50 (List.replicate 50 0) (n := 50) (List.length_replicate ..) hh (mkW_rd 50 wr) (mkW_not HL2.out 50) (by decide) (by decide) hfit)
      rw [HQ2.out] at KAP
      have HFIT := hide hfit
      obtain ⟨v0, HV0⟩ : ∃ v0 : Int, Hid (((480 + T.length : Nat) : Int) = v0) := ⟨_, hide rfl⟩
      rw [HV0.out] at KAP
      have HMS : Hid (100 - (k + 1) < 100 - k) := hide (by have := HKB.out; omega)
      obtain ⟨k1, HK1⟩ : ∃ k1, Hid (k + 1 = k1) := ⟨_, hide rfl⟩
      rw [HK1.out] at hkw
      clear hfit
      go_wp2_with (first
        | ((with_reducible show wpList _ _ _ (⟨some 39, _, _, _, _, _⟩ :: _) _ _); refine wpList_gives (gives_make rfl rfl rfl (HM50.out _) ⟨rfl, rfl⟩) rfl ?_)
        | (go_at_call 23; (with_reducible refine KAP.out.mono ?_); rintro e w3 ⟨X3, rfl, hl3, hf3, hn3⟩; have HL3 := hide hl3; have HQ3 : Hid (X3.q = q) := hide (hn3.q.trans HQ2.out); clear hl3 hf3 hn3))
      refine ⟨⟨k1, H + hh, mT T (List.replicate 50 0), X3, rfl, HQ3, HL3, hide ?_, hide ?_, hide (.inr (by have := HK1.out; omega))⟩, ?_⟩
      · rw [mT_len, List.length_replicate]
        have := HFIT.out
        omega
      · rw [mT_len, List.length_replicate]
        have := HK2.out
        have := HK1.out
        omega
      · show 100 - ((k1 : Int)).toNat < 100 - ((k : Int)).toNat
        have h1 := HMS.out
        rw [HK1.out] at h1
        omega
    · have KAP := hide (held_full HCB.out.1 HCB.out.2 HL2b.out (some ⟨wr.heap.size, 0, none⟩) 50 (List.replicate 50 0) (n := 50) (List.length_replicate ..) hh (mkW_rd 50 wr) (mkW_not HL2.out 50) (by decide) (by decide) (by have := HHB.out; omega) HS2.out hfit)
      rw [HQ2.out] at KAP
      clear hfit hkw
      go_upto_region 13 with (first
        | ((with_reducible show wpList _ _ _ (⟨some 39, _, _, _, _, _⟩ :: _) _ _); refine wpList_gives (gives_make rfl rfl rfl (HM50.out _) ⟨rfl, rfl⟩) rfl ?_)
        | (go_at_call 23; (with_reducible refine KAP.out.mono ?_); rintro e w3 ⟨X3, rfl, hl3, hf3, hn3⟩; have HL3 := hide hl3; have HQ3 : Hid (X3.q = q) := hide (hn3.q.trans HQ2.out); clear hl3 hf3 hn3))
      clear KAP HL2b HL2 HQ2 HK2
      have HW13 : Hid (Ext w3 w3) := hide (Ext.refl _)
      clear HM50 KA KF
      go_loopw [] (fun wr => ∃ (T : List UInt8) (X : Bk), Hid (X.q = q) ∧ Hid (LgAt w1 wr X (dk2 (c + 3) 1 c) (hL c T H)) ∧ Hid (T.length + H ≤ 480 * c)) (fun wr => 5000 - lenAt q wr)
      case atStart => exact ⟨T, X3, HQ3, HL3, HS2⟩
      case round =>
        obtain ⟨T2, X4, HQ4, HL4, HS4⟩ := hrel
        clear HL3 HQ3 HS2 HW13
        have KRM := hide (held_room HCB.out.1 HCB.out.2 HS4.out HL4.out)
        rw [HQ4.out] at KRM
        obtain ⟨rm, HRM⟩ : ∃ rm, Hid (480 * c - T2.length - H = rm) := ⟨_, hide rfl⟩
        rw [HRM.out] at KRM
        by_cases hrm : 3 ≤ rm
        · have hri : (3 : Int) ≤ (rm : Int) := by omega
          have HFIT : Hid (T2.length + H + 2 + 1 + 0 ≤ 480 * c) := hide (by have := HRM.out; have := HS4.out; omega)
          have KAP : Hid (∀ W, LgAt w1 W X4 (dk2 (c + 3) 1 c) (hL c T2 H) → Calls Tryd.prog 23 #[.pointer (some ⟨q, 0, none⟩), .slice (some ⟨W.heap.size, 0, none⟩) 1 1, .int .i64 0] (mk1 W) (LPost w1 (mk1 W) X4 (.tuple #[.int .u64 ((480 + T2.length : Nat) : Int), .int .i64 0]) (dk2 (c + 3) 1 c) (hL c (mT T2 [1]) H))) := hide (fun W hW => by
            have k1 := held_app HCB.out.1 HCB.out.2 (hW.ext_ (mk1_ext _)) (some ⟨W.heap.size, 0, none⟩) 1 [1] (n := 1) rfl 0 (mk1_rd _) (mk1_not hW) (by decide) (by decide) HFIT.out
            rw [HQ4.out] at k1
            exact k1)
          obtain ⟨v0, HV0⟩ : ∃ v0 : Int, Hid (((480 + T2.length : Nat) : Int) = v0) := ⟨_, hide rfl⟩
          rw [HV0.out] at KAP
          clear hrm
          go_wp2_with (first
            | (go_at_call 29; (with_reducible refine KRM.out.mono ?_); rintro e w4 ⟨rfl, m4, hw4⟩; have HLR : Hid (LgAt w1 w4 X4 (dk2 (c + 3) 1 c) (hL c T2 H)) := hide (by rw [hw4]; exact HL4.out.ext_ ((Ext.refl _).drewN m4)); clear hw4)
            | ((with_reducible show wpList _ _ _ (⟨some 55, _, _, _, _, _⟩ :: _) _ _); refine wpList_gives (gives_buildSlice rfl [(0, .int .u8 1)] rfl (HM1.out _) ⟨rfl, rfl⟩) rfl ?_)
            | (go_at_call 23; (with_reducible refine (KAP.out w4 HLR.out).mono ?_); rintro e w5 ⟨X5, rfl, hl5, hf5, hn5⟩; have HL5 := hide hl5; have HQ5 : Hid (X5.q = q) := hide (hn5.q.trans HQ4.out); clear hl5 hf5 hn5))
          refine ⟨⟨mT T2 [1], X5, HQ5, HL5, hide ?_⟩, ?_⟩
          · rw [mT_len]
            have := HFIT.out
            show T2.length + 2 + 1 + H ≤ _
            omega
          · have e1 := lenAt_is HL5.out
            have e2 := lenAt_is HL4.out
            rw [HQ5.out] at e1
            rw [HQ4.out] at e2
            show 5000 - lenAt q w5 < 5000 - lenAt q wr
            rw [e1, e2]
            show 5000 - (mT T2 [1]).length < 5000 - T2.length
            rw [mT_len]
            have h1 := HFIT.out
            have h2 := HCB.out.2
            show 5000 - (T2.length + 2 + 1) < _
            omega
        · have hri : ¬ (3 : Int) ≤ (rm : Int) := by omega
          have HMS : Hid (∀ W : World, (Instr.makeSlice 33 (.int .i64 (sz : Int)) (.int .i64 (sz : Int))).run Tryd.prog W = .ok (.slice (some ⟨W.heap.size, 0, none⟩) sz sz) (mkW sz W)) := hide (fun W => mkW_run sz (by have := HSB.out; omega) W)
          clear hrm HM1
          go_upto_region 18 with (first
            | (go_at_call 29; (with_reducible refine KRM.out.mono ?_); rintro e w4 ⟨rfl, m4, rfl⟩))
          have HL5 : Hid (LgAt w1 (wr.drewN m4) X4 (dk2 (c + 3) 1 c) (hL c T2 H)) := hide (HL4.out.ext_ ((Ext.refl _).drewN m4))
          obtain ⟨w5, hw5⟩ : ∃ w5, wr.drewN m4 = w5 := ⟨_, rfl⟩
          rw [hw5] at HL5 ⊢
          clear hw5 KRM HL4 HRM hri hs1 hsw hn3
          have HH0 : Hid (H = 0 ∨ 0 < k) := HH2
          go_loopw [] (fun wr => ∃ (T : List UInt8) (H : Nat) (X : Bk), Hid (X.q = q) ∧ Hid (LgAt w1 wr X (dk2 (c + 3) 1 c) (hL c T H)) ∧ Hid (T.length + H ≤ 480 * c) ∧ Hid (H = 0 ∨ 0 < k)) (fun wr => 5000 - lenAt q wr)
          case atStart => exact ⟨T2, H, X4, HQ4, HL5, HS4, HH2⟩
          case round =>
            obtain ⟨T5, H5, X5, HQ5, HL6, HS6, HH6⟩ := hrel
            clear HL5 HQ4 HS4 HH0 HH2
            have HHB5 : Hid (H5 ≤ 4320 ∧ T5.length ≤ 4320) := hide (by have h1 := HS6.out; have h2 := HCB.out.2; omega)
            have KHD := hide (held_any HL6.out)
            rw [HQ5.out] at KHD
            have KHD : Hid (Calls Tryd.prog 30 #[.pointer (some ⟨q, 0, none⟩)] wr (Same wr (.int .i64 (H5 : Int)))) := KHD
            have hz2 : IntKind.i64.wrap ((sz : Int) + 2) = (sz : Int) + 2 := by rw [IntKind.wrap_i64]; have := HSB.out; omega
            have HLM : Hid (LgAt w1 (mkW sz wr) X5 (dk2 (c + 3) 1 c) (hL c T5 H5)) := hide (HL6.out.ext_ (mkW_ext sz wr))
            by_cases hge : 2 + sz ≤ H5
            · have hgi : (sz : Int) + 2 ≤ (H5 : Int) := by omega
              have KSP := hide (held_spend HCB.out.1 HCB.out.2 HLM.out (some ⟨wr.heap.size, 0, none⟩) sz (List.replicate sz 0) (n := sz) (List.length_replicate ..) (mkW_rd sz wr) (mkW_not HL6.out sz) (by have := HSB.out; omega) (by have := HSB.out; omega) HS6.out hge)
              rw [HQ5.out] at KSP
              obtain ⟨H7, HH7⟩ : ∃ H7, Hid (H5 - (2 + sz) = H7) := ⟨_, hide rfl⟩
              rw [HH7.out] at KSP
              obtain ⟨v0, HV0⟩ : ∃ v0 : Int, Hid (((480 + T5.length : Nat) : Int) = v0) := ⟨_, hide rfl⟩
              rw [HV0.out] at KSP
              obtain ⟨y0, HY0⟩ : ∃ y0 : Int, Hid ((H5 : Int) - (sz : Int) = y0) := ⟨_, hide rfl⟩
              have hy1 : IntKind.i64.wrap ((H5 : Int) - (sz : Int)) = y0 := by rw [IntKind.wrap_i64]; have := HY0.out; have := HHB5.out; have := HSB.out; omega
              have hy2 : IntKind.i64.wrap (y0 - 2) = (H7 : Int) := by rw [IntKind.wrap_i64]; have := HY0.out; have := HH7.out; have := HHB5.out; have := HSB.out; omega
              have HGE := hide hge
              clear hge
              go_wp2_with (first
                | (go_at_call 30; (with_reducible refine KHD.out.mono ?_); rintro e w6 ⟨rfl, hw6⟩; have hw6 := hw6.symm; subst hw6)
                | ((with_reducible show wpList _ _ _ (⟨some 75, _, _, _, _, _⟩ :: _) _ _); refine wpList_gives (gives_make rfl rfl rfl (HMS.out _) ⟨rfl, rfl⟩) rfl ?_)
                | (go_at_call 24; (with_reducible refine KSP.out.mono ?_); rintro e w7 ⟨X7, rfl, hl7, hf7, hn7⟩; have HL7 := hide hl7; have HQ7 : Hid (X7.q = q) := hide (hn7.q.trans HQ5.out); have KH7 : Hid (Calls Tryd.prog 30 #[.pointer (some ⟨X7.q, 0, none⟩)] w7 (Same w7 (.int .i64 (H7 : Int)))) := hide (held_any hl7); rw [HQ7.out] at KH7; clear hl7 hf7 hn7)
                | (go_at_call 30; (with_reducible refine KH7.out.mono ?_); rintro e w8 ⟨rfl, hw8⟩; have hw8 := hw8.symm; subst hw8))
              refine ⟨⟨mT T5 (List.replicate sz 0), H7, X7, HQ7, HL7, hide ?_, hide ?_⟩, ?_⟩
              · rw [mT_len, List.length_replicate]
                have h1 := HS6.out
                have h2 := HH7.out
                have h3 := HGE.out
                omega
              · rcases HH6.out with h1 | h1
                · have h2 := HH7.out
                  have h3 := HGE.out
                  exact .inl (by omega)
                · exact .inr h1
              · have e1 := lenAt_is HL7.out
                have e2 := lenAt_is HL6.out
                rw [HQ7.out] at e1
                rw [HQ5.out] at e2
                rw [e1, e2]
                show 5000 - (mT T5 (List.replicate sz 0)).length < 5000 - T5.length
                rw [mT_len]
                have h1 := HHB5.out.2
                have h2 := HSB.out
                omega
            · have hgi : ¬ (sz : Int) + 2 ≤ (H5 : Int) := by omega
              have KSP := hide (held_spent HCB.out.1 HCB.out.2 HLM.out (some ⟨wr.heap.size, 0, none⟩) sz (List.replicate sz 0) (n := sz) (List.length_replicate ..) (mkW_rd sz wr) (mkW_not HL6.out sz) (by have := HSB.out; omega) (by have := HSB.out; omega) HS6.out hge)
              rw [HQ5.out] at KSP
              have KFL : Hid (∀ W X, LgAt w1 W X (dk2 (c + 3) 1 c) (hL c T5 H5) → X.q = q → Calls Tryd.prog 12 #[.pointer (some ⟨q, 0, none⟩)] W (LPost w1 W X (.int .i64 0) (flD (dk2 (c + 3) 1 c) (hL c T5 H5)) (flL (dk2 (c + 3) 1 c) (hL c T5 H5)))) := hide (fun W X hW hX => by
                have k1 := held_flush HCB.out.1 HCB.out.2 hW HS6.out (HT.out.ext HX1.out)
                rw [hX] at k1
                exact k1)
              have KRM : Hid (∀ W X, LgAt w1 W X (flD (dk2 (c + 3) 1 c) (hL c T5 H5)) (flL (dk2 (c + 3) 1 c) (hL c T5 H5)) → X.q = q → Calls Tryd.prog 29 #[.pointer (some ⟨q, 0, none⟩)] W (fun e w' => e = .returned (.int .i64 ((480 * c - T5.length - H5 : Nat) : Int)) ∧ ∃ m, w' = W.drewN m)) := hide (fun W X hW hX => by
                have k1 := held_flroom HCB.out.1 HCB.out.2 HS6.out hW
                rw [hX] at k1
                exact k1)
              obtain ⟨rm, HRM⟩ : ∃ rm, Hid (480 * c - T5.length - H5 = rm) := ⟨_, hide rfl⟩
              rw [HRM.out] at KRM
              have KH8 : Hid (∀ W X, LgAt w1 W X (flD (dk2 (c + 3) 1 c) (hL c T5 H5)) (flL (dk2 (c + 3) 1 c) (hL c T5 H5)) → X.q = q → Calls Tryd.prog 30 #[.pointer (some ⟨q, 0, none⟩)] W (Same W (.int .i64 (H5 : Int)))) := hide (fun W X hW hX => by
                have k1 := held_any hW
                rw [hX, (held_flL (c := c) (T := T5) (H := H5) HCB.out.1 HS6.out).2.1] at k1
                exact k1)
              obtain ⟨D9, HD9⟩ : ∃ D9, Hid (flD (dk2 (c + 3) 1 c) (hL c T5 H5) = D9) := ⟨_, hide rfl⟩
              obtain ⟨L9, HL9⟩ : ∃ L9, Hid (flL (dk2 (c + 3) 1 c) (hL c T5 H5) = L9) := ⟨_, hide rfl⟩
              rw [HD9.out, HL9.out] at KFL KRM KH8
              have HHK := HH6
              clear hge
              rcases Nat.eq_zero_or_pos k with hk0 | hk0
              · have hH5 : H5 = 0 := by rcases HHK.out with h1 | h1; exact h1; omega
                subst hH5
                subst hk0
                go_wp2_with (first
                  | (go_at_call 30; (with_reducible refine KHD.out.mono ?_); rintro e w6 ⟨rfl, hw6⟩; have hw6 := hw6.symm; subst hw6)
                  | ((with_reducible show wpList _ _ _ (⟨some 93, _, _, _, _, _⟩ :: _) _ _); refine wpList_gives (gives_make rfl rfl rfl (HMS.out _) ⟨rfl, rfl⟩) rfl ?_)
                  | (go_at_call 24; (with_reducible refine KSP.out.mono ?_); rintro e w7 ⟨X7, rfl, hl7, hf7, hn7⟩; have HL7 := hide hl7; have HQ7 : Hid (X7.q = q) := hide (hn7.q.trans HQ5.out); clear hl7 hf7 hn7)
                  | (go_at_call 12; (with_reducible refine (KFL.out w7 X7 HL7.out HQ7.out).mono ?_); rintro e w8 ⟨X8, rfl, hl8, hf8, hn8⟩; have HL8 := hide hl8; have HQ8 : Hid (X8.q = q) := hide (hn8.q.trans HQ7.out); clear hl8 hf8 hn8)
                  | (go_at_call 29; (with_reducible refine (KRM.out w8 X8 HL8.out HQ8.out).mono ?_); rintro e w9 ⟨rfl, m9, hw9⟩; have HL9 : Hid (LgAt w1 w9 X8 D9 L9) := hide (by rw [hw9]; exact HL8.out.ext_ ((Ext.refl _).drewN m9)); clear hw9)
                  | (go_at_call 30; (with_reducible refine (KH8.out w9 X8 HL9.out HQ8.out).mono ?_); rintro e w10 ⟨rfl, hw10⟩; have hw10 := hw10.symm; subst hw10))
                go_ret
                exact Ret.mk (HX1.out.trans HL9.out.ext) rfl
              · have hki : (0 : Int) < (k : Int) := by omega
                go_wp2_with (first
                  | (go_at_call 30; (with_reducible refine KHD.out.mono ?_); rintro e w6 ⟨rfl, hw6⟩; have hw6 := hw6.symm; subst hw6)
                  | ((with_reducible show wpList _ _ _ (⟨some 93, _, _, _, _, _⟩ :: _) _ _); refine wpList_gives (gives_make rfl rfl rfl (HMS.out _) ⟨rfl, rfl⟩) rfl ?_)
                  | (go_at_call 24; (with_reducible refine KSP.out.mono ?_); rintro e w7 ⟨X7, rfl, hl7, hf7, hn7⟩; have HL7 := hide hl7; have HQ7 : Hid (X7.q = q) := hide (hn7.q.trans HQ5.out); clear hl7 hf7 hn7)
                  | (go_at_call 12; (with_reducible refine (KFL.out w7 X7 HL7.out HQ7.out).mono ?_); rintro e w8 ⟨X8, rfl, hl8, hf8, hn8⟩; have HL8 := hide hl8; have HQ8 : Hid (X8.q = q) := hide (hn8.q.trans HQ7.out); clear hl8 hf8 hn8)
                  | (go_at_call 29; (with_reducible refine (KRM.out w8 X8 HL8.out HQ8.out).mono ?_); rintro e w9 ⟨rfl, m9, hw9⟩; have HL9 : Hid (LgAt w1 w9 X8 D9 L9) := hide (by rw [hw9]; exact HL8.out.ext_ ((Ext.refl _).drewN m9)); clear hw9))
                go_ret
                exact Ret.mk (HX1.out.trans HL9.out.ext) rfl
theorem held_int (a b d : Int) (hT : Tab w) (h1 : 0 ≤ a ∧ a ≤ 255) (h2 : 0 ≤ b ∧ b ≤ 65535) (h3 : 0 ≤ d ∧ d ≤ 255) :
    Calls Tryd.prog 6 #[.int .u8 a, .int .u16 b, .int .u8 d] w (Ret w (Is (.bool true))) := by
  obtain ⟨x, rfl⟩ : ∃ x : Nat, a = (x : Int) := ⟨a.toNat, by omega⟩
  obtain ⟨y, rfl⟩ : ∃ y : Nat, b = (y : Int) := ⟨b.toNat, by omega⟩
  obtain ⟨z, rfl⟩ : ∃ z : Nat, d = (z : Int) := ⟨d.toNat, by omega⟩
  exact logHeld_walk x y z (by omega) (by omega) (by omega) hT
end
end Go.Proofs.YtdifpbicdicggaaDoor
