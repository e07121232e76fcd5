/-
  replaced, Put, Drop: contracts.
-/
import Derived.Test.YtmamhinpkioogaaPgI
namespace Go.Proofs.Ytmamhinpkioogaa
open Go.RowKit

theorem sizeCell : (Try.prog.info? 40).map (·.size) = some 2 := by kernel_rfl
/-- 's[k:]'. -/
def cutA (A : Option Addr) (c k : Nat) : Option Addr := if c = k then A else A.map (·.add (k * 2))
theorem run_from (A : Option Addr) (n c k : Nat) (hk : k ≤ n) (w : World) : (Instr.sliceAt 22 (.slice A n c) (some (.int .i64 (k : Int))) none none).run Try.prog w = .ok (.slice (cutA A c k) (n - k) (c - k)) w := by
  obtain ⟨i0, hi, hz, hsz, hby⟩ := info_partsC
  have h1 : (0 : Int) ≤ (k : Int) ∧ (k : Int) ≤ (n : Int) := by omega
  have hcut : (Instr.slice 22 (.slice A n c) (some (.int .i64 (k : Int))) none none).run Try.prog w = .ok (.slice (cutA A c k) (n - k) (c - k)) w := by
    simp [Instr.slice, run_underlying Try.underlying22, Instr.sliceBounds, Instr.sliceBound, asIntOf, hk, sizeOf, typeInfo, hi, hsz, cutA]
  simp [Instr.sliceAt, run_underlying Try.underlying22, hcut]
theorem gives_from {P : Program} {o : Oper} {a : Act} {w : World} {R : Value → World → Prop} {x y : Operand} {t : Nat} {u z v : Value} (h : o.op = .slice t x (some y) none none) (hx : a.eval x = u) (hy : a.eval y = z) (hrun : (Instr.sliceAt t u (some z) none none).run P w = .ok v w) (hR : R v w) : gives P o a w R := by
  refine gives_of_run (w' := w) (v := v) ?_ hR
  unfold execOp
  simp only [h, Option.map_none, Option.map_some, hx, hy, Sem.run_bind, hrun, Result.andThen_ok, Sem.run_pure]
theorem RdC.from {w : World} {A : Option Addr} {L : List Cl} {n c : Nat} (h : RdC w A L) (hn : L.length = n) (hc : n ≤ c) (k : Nat) (hk : k ≤ n) : RdC w (cutA A c k) (L.drop k) := by
  unfold cutA
  split
  · rename_i e
    rw [List.drop_eq_nil_of_le (by omega)]
    exact RdC.nil _ _
  · intro hn0
    obtain ⟨b, off, rfl, hc⟩ := h (by intro e; rw [e] at hn0; simp at hn0)
    have := (RdC.drop (w := w) (b := b) (off := off) (L := L) (fun _ => ⟨b, off, rfl, hc⟩) k) hn0
    rw [Option.map_some, add_flat]
    exact this
theorem wpList_gives {P : Program} {ops : Array Oper} {rest : List Oper} {o : Oper} {a : Act} {w : World} {Q : Exit → Act → World → Prop} {x : Value} {w' : World} (h : gives P o a w fun v w2 => v = x ∧ w2 = w') (hgd : Region.wanted o (yielded ops a.tmps) = true)
    (hK : wpList P ops Q rest (a.put o.dst x) w') : wpList P ops Q (o :: rest) a w :=
  wpList_step fun K hKK => by
    rw [if_pos hgd]
    exact wp_of_gives h fun v w2 ⟨hv, hw⟩ => by subst hv hw; exact hKK _ _ hK
theorem gives_buildSlice {P : Program} {o : Oper} {a : Act} {w : World} {R : Value → World → Prop} {t : TypeId} {n : Nat} {parts : Array (Nat × Operand)} {v : Value} {w' : World} (h : o.op = .buildSlice t n parts) (vs : List (Nat × Value)) (hv : parts.toList.map (fun x => (x.1, a.eval x.2)) = vs)
    (hrun : (Instr.buildSlice t n vs.toArray).run P w = .ok v w') (hR : R v w') : gives P o a w R := by
  refine gives_of_run (w' := w') (v := v) ?_ hR
  have e : (parts.map fun (i, x) => (i, a.eval x)) = vs.toArray := by
    apply Array.ext'
    rw [Array.toList_map]
    exact hv
  unfold execOp
  simp only [h, e, Sem.run_bind, hrun, Result.andThen_ok, Sem.run_pure]
theorem concat3 {A0 A1 A2 : Option Addr} {L0 L1 L2 : List Cl} {n0 n1 n2 c0 c1 c2 : Nat} (w w2 : World) (hx : Ext w w2) (h0 : RdC w A0 L0) (h1 : RdC w A1 L1) (h2 : RdC w2 A2 L2) (e0 : L0.length = n0) (e1 : L1.length = n1) (e2 : L2.length = n2) (hl : n0 + n1 + n2 ≤ 1000000) :
    Calls Try.prog 39 #[.slice (some ⟨w2.heap.size, 0, none⟩) 3 3] (w2.alloc (.cells #[.slice A0 n0 c0, .slice A1 n1 c1, .slice A2 n2 c2] 22)) (fun e w' => ∃ v, e = .returned v ∧ ∃ wc, Ext w2 wc ∧ Ext wc w' ∧ OwnV wc wc.heap.size (L0 ++ L1 ++ L2) w' v) := by
  subst e0 e1 e2
  have R : Rw (w2.alloc (.cells #[.slice A0 L0.length c0, .slice A1 L1.length c1, .slice A2 L2.length c2] 22)) w2.heap.size 22 [.slice A0 L0.length c0, .slice A1 L1.length c1, .slice A2 L2.length c2] := Rw.new _ _ _
  have hx2 := Ext.alloc w2 (.cells #[.slice A0 L0.length c0, .slice A1 L1.length c1, .slice A2 L2.length c2] 22)
  have h := concat_any w2.heap.size 3 3 [L0, L1, L2] _ rfl (by omega) (by simp; omega) (fun k m hm => by
    match k with
    | 0 => injection hm with hm; subst hm; exact ⟨A0, c0, R.cell (i := 0) rfl, (h0.ext hx).ext hx2⟩
    | 1 => injection hm with hm; subst hm; exact ⟨A1, c1, R.cell (i := 1) rfl, (h1.ext hx).ext hx2⟩
    | 2 => injection hm with hm; subst hm; exact ⟨A2, c2, R.cell (i := 2) rfl, h2.ext hx2⟩
    | k + 3 => cases hm)
  have e : [L0, L1, L2].flatten = L0 ++ L1 ++ L2 := by simp
  rw [e] at h
  exact h.mono fun e w' ⟨v, he, hx, hv⟩ => ⟨v, he, _, Ext.alloc _ _, hx, hv⟩
set_option maxRecDepth 20000 in
set_option maxHeartbeats 6400000 in
theorem replaced_any {A B C : Option Addr} {L M : List Cl} {key : List UInt8} (n p m c d e : Nat) (w : World) (hr : RdC w A L) (hB : Rd w B key) (hC : RdC w C M) (hn : L.length = n) (hp : key.length = p) (hm : M.length = m) (hl : n ≤ 10000) (hml : m ≤ 1) (hnc : n ≤ c) (hR : Rises L) (hS : Small L) (hSM : Small M) :
    Calls Try.prog 36 #[.slice A n c, .slice B p d, .slice C m e] w (Ret w (CellsD w.heap.size (repl L key M))) := by
  have KF := hide (find_any n p c d w hr hB hn hp (by omega) hR)
  have HR := hide hr
  have HC := hide hC
  have HN := hide hn
  have HM := hide hm
  have HL := hide hl
  have HML := hide hml
  have HNC := hide hnc
  obtain ⟨q, HQ⟩ : ∃ q, Hid (ix L key = q) := ⟨_, hide rfl⟩
  have hqn : q ≤ n := by rw [← HQ.out, ← hn]; exact ix_le L key
  obtain ⟨b, HB⟩ : ∃ b, Hid (hs L key = b) := ⟨_, hide rfl⟩
  have HQN := hide hqn
  have HSR : Hid (Small (repl L key M)) := hide (fun x hx => by
    unfold repl at hx
    rcases List.mem_append.1 hx with hx | hx
    · rcases List.mem_append.1 hx with hx | hx
      · exact hS x (List.mem_of_mem_take hx)
      · exact hSM x hx
    · exact hS x (List.mem_of_mem_drop hx))
  have HRE : Hid (repl L key M = L.take q ++ M ++ L.drop (q + if b = true then 1 else 0)) := hide (by unfold repl; rw [HQ.out, HB.out])
  have HBQ : Hid (b = true → q < n) := hide (fun hb => by
    have := hs_at hR key
    rw [HB.out, hb, HQ.out] at this
    rcases Nat.lt_or_ge q n with h | h
    · exact h
    · rw [List.getElem?_eq_none (by omega)] at this; cases this)
  have HTL : Hid ((L.take q).length = q) := hide (by rw [List.length_take]; omega)
  obtain ⟨RL, HRL⟩ : ∃ RL, Hid (repl L key M = RL) := ⟨_, hide rfl⟩
  rw [HQ.out, HB.out] at KF
  rw [HRL.out] at HSR HRE ⊢
  clear hr hB hC hn hp hm hl hml hnc hR hS hSM hqn
  cases b with
  | true =>
    have hq1 : q < n := HBQ.out rfl
    obtain ⟨b0, off, rfl, -⟩ := HR.out (by intro e; rw [e] at HN; exact absurd HN.out (by simp; omega))
    have hq1i : (q : Int) ≤ (n : Int) := by omega
    have hqci : (q : Int) ≤ (c : Int) := by have := HNC.out; omega
    have hcq : ¬ c = q := by have := HNC.out; omega
    have h1nq : 1 ≤ n - q := by omega
    have h1nqi : (1 : Int) ≤ ((n - q : Nat) : Int) := by omega
    by_cases hc1 : c - q = 1
    · have HE : Hid (L.drop (q + 1) = []) := hide (List.drop_eq_nil_of_le (by rw [HN.out]; have := HNC.out; omega))
      go_enter Try.func36, Try.ntmps36
      go_upto_region 5 with (go_at_call 22; (with_reducible refine KF.out.mono ?_); rintro e w2 ⟨v2, rfl, hx2, rfl⟩; have X2 := hide hx2; clear hx2)
      have H3 : Hid (RdC w2 _ (L.drop (q + 1))) := hide (by rw [HE.out]; exact RdC.nil _ (some ⟨b0, off + q * 2, none⟩))
      have HL3 : Hid ((L.drop (q + 1)).length = n - q - 1) := hide (by rw [List.length_drop, HN.out]; omega)
      have HSUM : Hid (q + m + (n - q - 1) ≤ 1000000) := hide (by have := HL.out; have := HML.out; have := HQN.out; omega)
      go_upto_region 6 with (go_at_call 39; (with_reducible refine (concat3 w w2 X2.out (HR.out.take q) HC.out H3.out HTL.out HM.out HL3.out HSUM.out).mono ?_); rintro e3 w3 ⟨v3, rfl, wc, hxc, hx3, ho3⟩; have X3 := hide hx3; have O3 := hide ho3; have XC := hide (X2.out.trans hxc); clear hx3 ho3 hxc)
      have HRE2 : Hid (L.take q ++ M ++ L.drop (q + 1) = RL) := hide (by rw [HRE.out]; rfl)
      rw [HRE2.out] at O3
      obtain ⟨A4, c4, hv3, -⟩ := O3.out.slice
      subst hv3
      have O4 := hide (OutV.first O3.out)
      obtain ⟨N, HNN⟩ : ∃ N, Hid (RL.length = N) := ⟨_, hide rfl⟩
      have HN2 : Hid (N ≤ 20000) := hide (by rw [← HNN.out, ← HRE2.out, List.length_append, List.length_append, HTL.out, HL3.out, HM.out]; have := HL.out; have := HML.out; have := HQN.out; omega)
      rw [HNN.out] at O4 ⊢
      clear KF H3 HSUM HL3 O3 HRE2 HRE HR HC
      go_wp2
      go_loopw [34] (fun iv wr => ∃ i : Nat, i ≤ N ∧ iv = .int .i64 (i : Int) ∧ Hid (OutV wc wc.heap.size i RL wr (.slice A4 N c4)) ∧ Hid (Ext wc wr)) (fun iv _ => N - (intOf iv).toNat)
      case atStart => exact ⟨0, Nat.zero_le _, rfl, O4, X3⟩
      case round =>
        obtain ⟨i, hiN, rfl, HO, HX⟩ := hrel
        clear O4 X3
        by_cases hlt : i < N
        · obtain ⟨x, hx⟩ : ∃ x, RL[i]? = some x := ⟨_, List.getElem?_eq_getElem (by rw [HNN.out]; exact hlt)⟩
          have HO2 := HO.out
          rw [← HNN.out] at HO2
          obtain ⟨g, B1, d1, B2, d2, rfl, hBg, k1, k2, q1, q2, hst⟩ := HO2.step hx HX.out.size
          rw [HNN.out] at hst
          have hsm := HSR.out.at hx
          have HST := hide hst
          have HBG := hide hBg
          obtain ⟨n1, HN1⟩ : ∃ n1, Hid (x.1.length = n1) := ⟨_, hide rfl⟩
          obtain ⟨n2, HN22⟩ : ∃ n2, Hid (x.2.length = n2) := ⟨_, hide rfl⟩
          have KK := hide (fun (W : World) (hW : Ext wc W) => cell_any B1 B2 x n1 n2 d1 d2 W (q1.ext hW) (q2.ext hW) HN1.out HN22.out (by rw [← HN1.out]; exact hsm.1) (by rw [← HN22.out]; exact hsm.2))
          rw [HN1.out] at k1 HST
          rw [HN22.out] at k2 HST
          have hii : (i : Int) < (N : Int) := by omega
          have hi0 : (0 : Int) ≤ (i : Int) := by omega
          have hi2 : (i : Int) ≤ 20000 := by have := HN2.out; omega
          clear hx HO2 HO hsm q1 q2 hst hBg
          go_wp2_with (go_at_call 37; (with_reducible refine (KK.out _ (HX.out.trans (Ext.alloc _ _))).mono ?_); rintro e4 w4 ⟨v4, rfl, hx4, u1, u2, rfl, o1, o2⟩; have X4 := hide ((Ext.alloc wr _).trans hx4); have ST := HST.out w4 u1 u2 X4.out (o1.mono (Ext.alloc wr _).size) (o2.mono (Ext.alloc wr _).size); have O5 := hide ST.2; obtain ⟨⟨m1, m2, f1, f2⟩, -⟩ := ST; obtain ⟨U1, e1, rfl, -, -⟩ := Own.slice o1; obtain ⟨U2, e2, rfl, -, -⟩ := Own.slice o2; clear o1 o2 hx4)
          refine ⟨⟨i + 1, by omega, by go_num, O5, hide (Below.setCell (p := ⟨g, i * 2 + 1, none⟩) (Below.setCell (p := ⟨g, i * 2, none⟩) (HX.out.trans X4.out) HBG.out _) HBG.out _)⟩, by simp [intOf]; omega⟩
        · have hii : ¬ (i : Int) < (N : Int) := by omega
          obtain rfl : i = N := by omega
          clear hlt hiN
          go_wp2
          go_ret
          refine Ret.mk (XC.out.trans HX.out) ?_
          exact (HO.out.last (by rw [HNN.out]; exact Nat.le_refl _)).mono XC.out.size
    · skip
      go_enter Try.func36, Try.ntmps36
      go_upto_region 5 with (go_at_call 22; (with_reducible refine KF.out.mono ?_); rintro e w2 ⟨v2, rfl, hx2, rfl⟩; have X2 := hide hx2; clear hx2)
      have H3 : Hid (RdC w2 _ (L.drop (q + 1))) := hide (by have h := (RdC.drop HR.out (q + 1)).ext X2.out; rw [show off + (q + 1) * 2 = off + q * 2 + 2 by omega] at h; exact h)
      have HL3 : Hid ((L.drop (q + 1)).length = n - q - 1) := hide (by rw [List.length_drop, HN.out]; omega)
      have HSUM : Hid (q + m + (n - q - 1) ≤ 1000000) := hide (by have := HL.out; have := HML.out; have := HQN.out; omega)
      go_upto_region 6 with (go_at_call 39; (with_reducible refine (concat3 w w2 X2.out (HR.out.take q) HC.out H3.out HTL.out HM.out HL3.out HSUM.out).mono ?_); rintro e3 w3 ⟨v3, rfl, wc, hxc, hx3, ho3⟩; have X3 := hide hx3; have O3 := hide ho3; have XC := hide (X2.out.trans hxc); clear hx3 ho3 hxc)
      have HRE2 : Hid (L.take q ++ M ++ L.drop (q + 1) = RL) := hide (by rw [HRE.out]; rfl)
      rw [HRE2.out] at O3
      obtain ⟨A4, c4, hv3, -⟩ := O3.out.slice
      subst hv3
      have O4 := hide (OutV.first O3.out)
      obtain ⟨N, HNN⟩ : ∃ N, Hid (RL.length = N) := ⟨_, hide rfl⟩
      have HN2 : Hid (N ≤ 20000) := hide (by rw [← HNN.out, ← HRE2.out, List.length_append, List.length_append, HTL.out, HL3.out, HM.out]; have := HL.out; have := HML.out; have := HQN.out; omega)
      rw [HNN.out] at O4 ⊢
      clear KF H3 HSUM HL3 O3 HRE2 HRE HR HC
      go_wp2
      go_loopw [34] (fun iv wr => ∃ i : Nat, i ≤ N ∧ iv = .int .i64 (i : Int) ∧ Hid (OutV wc wc.heap.size i RL wr (.slice A4 N c4)) ∧ Hid (Ext wc wr)) (fun iv _ => N - (intOf iv).toNat)
      case atStart => exact ⟨0, Nat.zero_le _, rfl, O4, X3⟩
      case round =>
        obtain ⟨i, hiN, rfl, HO, HX⟩ := hrel
        clear O4 X3
        by_cases hlt : i < N
        · obtain ⟨x, hx⟩ : ∃ x, RL[i]? = some x := ⟨_, List.getElem?_eq_getElem (by rw [HNN.out]; exact hlt)⟩
          have HO2 := HO.out
          rw [← HNN.out] at HO2
          obtain ⟨g, B1, d1, B2, d2, rfl, hBg, k1, k2, q1, q2, hst⟩ := HO2.step hx HX.out.size
          rw [HNN.out] at hst
          have hsm := HSR.out.at hx
          have HST := hide hst
          have HBG := hide hBg
          obtain ⟨n1, HN1⟩ : ∃ n1, Hid (x.1.length = n1) := ⟨_, hide rfl⟩
          obtain ⟨n2, HN22⟩ : ∃ n2, Hid (x.2.length = n2) := ⟨_, hide rfl⟩
          have KK := hide (fun (W : World) (hW : Ext wc W) => cell_any B1 B2 x n1 n2 d1 d2 W (q1.ext hW) (q2.ext hW) HN1.out HN22.out (by rw [← HN1.out]; exact hsm.1) (by rw [← HN22.out]; exact hsm.2))
          rw [HN1.out] at k1 HST
          rw [HN22.out] at k2 HST
          have hii : (i : Int) < (N : Int) := by omega
          have hi0 : (0 : Int) ≤ (i : Int) := by omega
          have hi2 : (i : Int) ≤ 20000 := by have := HN2.out; omega
          clear hx HO2 HO hsm q1 q2 hst hBg
          go_wp2_with (go_at_call 37; (with_reducible refine (KK.out _ (HX.out.trans (Ext.alloc _ _))).mono ?_); rintro e4 w4 ⟨v4, rfl, hx4, u1, u2, rfl, o1, o2⟩; have X4 := hide ((Ext.alloc wr _).trans hx4); have ST := HST.out w4 u1 u2 X4.out (o1.mono (Ext.alloc wr _).size) (o2.mono (Ext.alloc wr _).size); have O5 := hide ST.2; obtain ⟨⟨m1, m2, f1, f2⟩, -⟩ := ST; obtain ⟨U1, e1, rfl, -, -⟩ := Own.slice o1; obtain ⟨U2, e2, rfl, -, -⟩ := Own.slice o2; clear o1 o2 hx4)
          refine ⟨⟨i + 1, by omega, by go_num, O5, hide (Below.setCell (p := ⟨g, i * 2 + 1, none⟩) (Below.setCell (p := ⟨g, i * 2, none⟩) (HX.out.trans X4.out) HBG.out _) HBG.out _)⟩, by simp [intOf]; omega⟩
        · have hii : ¬ (i : Int) < (N : Int) := by omega
          obtain rfl : i = N := by omega
          clear hlt hiN
          go_wp2
          go_ret
          refine Ret.mk (XC.out.trans HX.out) ?_
          exact (HO.out.last (by rw [HNN.out]; exact Nat.le_refl _)).mono XC.out.size
  | false =>
    have hq1i : (q : Int) ≤ (n : Int) := by have := HQN.out; omega
    have hqci : (q : Int) ≤ (c : Int) := by have := HNC.out; have := HQN.out; omega
    by_cases hcq : c = q
    · subst hcq
      have HE : Hid (L.drop (c + 0) = []) := hide (List.drop_eq_nil_of_le (by rw [HN.out]; have := HNC.out; omega))
      go_enter Try.func36, Try.ntmps36
      go_upto_region 5 with (go_at_call 22; (with_reducible refine KF.out.mono ?_); rintro e w2 ⟨v2, rfl, hx2, rfl⟩; have X2 := hide hx2; clear hx2)
      have H3 : Hid (RdC w2 _ (L.drop (c + 0))) := hide (by rw [HE.out]; exact RdC.nil _ A)
      have HL3 : Hid ((L.drop (c + 0)).length = n - c) := hide (by rw [List.length_drop, HN.out]; omega)
      have HSUM : Hid (c + m + (n - c) ≤ 1000000) := hide (by have := HL.out; have := HML.out; have := HQN.out; omega)
      go_upto_region 6 with (go_at_call 39; (with_reducible refine (concat3 w w2 X2.out (HR.out.take c) HC.out H3.out HTL.out HM.out HL3.out HSUM.out).mono ?_); rintro e3 w3 ⟨v3, rfl, wc, hxc, hx3, ho3⟩; have X3 := hide hx3; have O3 := hide ho3; have XC := hide (X2.out.trans hxc); clear hx3 ho3 hxc)
      have HRE2 : Hid (L.take c ++ M ++ L.drop (c + 0) = RL) := hide (by rw [HRE.out]; rfl)
      rw [HRE2.out] at O3
      obtain ⟨A4, c4, hv3, -⟩ := O3.out.slice
      subst hv3
      have O4 := hide (OutV.first O3.out)
      obtain ⟨N, HNN⟩ : ∃ N, Hid (RL.length = N) := ⟨_, hide rfl⟩
      have HN2 : Hid (N ≤ 20000) := hide (by rw [← HNN.out, ← HRE2.out, List.length_append, List.length_append, HTL.out, HL3.out, HM.out]; have := HL.out; have := HML.out; have := HQN.out; omega)
      rw [HNN.out] at O4 ⊢
      clear KF H3 HSUM HL3 O3 HRE2 HRE HR HC
      go_wp2
      go_loopw [34] (fun iv wr => ∃ i : Nat, i ≤ N ∧ iv = .int .i64 (i : Int) ∧ Hid (OutV wc wc.heap.size i RL wr (.slice A4 N c4)) ∧ Hid (Ext wc wr)) (fun iv _ => N - (intOf iv).toNat)
      case atStart => exact ⟨0, Nat.zero_le _, rfl, O4, X3⟩
      case round =>
        obtain ⟨i, hiN, rfl, HO, HX⟩ := hrel
        clear O4 X3
        by_cases hlt : i < N
        · obtain ⟨x, hx⟩ : ∃ x, RL[i]? = some x := ⟨_, List.getElem?_eq_getElem (by rw [HNN.out]; exact hlt)⟩
          have HO2 := HO.out
          rw [← HNN.out] at HO2
          obtain ⟨g, B1, d1, B2, d2, rfl, hBg, k1, k2, q1, q2, hst⟩ := HO2.step hx HX.out.size
          rw [HNN.out] at hst
          have hsm := HSR.out.at hx
          have HST := hide hst
          have HBG := hide hBg
          obtain ⟨n1, HN1⟩ : ∃ n1, Hid (x.1.length = n1) := ⟨_, hide rfl⟩
          obtain ⟨n2, HN22⟩ : ∃ n2, Hid (x.2.length = n2) := ⟨_, hide rfl⟩
          have KK := hide (fun (W : World) (hW : Ext wc W) => cell_any B1 B2 x n1 n2 d1 d2 W (q1.ext hW) (q2.ext hW) HN1.out HN22.out (by rw [← HN1.out]; exact hsm.1) (by rw [← HN22.out]; exact hsm.2))
          rw [HN1.out] at k1 HST
          rw [HN22.out] at k2 HST
          have hii : (i : Int) < (N : Int) := by omega
          have hi0 : (0 : Int) ≤ (i : Int) := by omega
          have hi2 : (i : Int) ≤ 20000 := by have := HN2.out; omega
          clear hx HO2 HO hsm q1 q2 hst hBg
          go_wp2_with (go_at_call 37; (with_reducible refine (KK.out _ (HX.out.trans (Ext.alloc _ _))).mono ?_); rintro e4 w4 ⟨v4, rfl, hx4, u1, u2, rfl, o1, o2⟩; have X4 := hide ((Ext.alloc wr _).trans hx4); have ST := HST.out w4 u1 u2 X4.out (o1.mono (Ext.alloc wr _).size) (o2.mono (Ext.alloc wr _).size); have O5 := hide ST.2; obtain ⟨⟨m1, m2, f1, f2⟩, -⟩ := ST; obtain ⟨U1, e1, rfl, -, -⟩ := Own.slice o1; obtain ⟨U2, e2, rfl, -, -⟩ := Own.slice o2; clear o1 o2 hx4)
          refine ⟨⟨i + 1, by omega, by go_num, O5, hide (Below.setCell (p := ⟨g, i * 2 + 1, none⟩) (Below.setCell (p := ⟨g, i * 2, none⟩) (HX.out.trans X4.out) HBG.out _) HBG.out _)⟩, by simp [intOf]; omega⟩
        · have hii : ¬ (i : Int) < (N : Int) := by omega
          obtain rfl : i = N := by omega
          clear hlt hiN
          go_wp2
          go_ret
          refine Ret.mk (XC.out.trans HX.out) ?_
          exact (HO.out.last (by rw [HNN.out]; exact Nat.le_refl _)).mono XC.out.size
    · skip
      go_enter Try.func36, Try.ntmps36
      go_upto_region 5 with (go_at_call 22; (with_reducible refine KF.out.mono ?_); rintro e w2 ⟨v2, rfl, hx2, rfl⟩; have X2 := hide hx2; clear hx2)
      have H3 : Hid (RdC w2 _ (L.drop (q + 0))) := hide (by have h := (RdC.from HR.out HN.out HNC.out q HQN.out).ext X2.out; unfold cutA at h; rw [if_neg hcq] at h; exact h)
      have HL3 : Hid ((L.drop (q + 0)).length = n - q) := hide (by rw [List.length_drop, HN.out]; omega)
      have HSUM : Hid (q + m + (n - q) ≤ 1000000) := hide (by have := HL.out; have := HML.out; have := HQN.out; omega)
      go_upto_region 6 with (go_at_call 39; (with_reducible refine (concat3 w w2 X2.out (HR.out.take q) HC.out H3.out HTL.out HM.out HL3.out HSUM.out).mono ?_); rintro e3 w3 ⟨v3, rfl, wc, hxc, hx3, ho3⟩; have X3 := hide hx3; have O3 := hide ho3; have XC := hide (X2.out.trans hxc); clear hx3 ho3 hxc)
      have HRE2 : Hid (L.take q ++ M ++ L.drop (q + 0) = RL) := hide (by rw [HRE.out]; rfl)
      rw [HRE2.out] at O3
      obtain ⟨A4, c4, hv3, -⟩ := O3.out.slice
      subst hv3
      have O4 := hide (OutV.first O3.out)
      obtain ⟨N, HNN⟩ : ∃ N, Hid (RL.length = N) := ⟨_, hide rfl⟩
      have HN2 : Hid (N ≤ 20000) := hide (by rw [← HNN.out, ← HRE2.out, List.length_append, List.length_append, HTL.out, HL3.out, HM.out]; have := HL.out; have := HML.out; have := HQN.out; omega)
      rw [HNN.out] at O4 ⊢
      clear KF H3 HSUM HL3 O3 HRE2 HRE HR HC
      go_wp2
      go_loopw [34] (fun iv wr => ∃ i : Nat, i ≤ N ∧ iv = .int .i64 (i : Int) ∧ Hid (OutV wc wc.heap.size i RL wr (.slice A4 N c4)) ∧ Hid (Ext wc wr)) (fun iv _ => N - (intOf iv).toNat)
      case atStart => exact ⟨0, Nat.zero_le _, rfl, O4, X3⟩
      case round =>
        obtain ⟨i, hiN, rfl, HO, HX⟩ := hrel
        clear O4 X3
        by_cases hlt : i < N
        · obtain ⟨x, hx⟩ : ∃ x, RL[i]? = some x := ⟨_, List.getElem?_eq_getElem (by rw [HNN.out]; exact hlt)⟩
          have HO2 := HO.out
          rw [← HNN.out] at HO2
          obtain ⟨g, B1, d1, B2, d2, rfl, hBg, k1, k2, q1, q2, hst⟩ := HO2.step hx HX.out.size
          rw [HNN.out] at hst
          have hsm := HSR.out.at hx
          have HST := hide hst
          have HBG := hide hBg
          obtain ⟨n1, HN1⟩ : ∃ n1, Hid (x.1.length = n1) := ⟨_, hide rfl⟩
          obtain ⟨n2, HN22⟩ : ∃ n2, Hid (x.2.length = n2) := ⟨_, hide rfl⟩
          have KK := hide (fun (W : World) (hW : Ext wc W) => cell_any B1 B2 x n1 n2 d1 d2 W (q1.ext hW) (q2.ext hW) HN1.out HN22.out (by rw [← HN1.out]; exact hsm.1) (by rw [← HN22.out]; exact hsm.2))
          rw [HN1.out] at k1 HST
          rw [HN22.out] at k2 HST
          have hii : (i : Int) < (N : Int) := by omega
          have hi0 : (0 : Int) ≤ (i : Int) := by omega
          have hi2 : (i : Int) ≤ 20000 := by have := HN2.out; omega
          clear hx HO2 HO hsm q1 q2 hst hBg
          go_wp2_with (go_at_call 37; (with_reducible refine (KK.out _ (HX.out.trans (Ext.alloc _ _))).mono ?_); rintro e4 w4 ⟨v4, rfl, hx4, u1, u2, rfl, o1, o2⟩; have X4 := hide ((Ext.alloc wr _).trans hx4); have ST := HST.out w4 u1 u2 X4.out (o1.mono (Ext.alloc wr _).size) (o2.mono (Ext.alloc wr _).size); have O5 := hide ST.2; obtain ⟨⟨m1, m2, f1, f2⟩, -⟩ := ST; obtain ⟨U1, e1, rfl, -, -⟩ := Own.slice o1; obtain ⟨U2, e2, rfl, -, -⟩ := Own.slice o2; clear o1 o2 hx4)
          refine ⟨⟨i + 1, by omega, by go_num, O5, hide (Below.setCell (p := ⟨g, i * 2 + 1, none⟩) (Below.setCell (p := ⟨g, i * 2, none⟩) (HX.out.trans X4.out) HBG.out _) HBG.out _)⟩, by simp [intOf]; omega⟩
        · have hii : ¬ (i : Int) < (N : Int) := by omega
          obtain rfl : i = N := by omega
          clear hlt hiN
          go_wp2
          go_ret
          refine Ret.mk (XC.out.trans HX.out) ?_
          exact (HO.out.last (by rw [HNN.out]; exact Nat.le_refl _)).mono XC.out.size
set_option maxRecDepth 20000 in
set_option maxHeartbeats 1600000 in
theorem drop_anyD {A B : Option Addr} {L : List Cl} {key : List UInt8} (n p c d : Nat) (w : World) (hr : RdC w A L) (hB : Rd w B key) (hn : L.length = n) (hp : key.length = p) (hl : n ≤ 10000) (hnc : n ≤ c) (hR : Rises L) (hS : Small L) :
    Calls Try.prog 25 #[.slice A n c, .slice B p d] w (Ret w (CellsD w.heap.size (repl L key []))) := by
  have KR := hide (replaced_any (C := none) (M := []) n p 0 c d 0 w hr hB (RdC.nil _ _) hn hp rfl hl (by omega) hnc hR hS (fun x h => by cases h))
  clear hr hB hn hp hl hnc hR hS
  go_enter Try.func25, Try.ntmps25
  go_wp2_with (go_at_call 36; (with_reducible refine KR.out.mono ?_); rintro e2 w2 ⟨v2, rfl, hx2, ho2⟩; have X2 := hide hx2; have O2 := hide ho2; clear hx2 ho2)
  go_ret
  exact Ret.mk X2.out O2.out
theorem rw_new2 (w : World) (o : Obj) (t : TypeId) (vs : List Value) : Rw ((w.alloc o).alloc (.cells vs.toArray t)) (w.heap.size + 1) t vs := by
  have h := Rw.new (w.alloc o) t vs
  rwa [show (w.alloc o).heap.size = w.heap.size + 1 by simp] at h
theorem build_cell (v1 v2 : Value) (W : World) (A1 A2 : Option Addr) (n1 n2 c1 c2 : Nat) (h1 : v1 = .slice A1 n1 c1) (h2 : v2 = .slice A2 n2 c2) : (Instr.buildSlice 22 1 #[(0, .agg #[v1, v2])]).run Try.prog W = .ok (.slice (some ⟨W.heap.size, 0, none⟩) 1 1) (W.alloc (.cells #[v1, v2] 40)) := by
  subst h1 h2
  obtain ⟨i0, hi, hz0, hz1, hz2⟩ := info_partsC
  refine run_buildSlice W 22 40 1 #[(0, .agg #[.slice A1 n1 c1, .slice A2 n2 c2])] _ i0 _ Try.underlying22 hi hz0 (by rw [hz1]; decide) (by rw [hz1]; decide) ?_
  rw [hz1]
  have h := Great.fill_whole (s := 2) (by decide) [.agg #[.slice A1 n1 c1, .slice A2 n2 c2]] ((Array.range (1 * 2)).map ((Value.agg #[Value.slice none 0 0, Value.slice none 0 0]).cells[· % (Value.agg #[Value.slice none 0 0, Value.slice none 0 0]).cells.size]!)) (by intro v hv; rw [List.mem_singleton.1 hv]; rfl) (by rw [Array.size_map, Array.size_range]; rfl)
  exact h
set_option maxRecDepth 20000 in
set_option maxHeartbeats 1600000 in
theorem put_anyD {A A1 A2 : Option Addr} {L : List Cl} {x : Cl} (n n1 n2 c c1 c2 : Nat) (w : World) (hr : RdC w A L) (h1 : Rd w A1 x.1) (h2 : Rd w A2 x.2) (hn : L.length = n) (e1 : x.1.length = n1) (e2 : x.2.length = n2) (hc1 : n1 ≤ c1) (hc2 : n2 ≤ c2) (hl : n ≤ 10000) (hnc : n ≤ c) (hR : Rises L) (hS : Small L) (hS1 : Small [x]) :
    Calls Try.prog 23 #[.slice A n c, .agg #[.slice A1 n1 c1, .slice A2 n2 c2]] w (Ret w (CellsD w.heap.size (repl L x.1 [x]))) := by
  have KR : Hid (∀ (W : World) (g : Nat), Ext w W → Rw W g 40 [.slice A1 n1 c1, .slice A2 n2 c2] → Calls Try.prog 36 #[.slice A n c, .slice A1 n1 c1, .slice (some ⟨g, 0, none⟩) 1 1] W (Ret W (CellsD W.heap.size (repl L x.1 [x])))) := hide fun W g hx hg =>
    replaced_any (C := some ⟨g, 0, none⟩) (M := [x]) n n1 1 c c1 1 W (hr.ext hx) (h1.ext hx) (fun _ => ⟨g, 0, rfl, fun j y hj => by
      cases j with
      | zero =>
        injection hj with hj
        subst hj
        exact ⟨A1, c1, A2, c2, by rw [e1]; exact hg.cell (i := 0) rfl, by rw [e2]; exact hg.cell (i := 1) rfl, by rw [e1]; exact hc1, by rw [e2]; exact hc2, h1.ext hx, h2.ext hx⟩
      | succ j => cases hj⟩) hn e1 rfl hl (by omega) hnc hR hS hS1
  have KB := hide (fun (W : World) => build_cell (.slice A1 n1 c1) (.slice A2 n2 c2) W A1 A2 n1 n2 c1 c2 rfl rfl)
  clear hr h1 h2 hn e1 e2 hc1 hc2 hl hnc hR hS hS1
  go_enter Try.func23, Try.ntmps23
  go_wp2_with (first
    | ((with_reducible show wpList _ _ _ (⟨some 9, _, _, _, _, _⟩ :: _) _ _); refine wpList_gives (gives_buildSlice rfl [(0, .agg #[.slice A1 n1 c1, .slice A2 n2 c2])] rfl (KB.out _) ⟨rfl, rfl⟩) rfl ?_)
    | (go_at_call 36; (with_reducible refine (KR.out _ _ ((Ext.alloc _ _).trans (Ext.alloc _ _)) (rw_new2 _ _ _ _)).mono ?_); rintro e2 w2 ⟨v2, rfl, hx2, ho2⟩; have X2 := hide hx2; have O2 := hide ho2; clear hx2 ho2))
  go_ret
  exact Ret.mk (((Ext.alloc _ _).trans (Ext.alloc _ _)).trans X2.out) (O2.out.mono ((Ext.alloc _ _).trans (Ext.alloc _ _)).size)
theorem drop_any {A B : Option Addr} {L : List Cl} {key : List UInt8} (n p c d : Nat) (w : World) (hr : RdC w A L) (hB : Rd w B key) (hn : L.length = n) (hp : key.length = p) (hl : n ≤ 10000) (hnc : n ≤ c) (hR : Rises L) (hS : Small L) :
    Calls Try.prog 25 #[.slice A n c, .slice B p d] w (Ret w (CellsO w.heap.size (repl L key []))) :=
  (drop_anyD n p c d w hr hB hn hp hl hnc hR hS).mono fun _ _ ⟨v, he, hx, h⟩ => ⟨v, he, hx, h.o⟩
theorem put_any {A A1 A2 : Option Addr} {L : List Cl} {x : Cl} (n n1 n2 c c1 c2 : Nat) (w : World) (hr : RdC w A L) (h1 : Rd w A1 x.1) (h2 : Rd w A2 x.2) (hn : L.length = n) (e1 : x.1.length = n1) (e2 : x.2.length = n2) (hc1 : n1 ≤ c1) (hc2 : n2 ≤ c2) (hl : n ≤ 10000) (hnc : n ≤ c) (hR : Rises L) (hS : Small L) (hS1 : Small [x]) :
    Calls Try.prog 23 #[.slice A n c, .agg #[.slice A1 n1 c1, .slice A2 n2 c2]] w (Ret w (CellsO w.heap.size (repl L x.1 [x]))) :=
  (put_anyD n n1 n2 c c1 c2 w hr h1 h2 hn e1 e2 hc1 hc2 hl hnc hR hS hS1).mono fun _ _ ⟨v, he, hx, h⟩ => ⟨v, he, hx, h.o⟩
end Go.Proofs.Ytmamhinpkioogaa
