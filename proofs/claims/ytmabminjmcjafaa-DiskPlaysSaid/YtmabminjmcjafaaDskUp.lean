/-
  The document's Put.
-/
import Derived.Test.YtmabminjmcjafaaDskU
import Derived.Test.YtmabminjmcjafaaChn
namespace Go.Proofs.Ytmabminjmcjafaa
open Go.RowKit

theorem run_field7 (g i : Nat) (w : World) (hi : i < 5 := by decide) : (Instr.fieldAt 39 (.pointer (some ⟨g, 0, none⟩)) i).run Try.prog w = .ok (.pointer (some ⟨g, i, none⟩)) w := by
  match i, hi with
  | 0, _ => simp [go_sem]
  | 1, _ => simp [go_sem]
  | 2, _ => simp [go_sem]
  | 3, _ => simp [go_sem]
  | 4, _ => simp [go_sem]
theorem builtW7 (k : Int) (s : ByteArray) : Try.prog.built 65 [(0, .int .i64 k), (1, .string s)] = some #[.int .i64 k, .string s] := by kernel_rfl
theorem build_w7 (k : Int) (s : ByteArray) (W : World) : (Instr.buildSlice 37 1 #[(0, .agg #[.int .i64 k, .string s])]).run Try.prog W = .ok (.slice (some ⟨W.heap.size, 0, none⟩) 1 1) (W.alloc (.cells #[.int .i64 k, .string s] 65)) := by kernel_rfl
theorem store_w7 {w : World} {g : Nat} {x : Value} (hc : w.cell? ⟨g, 1, none⟩ = some x) (hf : w.frozen? ⟨g, 1, none⟩ = false) (A : Option Addr) (n c : Nat) : (storeVar 37 ⟨g, 1, none⟩ (.slice A n c)).run Try.prog w = .ok () (w.setCell ⟨g, 1, none⟩ (.slice A n c)) := by
  simp [storeVar, go_sem, hc, hf]
theorem info_w7 : (Try.prog.info? 65).map (fun i => (i.zero, i.size, i.bytes)) = some (some (.agg #[.int .i64 0, .string ⟨#[]⟩]), 2, 24) := by kernel_rfl
theorem append_w7 {W : World} {B : Nat} {A : Option Addr} {c : Nat} {L : List (Nat × List UInt8)} (x : Nat × List UInt8) (hown : W.ownsRow B 65 2 (.slice A L.length c) L.length (wvs L)) (hk : L.length ≤ 1000000) (hB : B ≤ W.heap.size) (ty : Nat) :
    ∃ A' c' W2, (Builtin.append_ #[37, 37] ty #[.slice A L.length c, .slice (some ⟨W.heap.size, 0, none⟩) 1 1]).run Try.prog (W.alloc (.cells #[.int .i64 (x.1 : Int), .string ⟨x.2.toArray⟩] 65)) = .ok (.slice A' (L.length + 1) c') W2 ∧
      W2.ownsRow B 65 2 (.slice A' (L.length + 1) c') (L.length + 1) (wvs (L ++ [x])) ∧ (W.alloc (.cells #[.int .i64 (x.1 : Int), .string ⟨x.2.toArray⟩] 65)).grownBy W2 (Value.slice A L.length c).ownBlock := by
  obtain ⟨i0, hi, hz, hsz, hby⟩ : ∃ i0, Try.prog.info? 65 = some i0 ∧ i0.zero = some (.agg #[.int .i64 0, .string ⟨#[]⟩]) ∧ i0.size = 2 ∧ i0.bytes = 24 := by
    have h := info_w7
    cases hq : Try.prog.info? 65 with
    | none => rw [hq] at h; cases h
    | some i =>
      rw [hq] at h
      simp only [Option.map_some, Option.some.injEq, Prod.mk.injEq] at h
      exact ⟨i, rfl, h.1, h.2.1, h.2.2⟩
  have R := Rw.new W 65 [.int .i64 (x.1 : Int), .string ⟨x.2.toArray⟩]
  have hX := Ext.alloc W (.cells #[.int .i64 (x.1 : Int), .string ⟨x.2.toArray⟩] 65)
  have hown' : (W.alloc (.cells #[.int .i64 (x.1 : Int), .string ⟨x.2.toArray⟩] 65)).ownsRow B 65 2 (.slice A L.length c) L.length (wvs L) := World.ownsRow.alloc hown _
  have hone : ∀ u ∈ [Value.int .i64 (x.1 : Int), .string ⟨x.2.toArray⟩], u.oneCell' = true := by
    intro u hu
    simp only [List.mem_cons, List.not_mem_nil, or_false] at hu
    rcases hu with rfl | rfl <;> rfl
  obtain ⟨v', w', hrun, h3, h4, -, -⟩ := run_append_own_at (P := Try.prog) (w := W.alloc (.cells #[.int .i64 (x.1 : Int), .string ⟨x.2.toArray⟩] 65)) B 37 ty 65 i0 _ 2 24 Try.underlying37 hi hz hsz hby rfl (by decide) (.slice A L.length c) L.length (wvs L) hown' ⟨W.heap.size, 0, none⟩ 1 1 [.int .i64 (x.1 : Int), .string ⟨x.2.toArray⟩] rfl (fun j u hu => by rw [add_flat, Nat.zero_add]; exact R.cell hu) hone (by unfold maxLen; omega) (by omega) (Nat.le_trans hB hX.size)
  obtain ⟨A', c', rfl⟩ : ∃ A' c', v' = .slice A' (L.length + 1) c' := by
    rcases h3.2 with ⟨_, h0⟩ | ⟨g', cap, _, hv, _⟩
    · omega
    · exact ⟨_, _, hv⟩
  exact ⟨A', c', w', hrun, by rw [wvs_append]; exact h3, h4⟩
theorem gives_conv {P : Program} {o : Oper} {a : Act} {w : World} {R : Value → World → Prop} {x : Operand} {s t : TypeId} {u v : Value} (h : o.op = .convert s t x) (hx : a.eval x = u) (hrun : (convert s t u).run P w = .ok v w) (hR : R v w) : gives P o a w R := by
  refine gives_of_run (w' := w) (v := v) ?_ hR
  unfold execOp
  simp only [h, hx, Sem.run_bind, hrun, Result.andThen_ok, Sem.run_pure]
theorem ch_at {l : List Nat} {j i : Nat} (h : l[j]? = some i) (t : Nat) (ht : l[t]? = some i) (hn : l.Nodup) : j = t := by
  obtain ⟨h1, e1⟩ := List.getElem?_eq_some_iff.1 h
  obtain ⟨h2, e2⟩ := List.getElem?_eq_some_iff.1 ht
  exact (List.getElem_inj hn).1 (e1.trans e2.symm)
theorem opE_off {D : Dk} (hoff : D.off = false) : D.opE = if D.op.off = true then 8 else 0 := by
  unfold Dk.opE Dk.op
  simp only [hoff, Bool.false_or, decide_eq_true_eq]
section
variable {B g gl cl c d : Nat} {w : World} {A Pp : Option Addr} {D : Dk} {rest : List Value}
theorem rput_arg (h : RefAt B w g gl cl A c rest D) (hlen : D.dur.length ≤ 4096) (i : Int) (n : Nat) (hi : i < 0 ∨ (D.dur.length : Int) ≤ i) : Calls Try.prog 24 #[.pointer (some ⟨g, 0, none⟩), .int .i64 i, .slice Pp n d] w (Same w (.int .i64 1)) := by
  obtain ⟨c0, -⟩ := ref_cells h
  have hl : (D.dur.length : Int) ≤ 4096 := by omega
  generalize D.dur.length = q at *
  by_cases hlt : i < 0
  · clear h hi
    go_enter Try.func24, Try.ntmps24
    go_wp2
    go_ret
    exact ⟨rfl, rfl⟩
  · have hge : (q : Int) ≤ i := by omega
    clear h hi
    go_enter Try.func24, Try.ntmps24
    go_wp2
    go_ret
    exact ⟨rfl, rfl⟩
theorem rput_form (h : RefAt B w g gl cl A c rest D) (hlen : D.dur.length ≤ 4096) (k n : Nat) (hk : k < D.dur.length) (hn : n ≠ 512) (hnl : n ≤ 140737488355328) : Calls Try.prog 24 #[.pointer (some ⟨g, 0, none⟩), .int .i64 (k : Int), .slice Pp n d] w (Same w (.int .i64 3)) := by
  obtain ⟨c0, -⟩ := ref_cells h
  have hl : (D.dur.length : Int) ≤ 4096 := by omega
  have hkI : (k : Int) < (D.dur.length : Int) := by omega
  have hnz : ((n : Int) != 512) = true := by simp; omega
  generalize D.dur.length = q at *
  have h1 : ¬ (k : Int) < 0 := by omega
  have h2 : ¬ (q : Int) ≤ (k : Int) := by omega
  clear h hnl hn hk hkI
  go_enter Try.func24, Try.ntmps24
  go_wp2
  go_ret
  exact ⟨rfl, rfl⟩
theorem rput_off (h : RefAt B w g gl cl A c rest D) (hlen : D.dur.length ≤ 4096) (k : Nat) (hk : k < D.dur.length) (hoff : D.off = true) : Calls Try.prog 24 #[.pointer (some ⟨g, 0, none⟩), .int .i64 (k : Int), .slice Pp 512 d] w (Same w (.int .i64 8)) := by
  obtain ⟨c0, -, -, c3, -⟩ := ref_cells h
  rw [hoff] at c3
  have hl : (D.dur.length : Int) ≤ 4096 := by omega
  have hkI : (k : Int) < (D.dur.length : Int) := by omega
  generalize D.dur.length = q at *
  have h1 : ¬ (k : Int) < 0 := by omega
  have h2 : ¬ (q : Int) ≤ (k : Int) := by omega
  clear h hk hkI hoff
  go_enter Try.func24, Try.ntmps24
  go_wp2
  go_ret
  exact ⟨rfl, rfl⟩
set_option maxRecDepth 20000 in
set_option maxHeartbeats 3200000 in
theorem rput_any (h : RefAt B w g gl cl A c rest D) (hlen : D.dur.length ≤ 4096) (hoff : D.off = false) (hf : D.pen.length < 1000000) (ho : D.ops < 1000000) (ha : D.arm < 9223372036854775808) (k : Nat) (hk : k < D.dur.length)
    (p : List UInt8) (hp : p.length = 512) (hP : ∀ W, Ufr B w W → Rd W Pp p) (hB : B ≤ w.heap.size) :
    Calls Try.prog 24 #[.pointer (some ⟨g, 0, none⟩), .int .i64 (k : Int), .slice Pp 512 d] w (UPost B g w (.int .i64 (D.put k p).opE) (D.put k p).op) := by
  obtain ⟨c0, -, -, c3, -⟩ := ref_cells h
  rw [hoff] at c3
  have hl : (D.dur.length : Int) ≤ 4096 := by omega
  have hkI : (k : Int) < (D.dur.length : Int) := by omega
  have h1 : ¬ (k : Int) < 0 := by omega
  have h2 : ¬ (D.dur.length : Int) ≤ (k : Int) := by omega
  have KO := hide (rop_any h hoff ho ha)
  have HE : Hid ((D.put k p).opE = if D.op.off = true then 8 else 0) := hide (opE_off (D := D.put k p) hoff)
  have HPP := hide hP
  have HF := hide hf
  have HB0 := hide hB
  have HPL := hide hp
  obtain ⟨ob, HOB⟩ : ∃ ob, Hid (D.op.off = ob) := ⟨_, hide rfl⟩
  obtain ⟨er, HEV⟩ : ∃ er, Hid ((D.put k p).opE = er) := ⟨_, hide rfl⟩
  obtain ⟨D3, HD3⟩ : ∃ D3, Hid ((D.put k p).op = D3) := ⟨_, hide rfl⟩
  rw [HEV.out, HD3.out]
  rw [HOB.out] at KO
  generalize D.dur.length = q at *
  clear h hoff hf ho ha hk hP hB hp hlen hkI
  go_enter Try.func24, Try.ntmps24
  go_upto_region 8 with (go_at_call 31; (with_reducible refine KO.out.mono ?_); rintro e w2 ⟨gl2, cl2, A2, c2, rest2, rfl, hr2, hu2⟩; have H2 := hide hr2; have U2 := hide hu2)
  obtain ⟨D1, HD1⟩ : ∃ D1, Hid (D.op = D1) := ⟨_, hide rfl⟩
  rw [HD1.out] at hr2 H2
  have HPEN : Hid (D1.pen = D.pen) := hide (by rw [← HD1.out]; rfl)
  obtain ⟨m, HM⟩ : ∃ m, Hid (D1.pen.length = m) := ⟨_, hide rfl⟩
  obtain ⟨hs, HHS⟩ : ∃ hs, Hid (w2.heap.size = hs) := ⟨_, hide rfl⟩
  have hBw2 : B ≤ w2.drew.heap.size := Nat.le_trans HB0.out U2.out.below.size
  obtain ⟨A', c', W2, hrun, hown, hgr⟩ := append_w7 (W := w2.drew) (B := B) (A := A2) (c := c2) (L := D1.pen) (k, p) ((H2.out.ext (Ext.drew w2)).pen) (by rw [HPEN.out]; have := HF.out; omega) hBw2 37
  rw [HM.out] at hrun hown hgr
  have hs2 : w2.drew.heap.size = hs := HHS.out
  obtain ⟨W1, HW1⟩ : ∃ W1, Hid (w2.drew.alloc (.cells #[.int .i64 (k : Int), .string ⟨p.toArray⟩] 65) = W1) := ⟨_, hide rfl⟩
  have hx1 : Ext w2 W1 := by rw [← HW1.out]; exact (Ext.drew w2).trans (Ext.alloc _ _)
  rw [hs2, HW1.out] at hrun
  rw [HW1.out] at hgr
  have R1 := H2.out.ext hx1
  -- what the append leaves
  have hA2 : ∀ a, A2 = some a → a.block ≠ g ∧ a.block ≠ gl2 := H2.out.ne.2
  have hgW2 : ∀ q t vs, t ≠ 65 → Rw W1 q t vs → Rw W2 q t vs := fun q t vs ht hr => (hgr.block q hr.lt (ne_own (fun a ha e => by
    subst e
    exact hr.apart_own R1.pen ht a ha rfl))).trans hr
  have HG2 := hgW2 _ _ _ (by decide) R1.blk
  have HL2 := hgW2 _ _ _ (by decide) R1.dur
  obtain ⟨W3, HW3⟩ : ∃ W3, Hid (W2.setCell ⟨g, 1, none⟩ (.slice A' (m + 1) c') = W3) := ⟨_, hide rfl⟩
  have hne : ∀ a, A' = some a → a.block ≠ g := fun a ha => HG2.apart_own hown (by decide) a ha
  have HR3 : Hid (RefAt B W3 g gl2 cl2 A' c' rest2 (D1.put k p)) := hide (by
    rw [← HW3.out]
    refine ⟨?_, HL2.far (p := ⟨g, 1, none⟩) H2.out.ne.1.symm _, ?_, H2.out.base, H2.out.cap⟩
    · have h := HG2.set 1 (.slice A' (m + 1) c')
      rw [show refC gl2 cl2 A' c' (D1.put k p) = (refC gl2 cl2 A2 c2 D1).set 1 (.slice A' (m + 1) c') from by
        unfold refC Dk.put
        simp only [List.set_cons_succ, List.set_cons_zero, List.length_append, List.length_singleton, HM.out]]
      exact h
    · show W2.setCell _ _ |>.ownsRow B 65 2 (.slice A' (D1.pen ++ [(k, p)]).length c') (D1.pen ++ [(k, p)]).length (wvs (D1.pen ++ [(k, p)]))
      rw [List.length_append, List.length_singleton, HM.out]
      exact ownsRow_far hown fun a ha => Below.heap_setCell W2 ⟨g, 1, none⟩ _ a.block (hne a ha))
  have hbA : ∀ b, (Value.slice A2 m c2).ownBlock = some b → B ≤ b := fun b hb => by
    cases hA : A2 with
    | none => rw [hA] at hb; cases hb
    | some a =>
      have h3 := (own_rw H2.out.pen a hA).1
      rw [hA] at hb
      have hb2 : a.block = b ∨ True := .inr trivial
      rcases H2.out.pen.2 with ⟨hv, _⟩ | ⟨g2, cap, cur, hv, hb4, _⟩
      · injection hv with h4; rw [hA] at h4; cases h4
      · injection hv with h4
        rw [hA] at h4
        injection h4 with h4
        subst h4
        injection hb with hb
        subst hb
        exact hb4
  have U13 : Ufr B W1 W2 := ⟨⟨hgr.os, hgr.tape, hgr.output, hgr.size, fun q hq => by
    have hlt : q < W1.heap.size := Nat.lt_of_lt_of_le hq (Nat.le_trans hBw2 hx1.size)
    exact hgr.block q hlt (fun e => by have := hbA q e.symm; omega)⟩, fun q t vs _ _ h3 hr => hgW2 q t vs h3 hr⟩
  have U23 : Ufr B W2 W3 := by
    rw [← HW3.out]
    exact ⟨⟨rfl, rfl, rfl, by simp [World.setCell], fun q hq => Below.heap_setCell W2 ⟨g, 1, none⟩ _ q (fun e => by simp only at e; have := H2.out.base.1; omega)⟩, fun q t vs ht _ _ hr => hr.far (p := ⟨g, 1, none⟩) (fun e => by simp only at e; subst e; exact hr.apart HG2 ht rfl) _⟩
  have U1 : Ufr B w W1 := U2.out.trans (Ufr.ext hx1 hBw2)
  have HU3 := hide ((U1.trans U13).trans U23)
  obtain ⟨Ws, HWS⟩ : ∃ Ws, Hid ([w2.drew, W1, W2, W3] = Ws) := ⟨_, hide rfl⟩
  have HRDS : ∀ j, Rd (Ws.getD j w2) Pp p := fun j => by
    rw [← HWS.out]
    match j with
    | 0 => exact HPP.out _ (U2.out.trans (Ufr.ext (Ext.drew w2) hBw2))
    | 1 => exact HPP.out _ U1
    | 2 => exact HPP.out _ (U1.trans U13)
    | 3 => exact HPP.out _ HU3.out
    | j + 4 => exact HPP.out _ U2.out
  have HCV := hide (fun (j : Nat) => (show (convert 32 9 (.slice Pp 512 d)).run Try.prog (Ws.getD j w2) = .ok (.string ⟨p.toArray⟩) (Ws.getD j w2) from by
    have h := Rd.str (P := Try.prog) (w := Ws.getD j w2) (HRDS j) 32 9 5 d Try.underlying32 Try.underlying5 Try.underlying9
    rw [HPL.out] at h
    exact h))
  have HC0 := hide (show (Ws.getD 0 w2).cell? ⟨g, 1, none⟩ = some (.slice A2 m c2) from by rw [← HWS.out, ← HM.out]; exact (H2.out.ext (Ext.drew w2)).blk.cell (i := 1) rfl)
  have HC1 := hide (show (Ws.getD 1 w2).cell? ⟨g, 1, none⟩ = some (.slice A2 m c2) from by rw [← HWS.out, ← HM.out]; exact R1.blk.cell (i := 1) rfl)
  have HB := hide (show (Instr.buildSlice 37 1 #[(0, .agg #[.int .i64 (k : Int), .string ⟨p.toArray⟩])]).run Try.prog (Ws.getD 0 w2) = .ok (.slice (some ⟨hs, 0, none⟩) 1 1) (Ws.getD 1 w2) from by
    rw [← HWS.out]
    show _ = Result.ok _ W1
    rw [← HW1.out, ← hs2]
    exact build_w7 _ _ _)
  have HA := hide (show (Builtin.append_ #[37, 37] 37 #[.slice A2 m c2, .slice (some ⟨hs, 0, none⟩) 1 1]).run Try.prog (Ws.getD 1 w2) = .ok (.slice A' (m + 1) c') (Ws.getD 2 w2) from by rw [← HWS.out]; exact hrun)
  have HS := hide (show (storeVar 37 ⟨g, 1, none⟩ (.slice A' (m + 1) c')).run Try.prog (Ws.getD 2 w2) = .ok () ((Ws.getD 2 w2).setCell ⟨g, 1, none⟩ (.slice A' (m + 1) c')) from by rw [← HWS.out]; exact store_w7 (HG2.cell (i := 1) rfl) (HG2.frozen 1) A' (m + 1) c')
  have HS3 := hide (show (Ws.getD 2 w2).setCell ⟨g, 1, none⟩ (.slice A' (m + 1) c') = Ws.getD 3 w2 from by rw [← HWS.out]; exact HW3.out)
  have HD2 : Hid (D1.put k p = D3) := hide (by rw [← HD1.out, ← HD3.out]; rfl)
  rw [HD2.out] at HR3
  clear hr2 hu2 hrun hown hgr R1 hgW2 HG2 HL2 hne hbA U13 U23 U1 HRDS hx1 hBw2 hA2 hs2
  have HW0 := hide (show Ws.getD 0 w2 = w2.drew from by rw [← HWS.out]; rfl)
  have HW3b := hide (show Ws.getD 3 w2 = W3 from by rw [← HWS.out]; rfl)
  rename_i hK
  refine wp_region_chain [.pointer (some ⟨g, 0, none⟩), .pointer (some ⟨g, 0, none⟩), .pointer (some ⟨g, 0, none⟩), .pointer (some ⟨g, 1, none⟩), .slice A2 m c2, .int .i64 (k : Int), .slice Pp 512 d, .string ⟨p.toArray⟩, .agg #[.int .i64 (k : Int), .string ⟨p.toArray⟩], .slice (some ⟨hs, 0, none⟩) 1 1, .slice A' (m + 1) c', .pointer (some ⟨g, 0, none⟩), .pointer (some ⟨g, 1, none⟩), undef] Ws [9, 10, 13] (by kernel_rfl) (by kernel_rfl) (by kernel_rfl) HW0.out ?_ ?_
  · refine ⟨?_, ?_, ?_, ?_, ?_, ?_, ?_, ?_, ?_, ?_, ?_, ?_, ?_, ?_, trivial⟩
    · intro az hk H
      rw [if_neg (by decide)]
      intro j hj
      refine .inl ⟨wanted_none rfl, gives_move rfl ?_⟩
      rw [(ev (show az.tmps[0]? = some (.pointer (some ⟨g, 0, none⟩)) from hk 0 rfl))]
      exact ⟨rfl, rfl⟩
    · intro az hk H
      rw [if_neg (by decide)]
      intro j hj
      refine .inl ⟨wanted_none rfl, gives_move rfl ?_⟩
      rw [(ev (show az.tmps[0]? = some (.pointer (some ⟨g, 0, none⟩)) from hk 0 rfl))]
      exact ⟨rfl, rfl⟩
    · intro az hk H
      rw [if_neg (by decide)]
      intro j hj
      exact .inl ⟨wanted_none rfl, gives_nilCheck rfl (ev (H 1 rfl _ rfl 29 rfl)) ⟨rfl, rfl⟩⟩
    · intro az hk H
      rw [if_neg (by decide)]
      intro j hj
      exact .inl ⟨wanted_none rfl, gives_fieldP rfl (ev (H 2 rfl _ rfl 30 rfl)) (run_field7 g 1 _) ⟨rfl, rfl⟩⟩
    · intro az hk H
      rw [if_neg (by decide)]
      intro j hj
      have hj2 : j ≤ 1 := hj
      have hj3 : j = 0 ∨ j = 1 := by omega
      rcases hj3 with rfl | rfl
      · exact .inl ⟨wanted_none rfl, gives_load_one rfl (ev (H 3 rfl _ rfl 31 rfl)) Try.underlying37 (HC0.out) ⟨rfl, rfl⟩⟩
      · exact .inl ⟨wanted_none rfl, gives_load_one rfl (ev (H 3 rfl _ rfl 31 rfl)) Try.underlying37 (HC1.out) ⟨rfl, rfl⟩⟩
    · intro az hk H
      rw [if_neg (by decide)]
      intro j hj
      refine .inl ⟨wanted_none rfl, gives_move rfl ?_⟩
      rw [(ev (show az.tmps[1]? = some (.int .i64 (k : Int)) from hk 1 rfl))]
      exact ⟨rfl, rfl⟩
    · intro az hk H
      rw [if_neg (by decide)]
      intro j hj
      refine .inl ⟨wanted_none rfl, gives_move rfl ?_⟩
      rw [(ev (show az.tmps[2]? = some (.slice Pp 512 d) from hk 2 rfl))]
      exact ⟨rfl, rfl⟩
    · intro az hk H
      rw [if_neg (by decide)]
      intro j hj
      have hrun : (convert 32 9 (.slice Pp 512 d)).run Try.prog (Ws.getD j w2) = .ok (.string ⟨p.toArray⟩) (Ws.getD j w2) := HCV.out j
      refine .inl ⟨wanted_none rfl, gives_conv rfl (ev (H 6 rfl _ rfl 34 rfl)) hrun ⟨rfl, rfl⟩⟩
    · intro az hk H
      rw [if_neg (by decide)]
      intro j hj
      refine .inl ⟨wanted_none rfl, gives_build rfl #[.int .i64 (k : Int), .string ⟨p.toArray⟩] [(0, .int .i64 (k : Int)), (1, .string ⟨p.toArray⟩)] ?_ (builtW7 _ _) ⟨rfl, rfl⟩⟩
      simp only [List.map_cons, List.map_nil, (ev (H 5 rfl _ rfl 33 rfl)), (ev (H 7 rfl _ rfl 35 rfl))]
      rfl
    · intro az hk H
      rw [if_pos (by decide)]
      intro j hj
      obtain rfl : j = 0 := ch_at hj 0 rfl (by decide)
      refine ⟨wanted_none rfl, gives_buildSlice rfl [(0, .agg #[.int .i64 (k : Int), .string ⟨p.toArray⟩])] ?_ (HB.out) ⟨rfl, rfl⟩⟩
      simp only [List.map_cons, List.map_nil, (ev (H 8 rfl _ rfl 36 rfl))]
      rfl
    · intro az hk H
      rw [if_pos (by decide)]
      intro j hj
      obtain rfl : j = 1 := ch_at hj 1 rfl (by decide)
      exact ⟨wanted_none rfl, gives_append rfl (ev (H 4 rfl _ rfl 32 rfl)) (ev (H 9 rfl _ rfl 37 rfl)) (HA.out) ⟨rfl, rfl⟩⟩
    · intro az hk H
      rw [if_neg (by decide)]
      intro j hj
      exact .inl ⟨wanted_none rfl, gives_nilCheck rfl (ev (H 0 rfl _ rfl 28 rfl)) ⟨rfl, rfl⟩⟩
    · intro az hk H
      rw [if_neg (by decide)]
      intro j hj
      exact .inl ⟨wanted_none rfl, gives_fieldP rfl (ev (H 11 rfl _ rfl 39 rfl)) (run_field7 g 1 _) ⟨rfl, rfl⟩⟩
    · intro az hk H
      rw [if_pos (by decide)]
      intro j hj
      obtain rfl : j = 2 := ch_at hj 2 rfl (by decide)
      exact ⟨wanted_none rfl, gives_store_one rfl (ev (H 12 rfl _ rfl 40 rfl)) (ev (H 10 rfl _ rfl 38 rfl)) (HS.out) ⟨rfl, HS3.out⟩⟩
  · simp only [setsOf, List.zipIdx_cons, List.zipIdx_nil, List.filterMap_cons, List.filterMap_nil, Option.map_some, Option.map_none, List.foldl_cons, List.foldl_nil, List.setIfInBounds_toArray, List.set_cons_succ, List.set_cons_zero, List.getD_cons_zero, List.getD_cons_succ, Nat.zero_add, List.length_cons, List.length_nil]
    rw [HW3b.out]
    refine hK _ _ ?_
    cases ob with
    | false =>
      obtain rfl : er = 0 := by rw [← HEV.out, HE.out, HOB.out]; rfl
      go_wp2
      go_ret
      exact ⟨gl2, cl2, A', c', rest2, rfl, HR3.out, HU3.out⟩
    | true =>
      obtain rfl : er = 8 := by rw [← HEV.out, HE.out, HOB.out]; rfl
      go_wp2
      go_ret
      exact ⟨gl2, cl2, A', c', rest2, rfl, HR3.out, HU3.out⟩
end
end Go.Proofs.Ytmabminjmcjafaa
