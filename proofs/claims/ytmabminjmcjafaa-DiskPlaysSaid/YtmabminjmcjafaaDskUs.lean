/-
  The document's Sync and Restart.
-/
import Derived.Test.YtmabminjmcjafaaDskUp
import Derived.Test.YtmabminjmcjafaaDskE
namespace Go.Proofs.Ytmabminjmcjafaa
open Go.RowKit

theorem run_indexW7 (b n c i : Nat) (h : i < n) (w : World) : (Instr.indexAt 37 (.slice (some ⟨b, 0, none⟩) n c) (.int .i64 (i : Int))).run Try.prog w = .ok (.pointer (some ⟨b, i * 2, none⟩)) w := by
  have hi : (i : Int) < (n : Int) := by omega
  have h0 : (0 : Int) ≤ (i : Int) := by omega
  simp [go_sem, Try.underlying37, hi, h0, add_flat]
theorem run_indexT7 (b n c i : Nat) (h : i < n) (w : World) : (Instr.indexAt 36 (.slice (some ⟨b, 0, none⟩) n c) (.int .i64 (i : Int))).run Try.prog w = .ok (.pointer (some ⟨b, i, none⟩)) w := by
  have hi : (i : Int) < (n : Int) := by omega
  have h0 : (0 : Int) ≤ (i : Int) := by omega
  simp [go_sem, Try.underlying36, hi, h0, add_flat]
theorem run_fieldW7 (b off i : Nat) (w : World) (hi : i < 2 := by decide) : (Instr.fieldAt 65 (.pointer (some ⟨b, off, none⟩)) i).run Try.prog w = .ok (.pointer (some ⟨b, off + i, none⟩)) w := by
  match i, hi with
  | 0, _ => simp [go_sem, add_flat]
  | 1, _ => simp [go_sem, add_flat]
theorem load_slice {w : World} {ty e : TypeId} {ad : Addr} {A : Option Addr} {n c : Nat} (hu : Try.prog.underlying ty = some (.slice e)) (hc : w.cell? ad = some (.slice A n c)) : (loadVar ty ad).run Try.prog w = .ok (.slice A n c) w := by
  simp [loadVar, isAgg, run_underlying hu, go_sem, hc]
theorem load_int7 {w : World} {ad : Addr} {v : Int} (hc : w.cell? ad = some (.int .i64 v)) : (loadVar 3 ad).run Try.prog w = .ok (.int .i64 v) w := by
  simp [loadVar, isAgg, go_sem, hc]
theorem load_str7 {w : World} {ad : Addr} {s : ByteArray} (hc : w.cell? ad = some (.string s)) : (loadVar 9 ad).run Try.prog w = .ok (.string s) w := by
  simp [loadVar, isAgg, go_sem, hc]
theorem store_str7 {w : World} {ad : Addr} {x : Value} (hc : w.cell? ad = some x) (hf : w.frozen? ad = false) (s : ByteArray) : (storeVar 9 ad (.string s)).run Try.prog w = .ok () (w.setCell ad (.string s)) := by
  simp [storeVar, go_sem, hc, hf]
theorem gives_load_v {P : Program} {o : Oper} {a : Act} {w : World} {R : Value → World → Prop} {x : Operand} {ty : TypeId} {ad : Addr} {v : Value} (h : o.op = .load ty x) (hx : a.eval x = .pointer (some ad)) (hl : (loadVar ty ad).run P w = .ok v w) (hR : R v w) : gives P o a w R := by
  unfold gives execOp
  simp only [h, hx, Instr.loadAt, Instr.sureAddr, Sem.run_bind, Sem.run_pure, Result.andThen_ok, hl]
  exact hR
theorem worldU {B : Nat} {w W : World} (_ : Hid (Ufr B w W)) : ∃ wr, wr = W := ⟨W, rfl⟩
section
variable {B g gl cl c : Nat} {w wr : World} {A : Option Addr} {D : Dk} {rest : List Value}
theorem tvs_set (l : List (List UInt8)) (k : Nat) (s : List UInt8) : tvs (l.set k s) = (tvs l).set k (.string ⟨s.toArray⟩) := by simp [tvs, List.map_set]
theorem ref_lay (h : RefAt B w g gl cl A c rest D) (k : Nat) (s : List UInt8) (hk : k < D.dur.length) : RefAt B (w.setCell ⟨gl, k, none⟩ (.string ⟨s.toArray⟩)) g gl cl A c rest ⟨D.dur.set k s, D.pen, D.ops, D.arm, D.off⟩ := by
  obtain ⟨n1, n2⟩ := h.ne
  refine ⟨?_, ?_, ?_, h.base, by show (D.dur.set k s).length ≤ cl; rw [List.length_set]; exact h.cap⟩
  · have e : refC gl cl A c ⟨D.dur.set k s, D.pen, D.ops, D.arm, D.off⟩ = refC gl cl A c D := by unfold refC; simp only [List.length_set]
    rw [e]
    exact h.blk.far (p := ⟨gl, k, none⟩) n1 _
  · have h2 := h.dur.set k (.string ⟨s.toArray⟩)
    rw [List.set_append_left _ _ (by rw [tvs_length]; exact hk), ← tvs_set] at h2
    exact h2
  · exact ownsRow_far h.pen fun a ha => Below.heap_setCell w ⟨gl, k, none⟩ _ a.block (n2 a ha).2
theorem ufr_lay (h : RefAt B w g gl cl A c rest D) (k : Nat) (v : Value) : Ufr B w (w.setCell ⟨gl, k, none⟩ v) :=
  ⟨⟨rfl, rfl, rfl, by simp [World.setCell], fun q hq => Below.heap_setCell w ⟨gl, k, none⟩ v q (fun e => by simp only at e; have := h.base.2; omega)⟩, fun q t vs _ h2 _ hr => hr.far (p := ⟨gl, k, none⟩) (fun e => by simp only at e; subst e; exact hr.apart h.dur h2 rfl) v⟩
theorem ref_empty (h : RefAt B w g gl cl A c rest D) : RefAt B (w.setCell ⟨g, 1, none⟩ (.slice none 0 0)) g gl cl none 0 rest ⟨D.dur, [], D.ops, D.arm, D.off⟩ := by
  obtain ⟨n1, n2⟩ := h.ne
  exact ⟨h.blk.set 1 _, h.dur.far (p := ⟨g, 1, none⟩) n1.symm _, World.ownsRow_nil _ _ _ _, h.base, h.cap⟩
theorem rsync_off (h : RefAt B w g gl cl A c rest D) (hoff : D.off = true) : Calls Try.prog 25 #[.pointer (some ⟨g, 0, none⟩)] w (Same w (.int .i64 8)) := by
  obtain ⟨-, -, -, c3, -⟩ := ref_cells h
  rw [hoff] at c3
  clear h hoff
  go_enter Try.func25, Try.ntmps25
  go_wp2
  go_ret
  exact ⟨rfl, rfl⟩
theorem rsync_fall (h : RefAt B w g gl cl A c rest D) (hoff : D.off = false) (ha1 : D.arm = 1) (ho : D.ops < 1000000) : Calls Try.prog 25 #[.pointer (some ⟨g, 0, none⟩)] w (UPost B g w (.int .i64 8) D.op) := by
  obtain ⟨-, -, -, c3, -⟩ := ref_cells h
  rw [hoff] at c3
  have KO := hide (rop_any h hoff ho (by omega))
  rw [show D.op.off = true from by unfold Dk.op; simp [ha1]] at KO
  clear h hoff ha1 ho
  go_enter Try.func25, Try.ntmps25
  go_wp2_with (go_at_call 31; (with_reducible refine KO.out.mono ?_); rintro e w2 ⟨gl2, cl2, A2, c2, rest2, rfl, hr2, hu2⟩; have H2 := hide hr2; have U2 := hide hu2)
  go_ret
  exact ⟨gl2, cl2, A2, c2, rest2, rfl, H2.out, U2.out⟩
set_option maxRecDepth 20000 in
set_option maxHeartbeats 3200000 in
theorem rsync_any (h : RefAt B w g gl cl A c rest D) (ok : D.Ok) (hoff : D.off = false) (ha1 : D.arm ≠ 1) (ha : D.arm < 9223372036854775808) (hf : D.pen.length < 1000000) (ho : D.ops < 1000000) (hB : B ≤ w.heap.size) :
    Calls Try.prog 25 #[.pointer (some ⟨g, 0, none⟩)] w (UPost B g w (.int .i64 0) (D.op.settled fun _ => true)) := by
  obtain ⟨-, -, -, c3, -⟩ := ref_cells h
  rw [hoff] at c3
  have KO := hide (rop_any h hoff ho ha)
  rw [show D.op.off = false from by unfold Dk.op; simp [ha1, hoff]] at KO
  have HOK0 := hide (Dk.op_ok ok)
  have HF0 := hide (show D.op.pen.length < 1000000 from hf)
  have HBW := hide hB
  obtain ⟨DF, HDF⟩ : ∃ DF, Hid ((D.op.settled fun _ => true) = DF) := ⟨_, hide rfl⟩
  rw [HDF.out]
  clear h hoff ha1 ha ho hf hB ok
  go_enter Try.func25, Try.ntmps25
  go_upto_region 6 with (go_at_call 31; (with_reducible refine KO.out.mono ?_); rintro e w2 ⟨gl, cl, A, c, rest, rfl, hr2, hu2⟩; have H2 := hide hr2; have U2 := hide hu2; clear hr2 hu2)
  clear KO c3
  obtain ⟨D1, HD1⟩ : ∃ D1, Hid (D.op = D1) := ⟨_, hide rfl⟩
  rw [HD1.out] at H2 HOK0 HF0 HDF
  have HOK := HOK0
  obtain ⟨m, HM⟩ : ∃ m, Hid (D1.pen.length = m) := ⟨_, hide rfl⟩
  obtain ⟨n, HN⟩ : ∃ n, Hid (D1.dur.length = n) := ⟨_, hide rfl⟩
  have hm : (m : Int) < 1000000 := by have := HM.out; have := HF0.out; omega
  have HB0 : Hid (B ≤ w.heap.size) := HBW
  obtain ⟨kept, HKEPT⟩ : ∃ kept : Nat → Bool, Hid (kept = fun _ => true) := ⟨_, hide rfl⟩
  rw [← HKEPT.out] at HDF
  clear HD1 HBW HOK0
  go_loopw [3] (fun iv wr => ∃ i : Nat, i ≤ m ∧ iv = .int .i64 (i : Int) ∧ Hid (RefAt B wr g gl cl A c rest ⟨durK kept D1.dur D1.pen i, D1.pen, D1.ops, D1.arm, D1.off⟩) ∧ Hid (Ufr B w wr)) (fun iv _ => m - (intOf iv).toNat)
  case atStart => exact ⟨0, Nat.zero_le _, rfl, hide H2.out, U2⟩
  case round =>
    obtain ⟨i, hi, rfl, HR, HU⟩ := hrel
    obtain ⟨wr, HWR⟩ := worldU HU
    subst HWR
    have q1 := HR.out.blk.cell (i := 1) rfl
    rw [show (⟨durK kept D1.dur D1.pen i, D1.pen, D1.ops, D1.arm, D1.off⟩ : Dk).pen.length = m from HM.out] at q1
    by_cases hlt : i < m
    · have hii : (i : Int) < (m : Int) := by omega
      obtain ⟨x, hx⟩ : ∃ x, D1.pen[i]? = some x := ⟨_, List.getElem?_eq_getElem (by rw [HM.out]; exact hlt)⟩
      have hxn : x.1 < D1.dur.length := (HOK.out.pen x (List.mem_of_getElem? hx)).1
      have hown := HR.out.pen
      obtain ⟨e1, e2⟩ := wvs_get D1.pen i x hx
      obtain ⟨b, hA⟩ : ∃ b, A = some ⟨b, 0, none⟩ := by
        rcases hown.2 with ⟨_, h0⟩ | ⟨g2, cap, cur, hv, _⟩
        · have h0 : D1.pen.length = 0 := h0
          rw [HM.out] at h0; omega
        · injection hv with hv; exact ⟨g2, hv⟩
      subst hA
      have HRD := hide (HR.out.ext (Ext.drew wr))
      have HNN : Hid ((durK kept D1.dur D1.pen i).length = n) := hide (by rw [durK_len, HN.out])
      have KG0 := hide (show wr.drew.cell? ⟨g, 0, none⟩ = some (.slice (some ⟨gl, 0, none⟩) n cl) from by have h := HRD.out.blk.cell (i := 0) rfl; rw [show (⟨durK kept D1.dur D1.pen i, D1.pen, D1.ops, D1.arm, D1.off⟩ : Dk).dur.length = n from HNN.out] at h; exact h)
      have KG1 := hide (show wr.drew.cell? ⟨g, 1, none⟩ = some (.slice (some ⟨b, 0, none⟩) m c) from by have h := HRD.out.blk.cell (i := 1) rfl; rw [show (⟨durK kept D1.dur D1.pen i, D1.pen, D1.ops, D1.arm, D1.off⟩ : Dk).pen.length = m from HM.out] at h; exact h)
      have k1 := HRD.out.pen.cells (g := b) rfl (i * 2) _ e1
      have k2 := HRD.out.pen.cells (g := b) rfl (i * 2 + 1) _ e2
      rw [add_flat, Nat.zero_add] at k1 k2
      have KW0 := hide k1
      have KW1 := hide k2
      have HLT := hide hlt
      have HXN := hide (show x.1 < n from by rw [← HN.out]; exact hxn)
      have hcl : wr.drew.cell? ⟨gl, x.1, none⟩ = some (.string ⟨((durK kept D1.dur D1.pen i).getD x.1 []).toArray⟩) := HRD.out.dur.cell (by
        rw [List.getElem?_append_left (by rw [tvs_length, durK_len]; exact hxn)]
        refine tvs_get _ _ _ ?_
        rw [List.getD_eq_getElem?_getD, List.getElem?_eq_getElem (by rw [durK_len]; exact hxn)]
        rfl)
      have KST := hide (store_str7 hcl (HRD.out.dur.frozen x.1) ⟨x.2.toArray⟩)
      have HR2 := hide (show RefAt B (wr.drew.setCell ⟨gl, x.1, none⟩ (.string ⟨x.2.toArray⟩)) g gl cl (some ⟨b, 0, none⟩) c rest ⟨(durK kept D1.dur D1.pen i).set x.1 x.2, D1.pen, D1.ops, D1.arm, D1.off⟩ from ref_lay HRD.out x.1 x.2 (by show x.1 < (durK kept D1.dur D1.pen i).length; rw [durK_len]; exact hxn))
      have HU2 := hide (show Ufr B w (wr.drew.setCell ⟨gl, x.1, none⟩ (.string ⟨x.2.toArray⟩)) from (HU.out.trans (Ufr.ext (Ext.drew wr) (Nat.le_trans HB0.out HU.out.below.size))).trans (ufr_lay HRD.out x.1 _))
      have HSUC := hide (durK_succ kept D1.dur D1.pen i x hx)
      clear k1 k2 hown e1 e2 hxn hcl hx
      go_upto_region 8 with fail
      refine wp_region_chain [.pointer (some ⟨g, 0, none⟩), .pointer (some ⟨g, 0, none⟩), .pointer (some ⟨g, 0, none⟩), .slice (some ⟨gl, 0, none⟩) n cl, .pointer (some ⟨g, 0, none⟩), .pointer (some ⟨g, 0, none⟩), .pointer (some ⟨g, 1, none⟩), .slice (some ⟨b, 0, none⟩) m c, .int .i64 (i : Int), .pointer (some ⟨b, i * 2, none⟩), .pointer (some ⟨b, i * 2, none⟩), .int .i64 (x.1 : Int), .pointer (some ⟨g, 0, none⟩), .pointer (some ⟨g, 0, none⟩), .pointer (some ⟨g, 1, none⟩), .slice (some ⟨b, 0, none⟩) m c, .int .i64 (i : Int), .pointer (some ⟨b, i * 2, none⟩), .pointer (some ⟨b, i * 2 + 1, none⟩), .string ⟨x.2.toArray⟩, .pointer (some ⟨gl, x.1, none⟩), undef] [wr.drew, wr.drew.setCell ⟨gl, x.1, none⟩ (.string ⟨x.2.toArray⟩)] [21] (by kernel_rfl) (by kernel_rfl) (by kernel_rfl) rfl ?_ ?_
      · refine ⟨?_, ?_, ?_, ?_, ?_, ?_, ?_, ?_, ?_, ?_, ?_, ?_, ?_, ?_, ?_, ?_, ?_, ?_, ?_, ?_, ?_, ?_, trivial⟩
        · intro az hk H
          rw [if_neg (by decide)]
          intro j hj
          refine .inl ⟨wanted_none rfl, gives_move rfl ?_⟩
          rw [(ev (show az.tmps[0]? = some (.pointer (some ⟨g, 0, none⟩)) from hk 0 rfl))]
          exact ⟨rfl, rfl⟩
        · intro az hk H
          rw [if_neg (by decide)]
          intro j hj
          exact .inl ⟨wanted_none rfl, gives_nilCheck rfl (ev (H 0 rfl _ rfl 19 rfl)) ⟨rfl, rfl⟩⟩
        · intro az hk H
          rw [if_neg (by decide)]
          intro j hj
          exact .inl ⟨wanted_none rfl, gives_fieldP rfl (ev (H 1 rfl _ rfl 20 rfl)) (run_field7 g 0 _) ⟨rfl, rfl⟩⟩
        · intro az hk H
          rw [if_neg (by decide)]
          intro j hj
          have hj2 : j ≤ 0 := hj
          obtain rfl : j = 0 := by omega
          exact .inl ⟨wanted_none rfl, gives_load_v rfl (ev (H 2 rfl _ rfl 21 rfl)) (load_slice Try.underlying36 KG0.out) ⟨rfl, rfl⟩⟩
        · intro az hk H
          rw [if_neg (by decide)]
          intro j hj
          refine .inl ⟨wanted_none rfl, gives_move rfl ?_⟩
          rw [(ev (show az.tmps[0]? = some (.pointer (some ⟨g, 0, none⟩)) from hk 0 rfl))]
          exact ⟨rfl, rfl⟩
        · intro az hk H
          rw [if_neg (by decide)]
          intro j hj
          exact .inl ⟨wanted_none rfl, gives_nilCheck rfl (ev (H 4 rfl _ rfl 23 rfl)) ⟨rfl, rfl⟩⟩
        · intro az hk H
          rw [if_neg (by decide)]
          intro j hj
          exact .inl ⟨wanted_none rfl, gives_fieldP rfl (ev (H 5 rfl _ rfl 24 rfl)) (run_field7 g 1 _) ⟨rfl, rfl⟩⟩
        · intro az hk H
          rw [if_neg (by decide)]
          intro j hj
          have hj2 : j ≤ 0 := hj
          obtain rfl : j = 0 := by omega
          exact .inl ⟨wanted_none rfl, gives_load_v rfl (ev (H 6 rfl _ rfl 25 rfl)) (load_slice Try.underlying37 KG1.out) ⟨rfl, rfl⟩⟩
        · intro az hk H
          rw [if_neg (by decide)]
          intro j hj
          refine .inl ⟨wanted_none rfl, gives_move rfl ?_⟩
          rw [(ev (show az.tmps[3]? = some (.int .i64 (i : Int)) from hk 3 rfl))]
          exact ⟨rfl, rfl⟩
        · intro az hk H
          rw [if_neg (by decide)]
          intro j hj
          exact .inl ⟨wanted_none rfl, gives_indexP rfl (ev (H 7 rfl _ rfl 26 rfl)) (ev (H 8 rfl _ rfl 27 rfl)) (run_indexW7 b m c i HLT.out _) ⟨rfl, rfl⟩⟩
        · intro az hk H
          rw [if_neg (by decide)]
          intro j hj
          exact .inl ⟨wanted_none rfl, gives_fieldP rfl (ev (H 9 rfl _ rfl 28 rfl)) (run_fieldW7 b (i * 2) 0 _) ⟨rfl, rfl⟩⟩
        · intro az hk H
          rw [if_neg (by decide)]
          intro j hj
          have hj2 : j ≤ 0 := hj
          obtain rfl : j = 0 := by omega
          exact .inl ⟨wanted_none rfl, gives_load_v rfl (ev (H 10 rfl _ rfl 29 rfl)) (load_int7 KW0.out) ⟨rfl, rfl⟩⟩
        · intro az hk H
          rw [if_neg (by decide)]
          intro j hj
          refine .inl ⟨wanted_none rfl, gives_move rfl ?_⟩
          rw [(ev (show az.tmps[0]? = some (.pointer (some ⟨g, 0, none⟩)) from hk 0 rfl))]
          exact ⟨rfl, rfl⟩
        · intro az hk H
          rw [if_neg (by decide)]
          intro j hj
          exact .inl ⟨wanted_none rfl, gives_nilCheck rfl (ev (H 12 rfl _ rfl 31 rfl)) ⟨rfl, rfl⟩⟩
        · intro az hk H
          rw [if_neg (by decide)]
          intro j hj
          exact .inl ⟨wanted_none rfl, gives_fieldP rfl (ev (H 13 rfl _ rfl 32 rfl)) (run_field7 g 1 _) ⟨rfl, rfl⟩⟩
        · intro az hk H
          rw [if_neg (by decide)]
          intro j hj
          have hj2 : j ≤ 0 := hj
          obtain rfl : j = 0 := by omega
          exact .inl ⟨wanted_none rfl, gives_load_v rfl (ev (H 14 rfl _ rfl 33 rfl)) (load_slice Try.underlying37 KG1.out) ⟨rfl, rfl⟩⟩
        · intro az hk H
          rw [if_neg (by decide)]
          intro j hj
          refine .inl ⟨wanted_none rfl, gives_move rfl ?_⟩
          rw [(ev (show az.tmps[3]? = some (.int .i64 (i : Int)) from hk 3 rfl))]
          exact ⟨rfl, rfl⟩
        · intro az hk H
          rw [if_neg (by decide)]
          intro j hj
          exact .inl ⟨wanted_none rfl, gives_indexP rfl (ev (H 15 rfl _ rfl 34 rfl)) (ev (H 16 rfl _ rfl 35 rfl)) (run_indexW7 b m c i HLT.out _) ⟨rfl, rfl⟩⟩
        · intro az hk H
          rw [if_neg (by decide)]
          intro j hj
          exact .inl ⟨wanted_none rfl, gives_fieldP rfl (ev (H 17 rfl _ rfl 36 rfl)) (run_fieldW7 b (i * 2) 1 _) ⟨rfl, rfl⟩⟩
        · intro az hk H
          rw [if_neg (by decide)]
          intro j hj
          have hj2 : j ≤ 0 := hj
          obtain rfl : j = 0 := by omega
          exact .inl ⟨wanted_none rfl, gives_load_v rfl (ev (H 18 rfl _ rfl 37 rfl)) (load_str7 KW1.out) ⟨rfl, rfl⟩⟩
        · intro az hk H
          rw [if_neg (by decide)]
          intro j hj
          exact .inl ⟨wanted_none rfl, gives_indexP rfl (ev (H 3 rfl _ rfl 22 rfl)) (ev (H 11 rfl _ rfl 30 rfl)) (run_indexT7 gl n cl x.1 HXN.out _) ⟨rfl, rfl⟩⟩
        · intro az hk H
          rw [if_pos (by decide)]
          intro j hj
          obtain rfl : j = 0 := ch_at hj 0 rfl (by decide)
          exact ⟨wanted_none rfl, gives_store_one rfl (ev (H 20 rfl _ rfl 39 rfl)) (ev (H 19 rfl _ rfl 38 rfl)) (KST.out) ⟨rfl, rfl⟩⟩
      · simp only [setsOf, List.zipIdx_cons, List.zipIdx_nil, List.filterMap_cons, List.filterMap_nil, Option.map_some, Option.map_none, List.foldl_cons, List.foldl_nil, List.setIfInBounds_toArray, List.set_cons_succ, List.set_cons_zero, List.getD_cons_zero, List.getD_cons_succ, Nat.zero_add, List.length_cons, List.length_nil]
        have HSE : Hid (durK kept D1.dur D1.pen (i + 1) = (durK kept D1.dur D1.pen i).set x.1 x.2) := hide (by rw [HSUC.out, HKEPT.out]; rfl)
        obtain ⟨wz, HWZ⟩ : ∃ wz, Hid (wr.drew.setCell ⟨gl, x.1, none⟩ (.string ⟨x.2.toArray⟩) = wz) := ⟨_, hide rfl⟩
        rw [HWZ.out] at HR2 HU2 ⊢
        rw [← HSE.out] at HR2
        clear KST KG0 KG1 KW0 KW1 HRD q1
        go_wp2
        exact ⟨⟨i + 1, by omega, by go_num, HR2, HU2⟩, by simp [intOf]; omega⟩
    · obtain rfl : m = i := by omega
      have hii : ¬ (m : Int) < (m : Int) := by omega
      have f1 := HR.out.blk.frozen 1
      have HE := hide (ref_empty HR.out)
      have HUE := hide (HU.out.trans (Ufr.cell HR.out 1 (.slice none 0 0)))
      obtain rfl : DF = ⟨durK kept D1.dur D1.pen m, [], D1.ops, D1.arm, D1.off⟩ := by rw [← HDF.out]; unfold Dk.settled; rw [HM.out]
      go_wp2
      go_ret
      exact ⟨gl, cl, none, 0, rest, rfl, HE.out, HUE.out⟩
end
end Go.Proofs.Ytmabminjmcjafaa
