/-
  Encode: contract.
-/
import Derived.Test.YtmamhinpkioogaaPgN
import Derived.Test.YtmamhinpkioogaaMade
import Derived.Test.YtmamhinpkioogaaOwz
import Derived.Test.YtmamhinpkioogaaBlk
import Derived.BigRegion
namespace Go.Proofs.Ytmamhinpkioogaa
open Go.RowKit

theorem make_6 (W : World) : (Instr.makeSlice 28 (.int .i64 6) (.int .i64 504)).run Try.prog W =
    .ok (.slice (some ⟨W.heap.size, 0, none⟩) 6 504) (W.alloc (.cells (madeCells #[.int .u8 0] 504) 5)) := by
  obtain ⟨i0, hi, hz0, hz1, hz2⟩ := info_parts info_u8
  have h := run_make (P := Try.prog) W 28 5 i0 (.int .u8 0) Try.underlying28 hi hz0 .i64 .i64 6 504 (by omega) (by omega) (by rw [hz2]; omega) (by omega)
  simpa [hz1, Value.cells] using h
theorem Own.of_blk {w : World} {g base : Nat} {l : List UInt8} (h : Blk w g l) (hl : l.length = 504) (hb : base ≤ g) : Own w base (.slice (some ⟨g, 0, none⟩) 6 504) (l.take 6) := by
  have e : (l.take 6).length = 6 := by rw [List.length_take]; omega
  unfold Own
  rw [e]
  refine ⟨by rw [bs_length, e], .inr ⟨g, 504, (bs l).toArray, rfl, hb, h, by decide, by unfold maxLen; decide, by rw [List.size_toArray, bs_length, hl], ?_⟩⟩
  unfold bs
  rw [List.map_take]
def num3 (n : Int) : List UInt8 := [b8 (n / 65536), b8 (n / 256), b8 (n % 256)]
def encC (x : Cl) : List UInt8 := [b8 x.1.length, b8 x.2.length] ++ x.1 ++ x.2
def encL (L : List Cl) : List UInt8 := (L.map encC).flatten
def encB (kind next : Int) (L : List Cl) : List UInt8 := [b8 kind] ++ num3 next ++ [b8 ((L.length : Int) % 256), 0] ++ encL L
theorem encL_length (L : List Cl) : (encL L).length = szs L := by
  induction L with
  | nil => rfl
  | cons x L ih =>
    have e1 : encL (x :: L) = encC x ++ encL L := by simp [encL]
    have e2 : szs (x :: L) = sz x + szs L := by simp [szs]
    rw [e1, e2, List.length_append, ih]
    unfold encC sz
    simp
    omega
theorem encL_snoc (L : List Cl) (k : Nat) (x : Cl) (h : L[k]? = some x) : encL (L.take (k + 1)) = encL (L.take k) ++ [b8 x.1.length, b8 x.2.length] ++ x.1 ++ x.2 := by
  unfold encL
  rw [List.take_add_one, h]
  simp [encC]
theorem szs_take_mono (L : List Cl) (k : Nat) : szs (L.take k) ≤ szs L := by
  have h : szs L = szs (L.take k) + szs (L.drop k) := by
    unfold szs
    rw [← List.sum_append, ← List.map_append, List.take_append_drop]
  omega
theorem rd_two (W : World) (n1 n2 : Int) (h1 : 0 ≤ n1) (h2 : n1 < 256) (h3 : 0 ≤ n2) (h4 : n2 < 256) : Rd (W.alloc (.cells #[.int .u8 n1, .int .u8 n2] 5)) (some ⟨W.heap.size, 0, none⟩) [b8 n1, b8 n2] := by
  have h := Rd.new W 5 [b8 n1, b8 n2] []
  simpa [bs, b8_toNat h1 h2, b8_toNat h3 h4] using h
theorem head6 (a b c d e : UInt8) : ((((((List.replicate 504 (0 : UInt8)).set 0 a).set 1 b).set 2 c).set 3 d).set 4 e).take 6 = [a, b, c, d, e, 0] := rfl
theorem rd_two2 (W : World) (o : Obj) (n1 n2 : Int) (h1 : 0 ≤ n1) (h2 : n1 < 256) (h3 : 0 ≤ n2) (h4 : n2 < 256) : Rd ((W.alloc o).alloc (.cells #[.int .u8 n1, .int .u8 n2] 5)) (some ⟨W.heap.size + 1, 0, none⟩) [b8 n1, b8 n2] := by
  have h := rd_two (W.alloc o) n1 n2 h1 h2 h3 h4
  rwa [show (W.alloc o).heap.size = W.heap.size + 1 by simp] at h
theorem own_ne_rw {w : World} {base b : Nat} {v : Value} {l : List UInt8} {t : TypeId} {vs : List Value} (h : Own w base v l) (hr : Rw w b t vs) (ht : t ≠ 5) : some b ≠ v.ownBlock := fun e => by
  obtain ⟨_, _, cs, fr, hc⟩ := own_block h b e.symm
  unfold Rw at hr
  rw [hr] at hc
  injection hc with hc
  injection hc with _ h3 _
  exact ht h3
section
variable {ops : Array Oper} {rest : List Oper} {o : Oper} {a : Act} {Q : Exit → Act → World → Prop} {w : World}
theorem wpList_catG (hgd : o.guard = none) (s x : Operand) (ho : o.op = .call { callee := .builtin .append, args := #[s, x], argTypes := #[28, 28] })
    (w0 : World) (v : Value) (l m : List UInt8) (A : Option Addr) (n c : Nat) (hs : a.eval s = v) (hx : a.eval x = .slice A n c) (hn : n = m.length) (hown : Own w w0.heap.size v l) (hr : Rd w A m) (hx0 : Ext w0 w) (hlen : l.length + m.length ≤ 140737488355328)
    (h : ∀ v' w', Own w' w0.heap.size v' (l ++ m) → Ext w0 w' → w.grownBy w' v.ownBlock → wpList Try.prog ops Q rest (a.put o.dst v') w') : wpList Try.prog ops Q (o :: rest) a w := by
  subst hn
  obtain ⟨v', w', hrun, h2, h3, h4⟩ := run_cat w w0.heap.size o.type v l m A c hown hr hx0.size hlen
  refine wpList_wanted (by simp [Region.wanted, hgd]) fun K hK => ?_
  unfold Oper.wp execOp
  simp only [ho, resolve, invoke, builtin, Sem.run_bind, Sem.run_pure, Result.andThen_ok, List.map_toArray, List.map_cons, List.map_nil, hs, hx, hrun]
  exact hK _ _ (h v' w' h2 (Below.trans hx0 h3) h4)
theorem wpList_zeros (hgd : o.guard = none) (s x : Operand) (ho : o.op = .call { callee := .builtin .append, args := #[s, x], argTypes := #[28, 3] })
    (w0 : World) (v : Value) (l : List UInt8) (z : Nat) (hs : a.eval s = v) (hx : a.eval x = .int .i64 (z : Int)) (hown : Own w w0.heap.size v l) (hl : 0 < l.length) (hz : l.length + z ≤ 1000000) (hx0 : Ext w0 w)
    (h : ∀ v' w', Own w' w0.heap.size v' (l ++ List.replicate z 0) → Ext w0 w' → wpList Try.prog ops Q rest (a.put o.dst v') w') : wpList Try.prog ops Q (o :: rest) a w := by
  obtain ⟨v', w', hrun, h2, h3⟩ := run_zeros hown hl z hz hx0.size o.type
  refine wpList_wanted (by simp [Region.wanted, hgd]) fun K hK => ?_
  unfold Oper.wp execOp
  simp only [ho, resolve, invoke, builtin, Sem.run_bind, Sem.run_pure, Result.andThen_ok, List.map_toArray, List.map_cons, List.map_nil, hs, hx, hrun]
  exact hK _ _ (h v' w' h2 (Below.trans hx0 h3))
end
set_option maxRecDepth 20000 in
set_option maxHeartbeats 3200000 in
theorem encode_no {A : Option Addr} {L : List Cl} (kind next : Int) (n c : Nat) (w : World) (hr : RdC w A L) (hn : L.length = n) (hl : n ≤ 1000) (hS : Small L) (hf : formB kind next L = false) :
    Calls Try.prog 16 #[.agg #[.int .u8 kind, .int .i64 next, .slice A n c]] w (Ret w (Is (.tuple #[.slice none 0 0, .int .i64 3]))) := by
  have KF := hide (fun (W : World) (hW : Ext w W) => form_any kind next n c W (hr.ext hW) hn hl hS)
  rw [hf] at KF
  clear hr hn hl hS hf
  go_enter Try.func16, Try.ntmps16
  go_wp2_with (go_at_call 12; (with_reducible refine (KF.out _ (Ext.alloc _ _)).mono ?_); rintro e w2 ⟨v2, rfl, hx2, rfl⟩; have X2 := hide ((Ext.alloc _ _).trans hx2); clear hx2)
  go_ret2
  exact Ret.mk X2.out rfl
set_option maxRecDepth 20000 in
set_option maxHeartbeats 3200000 in
theorem encode_any {A : Option Addr} {L : List Cl} (kind next : Int) (n c : Nat) (w : World) (hr : RdC w A L) (hn : L.length = n) (hl : n ≤ 1000) (hS : Small L) (hk0 : 0 ≤ kind) (hf : formB kind next L = true) :
    Calls Try.prog 16 #[.agg #[.int .u8 kind, .int .i64 next, .slice A n c]] w (Ret w (fun w' v => ∃ v1, v = .tuple #[v1, .int .i64 0] ∧ Own w' w.heap.size v1 (encB kind next L ++ List.replicate (504 - (encB kind next L).length) 0))) := by
  have KF := hide (fun (W : World) (hW : Ext w W) => form_any kind next n c W (hr.ext hW) hn hl hS)
  rw [hf] at KF
  have HF := hide hf
  have HR := hide hr
  have HN := hide hn
  have HL := hide hl
  have HM := hide make_6
  have hn0 : 0 ≤ next := by unfold formB at hf; simp at hf; omega
  have hn1 : next < 4096 := by unfold formB at hf; simp at hf; omega
  have hk3 : kind ≤ 3 := by unfold formB at hf; simp at hf; omega
  clear hr hn hl hS hf
  go_enter Try.func16, Try.ntmps16
  go_upto_region 1 with fail
  obtain ⟨W1, hX1, hR1, hg⟩ : ∃ W1, Ext w W1 ∧ Rw W1 w.heap.size 24 [.int .u8 kind, .int .i64 next, .slice A n c] ∧ w.alloc (.cells #[.int .u8 kind, .int .i64 next, .slice A n c] 24) = W1 := ⟨_, Ext.alloc _ _, Rw.new _ _ _, rfl⟩
  rw [hg]
  clear hg
  obtain ⟨h, HH⟩ : ∃ h, Hid (w.heap.size = h) := ⟨_, hide rfl⟩
  rw [HH.out] at hR1 ⊢
  have z0 := hR1.cell (i := 0) rfl
  have z1 := hR1.cell (i := 1) rfl
  have z2 := hR1.cell (i := 2) rfl
  have X1 := hide hX1
  have R1 := hide hR1
  clear hX1 hR1
  go_upto_region 3 with (go_at_call 12; (with_reducible refine (KF.out _ X1.out).mono ?_); rintro e w2 ⟨v2, rfl, hx2, rfl⟩; have X2 := hide (X1.out.trans hx2); have R2 := hide (R1.out.ext hx2); clear hx2)
  have hmk := HM.out w2
  obtain ⟨w3, hX3, hO3, hR3, hg⟩ : ∃ w3, Ext w w3 ∧ Blk w3 w2.heap.size (List.replicate 504 0) ∧ Rw w3 h 24 [.int .u8 kind, .int .i64 next, .slice A n c] ∧ w2.alloc (.cells (madeCells #[.int .u8 0] 504) 5) = w3 := ⟨_, X2.out.trans (Ext.alloc _ _), Blk.made w2 504, R2.out.alloc _, rfl⟩
  rw [hg] at hmk
  have HG : Hid (h < w2.heap.size) := hide R2.out.lt
  obtain ⟨g, HG2⟩ : ∃ g, Hid (w2.heap.size = g) := ⟨_, hide rfl⟩
  rw [HG2.out] at hmk hO3
  have X3 := hide hX3
  have O3 := hide hO3
  have R3 := hide hR3
  clear hg hX3 hO3 hR3 z0 z1 z2
  obtain ⟨Z, HZ⟩ : ∃ Z, Hid (List.replicate 504 (0 : UInt8) = Z) := ⟨_, hide rfl⟩
  have HZL : Hid (Z.length = 504) := hide (by rw [← HZ.out, List.length_replicate])
  rw [HZ.out] at O3
  have zc := fun (k : Nat) (hk : k < 504) => (show ∃ x, Z[k]? = some x from ⟨_, List.getElem?_eq_getElem (by rw [HZL.out]; exact hk)⟩)
  obtain ⟨x0, hx0⟩ := zc 0 (by decide)
  obtain ⟨x1, hx1⟩ := zc 1 (by decide)
  obtain ⟨x2, hx2⟩ := zc 2 (by decide)
  obtain ⟨x3, hx3⟩ := zc 3 (by decide)
  obtain ⟨x4, hx4⟩ := zc 4 (by decide)
  have c0 := O3.out.cell hx0
  have f0 := O3.out.frozen 0
  have z0 := R3.out.cell (i := 0) rfl
  have HXX := hide (And.intro hx1 (And.intro hx2 (And.intro hx3 hx4)))
  clear hx0 hx1 hx2 hx3 hx4 zc
  go_upto_region 5 with fail
  obtain ⟨w4, HX4, HB4, HR4, hg⟩ : ∃ w4, Ext w w4 ∧ Blk w4 g (Z.set 0 (b8 kind)) ∧ Rw w4 h 24 [.int .u8 kind, .int .i64 next, .slice A n c] ∧ w3.setCell ⟨g, 0, none⟩ (.int .u8 kind) = w4 :=
    ⟨_, Below.setCell (p := ⟨g, 0, none⟩) X3.out (by show w.heap.size ≤ g; rw [← HG2.out]; exact X2.out.size) _, O3.out.set 0 kind hk0 (by omega), R3.out.far (by show h ≠ g; rw [← HG2.out]; exact Nat.ne_of_lt HG.out) _, rfl⟩
  rw [hg]
  have X4 := hide HX4
  have B4 := hide HB4
  have R4 := hide HR4
  clear hg HX4 HB4 HR4 X3 O3 R3 z0 c0 f0
  have z1 := R4.out.cell (i := 1) rfl
  have c1' := B4.out.cell (i := 1) (x := x1) (by rw [List.getElem?_set_ne (by decide)]; exact HXX.out.1)
  have c2' := B4.out.cell (i := 2) (x := x2) (by rw [List.getElem?_set_ne (by decide)]; exact HXX.out.2.1)
  have c3' := B4.out.cell (i := 3) (x := x3) (by rw [List.getElem?_set_ne (by decide)]; exact HXX.out.2.2.1)
  have f1 := B4.out.frozen 1
  have f2 := B4.out.frozen 2
  have f3 := B4.out.frozen 3
  have hne1 : h ≠ g := by rw [← HG2.out]; exact Nat.ne_of_lt HG.out
  have hne2 : ¬ (h = g) := hne1
  have hne3 : ¬ (g = h) := fun e => hne1 e.symm
  go_region
  clear c1' c2' c3' f1 f2 f3 z1 hne1 hne2 hne3
  have HGB : Hid (w.heap.size ≤ g) := hide (by rw [← HG2.out]; exact X2.out.size)
  have HHG : Hid (h ≠ g) := hide (by rw [← HG2.out]; exact Nat.ne_of_lt HG.out)
  obtain ⟨w5, HX5, HB5, HR5, hg⟩ : ∃ w5, Ext w w5 ∧ Blk w5 g ((((Z.set 0 (b8 kind)).set 1 (b8 (next / 65536))).set 2 (b8 (next / 256))).set 3 (b8 (next % 256))) ∧ Rw w5 h 24 [.int .u8 kind, .int .i64 next, .slice A n c] ∧ (((w4.setCell ⟨g, 1, none⟩ (.int .u8 (next / 65536))).setCell ⟨g, 2, none⟩ (.int .u8 (next / 256))).setCell ⟨g, 3, none⟩ (.int .u8 (next % 256))).drew = w5 :=
    ⟨_, (Below.setCell (p := ⟨g, 3, none⟩) (Below.setCell (p := ⟨g, 2, none⟩) (Below.setCell (p := ⟨g, 1, none⟩) X4.out HGB.out _) HGB.out _) HGB.out _).trans (Below.mono (Ext.drew _) (Below.size (Below.setCell (p := ⟨g, 3, none⟩) (Below.setCell (p := ⟨g, 2, none⟩) (Below.setCell (p := ⟨g, 1, none⟩) X4.out HGB.out _) HGB.out _) HGB.out _))),
      ((((B4.out.set 1 (next / 65536) (by omega) (by omega)).set 2 (next / 256) (by omega) (by omega)).set 3 (next % 256) (by omega) (by omega)).ext (Ext.drew _)),
      ((((R4.out.far HHG.out _).far HHG.out _).far HHG.out _).ext (Ext.drew _)), rfl⟩
  rw [hg]
  have X5 := hide HX5
  have B5 := hide HB5
  have R5 := hide HR5
  clear hg HX5 HB5 HR5 X4 B4 R4
  have z2 := R5.out.cell (i := 2) rfl
  have c4' := B5.out.cell (i := 4) (x := x4) (by rw [List.getElem?_set_ne (by decide), List.getElem?_set_ne (by decide), List.getElem?_set_ne (by decide), List.getElem?_set_ne (by decide)]; exact HXX.out.2.2.2)
  have f4 := B5.out.frozen 4
  have hn1000 : (n : Int) ≤ 1000 := by have := HL.out; omega
  go_upto_region 7 with fail
  obtain ⟨HD, HHD⟩ : ∃ HD, Hid ([b8 kind] ++ num3 next ++ [b8 ((L.length : Int) % 256), 0] = HD) := ⟨_, hide rfl⟩
  obtain ⟨w6, HX6, HO6, HR6, hg⟩ : ∃ w6, Ext w w6 ∧ Own w6 w.heap.size (.slice (some ⟨g, 0, none⟩) 6 504) HD ∧ Rw w6 h 24 [.int .u8 kind, .int .i64 next, .slice A n c] ∧ w5.setCell ⟨g, 4, none⟩ (.int .u8 ((n : Int) % 256)) = w6 :=
    ⟨_, Below.setCell (p := ⟨g, 4, none⟩) X5.out HGB.out _, by
      have hb := B5.out.set 4 ((n : Int) % 256) (by omega) (by omega)
      have ho := Own.of_blk hb (by rw [List.length_set, List.length_set, List.length_set, List.length_set, List.length_set]; exact HZL.out) HGB.out
      rw [← HZ.out, head6] at ho
      rw [← HHD.out, HN.out]
      exact ho, R5.out.far HHG.out _, rfl⟩
  rw [hg]
  have X6 := hide HX6
  have O6 := hide HO6
  have R6 := hide HR6
  clear hg HX6 HO6 HR6 X5 B5 R5 z2 c4' f4 HXX HZ HZL
  have z2 := R6.out.cell (i := 2) rfl
  have HHL : Hid (HD.length = 6) := hide (by rw [← HHD.out]; rfl)
  have HSZ : Hid (szs L ≤ 498) := hide (by have := HF.out; unfold formB at this; simp at this; exact this.1.2)
  have HFIT : Hid (∀ (j : Nat) (x : Cl), L[j]? = some x → x.1.length ≤ 90 ∧ x.2.length ≤ 150) := hide (fun j x hj => by
    have h1 := HF.out
    unfold formB at h1
    simp only [Bool.and_eq_true] at h1
    have h2 := h1.2
    unfold fitB at h2
    rw [List.all_eq_true] at h2
    have h3 := h2 j (List.mem_range.2 (List.getElem?_eq_some_iff.1 hj).1)
    unfold fitAt at h3
    rw [getD_at hj] at h3
    simp at h3
    exact ⟨h3.1.1, h3.1.2⟩)
  have O60 : Hid (Own w6 w.heap.size (.slice (some ⟨g, 0, none⟩) 6 504) (HD ++ encL (L.take 0))) := hide (by show Own _ _ _ (HD ++ []); rw [List.append_nil]; exact O6.out)
  clear O6 KF HM HG HG2 X2 X1 R1 R2 hmk
  go_wp2
  clear z2
  go_loopw [4, 41] (fun ov iv wr => ∃ k : Nat, k ≤ n ∧ iv = .int .i64 (k : Int) ∧ Hid (Own wr w.heap.size ov (HD ++ encL (L.take k))) ∧ Hid (Ext w wr)) (fun _ iv _ => n - (intOf iv).toNat)
  case atStart => exact ⟨0, Nat.zero_le _, rfl, O60, X6⟩
  case round =>
    obtain ⟨k, hk, rfl, HO, HX⟩ := hrel
    clear O60 X6
    by_cases hlt : k < n
    · obtain ⟨x, hx⟩ : ∃ x, L[k]? = some x := ⟨_, List.getElem?_eq_getElem (by rw [HN.out]; exact hlt)⟩
      obtain ⟨b, off, A1, c1, A2, c2, rfl, k1, k2, -, -, q5, q6⟩ := HR.out.at hx
      have hfit := HFIT.out k x hx
      have HE := hide (encL_snoc L k x hx)
      have Q5 := hide q5
      have Q6 := hide q6
      obtain ⟨n1, HN1⟩ : ∃ n1, Hid (x.1.length = n1) := ⟨_, hide rfl⟩
      obtain ⟨n2, HN2⟩ : ∃ n2, Hid (x.2.length = n2) := ⟨_, hide rfl⟩
      rw [HN1.out] at k1 hfit HE
      rw [HN2.out] at k2 hfit HE
      have hn1i : (n1 : Int) ≤ 90 := by omega
      have hn2i : (n2 : Int) ≤ 150 := by omega
      have hn10 : (0 : Int) ≤ (n1 : Int) := by omega
      have hn20 : (0 : Int) ≤ (n2 : Int) := by omega
      replace k1 := HX.out.keeps.cell k1
      replace k2 := HX.out.keeps.cell k2
      have hki : (k : Int) < (n : Int) := by omega
      have hk00 : (0 : Int) ≤ (k : Int) := by omega
      obtain ⟨l0, HL0⟩ : ∃ l0, Hid (HD ++ encL (L.take k) = l0) := ⟨_, hide rfl⟩
      have HLL : Hid (l0.length ≤ 504) := hide (by rw [← HL0.out, List.length_append, HHL.out, encL_length]; have := szs_take_mono L k; have := HSZ.out; omega)
      have HL1 : Hid (HD ++ encL (L.take (k + 1)) = l0 ++ [b8 (n1 : Int), b8 (n2 : Int)] ++ x.1 ++ x.2) := hide (by rw [HE.out, ← HL0.out]; simp)
      rw [HL0.out] at HO
      obtain ⟨bx, HBX⟩ : ∃ bx, Hid (wr.heap.size = bx) := ⟨_, hide rfl⟩
      clear hx hfit q5 q6 HE hlt
      go_upto_region 10 with fail
      obtain ⟨W1, HXW, HRW, hg⟩ : ∃ W1, Ext wr W1 ∧ Rw W1 wr.heap.size 40 [.slice A1 n1 c1, .slice A2 n2 c2] ∧ wr.alloc (.cells #[.slice A1 n1 c1, .slice A2 n2 c2] 40) = W1 := ⟨_, Ext.alloc _ _, Rw.new _ _ _, rfl⟩
      rw [hg]
      rw [HBX.out] at HRW ⊢
      have XW := hide (HX.out.trans HXW)
      have OW := hide (HO.out.ext HXW)
      have RW := hide HRW
      clear hg HXW HRW HX HO HBX k1 k2
      have b1 := RW.out.cell (i := 0) rfl
      have b2 := RW.out.cell (i := 1) rfl
      have T1 := hide (OW.out.ext (Ext.alloc W1 (.cells #[.int .u8 (n1 : Int), .int .u8 (n2 : Int)] 5)))
      have T2 := hide (rd_two W1 n1 n2 (by omega) (by omega) (by omega) (by omega))
      have T3 := hide (XW.out.trans (Ext.alloc W1 (.cells #[.int .u8 (n1 : Int), .int .u8 (n2 : Int)] 5)))
      have T4 := hide (RW.out.alloc (.cells #[.int .u8 (n1 : Int), .int .u8 (n2 : Int)] 5))
      have T5 := hide (own_ne_rw T1.out T4.out (by decide))
      go_wp2_with (first
        | (at_builtin; refine wpList_catG rfl (.tmp 45) (.tmp 54) rfl w _ l0 [b8 (n1 : Int), b8 (n2 : Int)] _ 2 2 rfl rfl rfl T1.out T2.out T3.out (by have := HLL.out; simp; omega) ?_; intro v2 w2 ho2 hx2 hg2; have O2 := hide ho2; have X2 := hide hx2; have R2 : Hid (Rw w2 bx 40 [.slice A1 n1 c1, .slice A2 n2 c2]) := hide ((hg2.block bx T4.out.lt T5.out).trans T4.out); have d1 := R2.out.cell (i := 0) rfl; clear ho2 hx2 hg2)
        | (at_builtin; refine wpList_catG rfl (.tmp 56) (.tmp 58) rfl w _ (l0 ++ [b8 (n1 : Int), b8 (n2 : Int)]) x.1 _ n1 c1 rfl rfl HN1.out.symm O2.out (Q5.out.ext X2.out) X2.out (by have := HLL.out; rw [HN1.out]; simp; omega) ?_; intro v3 w3 ho3 hx3 hg3; have O3 := hide ho3; have X3 := hide hx3; have R3 : Hid (Rw w3 bx 40 [.slice A1 n1 c1, .slice A2 n2 c2]) := hide ((hg3.block bx R2.out.lt (own_ne_rw O2.out R2.out (by decide))).trans R2.out); have d2 := R3.out.cell (i := 1) rfl; clear ho3 hx3 hg3)
        | (at_builtin; refine wpList_catG rfl (.tmp 60) (.tmp 62) rfl w _ (l0 ++ [b8 (n1 : Int), b8 (n2 : Int)] ++ x.1) x.2 _ n2 c2 rfl rfl HN2.out.symm O3.out (Q6.out.ext X3.out) X3.out (by have := HLL.out; rw [HN2.out, List.length_append, HN1.out]; simp; omega) ?_; intro v4 w4 ho4 hx4 hg4; have O4 := hide ho4; have X4 := hide hx4; clear ho4 hx4 hg4))
      rw [← HL1.out] at O4
      refine ⟨⟨k + 1, by omega, by go_num, O4, X4⟩, by simp [intOf]; omega⟩
    · have hki : ¬ (k : Int) < (n : Int) := by omega
      obtain rfl : k = n := by omega
      have HLK : Hid (L.take k = L) := hide (List.take_of_length_le (by rw [HN.out]; exact Nat.le_refl _))
      rw [HLK.out] at HO
      have HEB : Hid (encB kind next L = HD ++ encL L) := hide (by unfold encB; rw [HHD.out])
      obtain ⟨l0, HL0⟩ : ∃ l0, Hid (HD ++ encL L = l0) := ⟨_, hide rfl⟩
      have HLL : Hid (l0.length ≤ 504 ∧ 0 < l0.length) := hide (by rw [← HL0.out, List.length_append, HHL.out, encL_length]; have := HSZ.out; omega)
      rw [HL0.out] at HO HEB
      obtain ⟨E, e5, hov, -, -⟩ := Own.slice HO.out
      obtain ⟨q, HQ⟩ : ∃ q, Hid (l0.length = q) := ⟨_, hide rfl⟩
      rw [HQ.out] at hov HLL
      subst hov
      obtain ⟨z, HZ⟩ : ∃ z : Nat, Hid (504 - q = z) := ⟨_, hide rfl⟩
      have hqz : (504 : Int) - (q : Int) = (z : Int) := by have := HZ.out; have := HLL.out; omega
      have hq0 : (0 : Int) ≤ (q : Int) := by omega
      have hq5 : (q : Int) ≤ 504 := by have := HLL.out; omega
      clear hlt hk HLK
      go_wp2_with (at_builtin; refine wpList_zeros rfl (.tmp 65) (.tmp 68) rfl w _ l0 z rfl rfl HO.out (by rw [HQ.out]; exact HLL.out.2) (by rw [HQ.out]; have := HZ.out; have := HLL.out; omega) HX.out ?_; intro v7 w7 ho7 hx7; have O7 := hide ho7; have X7 := hide hx7; clear ho7 hx7)
      go_ret2
      exact Ret.mk X7.out ⟨v7, rfl, by rw [HEB.out, HQ.out, HZ.out]; exact O7.out⟩
end Go.Proofs.Ytmamhinpkioogaa
