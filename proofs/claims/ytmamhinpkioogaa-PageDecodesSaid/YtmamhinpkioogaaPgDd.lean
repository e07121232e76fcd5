/-
  Decode.
-/
import Derived.Test.YtmamhinpkioogaaPgDp
import Derived.BigRegion
namespace Go.Proofs.Ytmamhinpkioogaa
open Go.RowKit

theorem decC_succ (k : Nat) (l : List UInt8) : decC (k + 1) l = (firstB l).bind fun p => (decC k (l.drop p.2)).map fun q => (p.1 :: q.1, q.2) := by
  show (match firstB l with | none => none | some (x, e) => match decC k (l.drop e) with | none => none | some (L, r) => some (x :: L, r)) = _
  cases firstB l with
  | none => rfl
  | some p =>
    obtain ⟨x, e⟩ := p
    show (match decC k (l.drop e) with | none => none | some (L, r) => some (x :: L, r)) = (decC k (l.drop e)).map _
    cases decC k (l.drop e) <;> rfl
theorem decC_some {k : Nat} {l : List UInt8} {L : List Cl} {r : List UInt8} (h : decC (k + 1) l = some (L, r)) : ∃ x e M, firstB l = some (x, e) ∧ decC k (l.drop e) = some (M, r) ∧ L = x :: M := by
  rw [decC_succ] at h
  cases hf : firstB l with
  | none => rw [hf] at h; cases h
  | some p =>
    rw [hf] at h
    cases hd : decC k (l.drop p.2) with
    | none => simp [hd] at h
    | some q =>
      simp [hd] at h
      exact ⟨p.1, p.2, q.1, rfl, by rw [hd, ← h.2], h.1.symm⟩
theorem decC_snoc {x : Cl} {e : Nat} {r : List UInt8} (hr : firstB r = some (x, e)) : ∀ (k : Nat) (l : List UInt8) (L : List Cl), decC k l = some (L, r) → decC (k + 1) l = some (L ++ [x], r.drop e)
  | 0, l, L, h => by
    injection h with h
    injection h with h1 h2
    subst h1 h2
    rw [decC_succ, hr]
    rfl
  | k + 1, l, L, h => by
    obtain ⟨y, d, M, h1, h2, rfl⟩ := decC_some h
    have ih := decC_snoc hr k _ _ h2
    rw [decC_succ, h1]
    simp [ih]
theorem decC_none {r : List UInt8} (hr : firstB r = none) : ∀ (k : Nat) (l : List UInt8) (L : List Cl) (m : Nat), decC k l = some (L, r) → k < m → decC m l = none
  | 0, l, L, m + 1, h, _ => by
    injection h with h
    injection h with h1 h2
    subst h2
    rw [decC_succ, hr]
    rfl
  | k + 1, l, L, m + 1, h, hm => by
    obtain ⟨y, d, M, h1, h2, rfl⟩ := decC_some h
    have ih := decC_none hr k _ _ m h2 (by omega)
    rw [decC_succ, h1]
    simp [ih]
theorem firstB_small {l : List UInt8} {x : Cl} {e : Nat} (h : firstB l = some (x, e)) : x.1.length ≤ 255 ∧ x.2.length ≤ 255 := by
  obtain ⟨b0, b1, r, rfl⟩ : ∃ b0 b1 r, l = b0 :: b1 :: r := by
    cases l with
    | nil => cases h
    | cons b0 l =>
      cases l with
      | nil => cases h
      | cons b1 r => exact ⟨b0, b1, r, rfl⟩
  unfold firstB at h
  simp only at h
  by_cases hle : 2 + b0.toNat + b1.toNat ≤ (b0 :: b1 :: r).length
  · rw [if_pos hle] at h
    have h1 := congrArg Prod.fst (Option.some.inj h)
    simp only at h1
    rw [← h1]
    have := b0.toNat_lt
    have := b1.toNat_lt
    constructor <;> simp <;> omega
  · rw [if_neg hle] at h
    cases h
theorem decC_small : ∀ (k : Nat) (l : List UInt8) (L : List Cl) (r : List UInt8), decC k l = some (L, r) → Small L
  | 0, l, L, r, h => by
    injection h with h
    injection h with h1 h2
    subst h1
    exact fun x hx => by cases hx
  | k + 1, l, L, r, h => by
    obtain ⟨y, d, M, h1, h2, rfl⟩ := decC_some h
    have ih := decC_small k _ _ _ h2
    intro x hx
    rcases List.mem_cons.1 hx with rfl | hx
    · have := firstB_small h1
      omega
    · exact ih x hx
/-- What the bytes behind kind and next say of a page. -/
def pageB (l : List UInt8) (kind nx : Int) (cnt : Nat) (L : List Cl) : Prop := ∃ r, decC cnt (l.drop 6) = some (L, r) ∧ zerosB ((l.drop 5).take 1) = true ∧ zerosB r = true ∧ formB kind nx L = true
def DecP (base : Nat) (l : List UInt8) (kind nx : Int) (cnt : Nat) (w : World) (v : Value) : Prop :=
  (∃ L v2, pageB l kind nx cnt L ∧ v = .tuple #[.agg #[.int .u8 kind, .int .i64 nx, v2], .int .i64 0] ∧ CellsO base L w v2) ∨ (v = .tuple #[.agg #[.int .u8 0, .int .i64 0, .slice none 0 0], .int .i64 3] ∧ ∀ L, ¬ pageB l kind nx cnt L)
def nextO (a b c : Nat) : Int := bits BinOp.or IntKind.i64 (bits BinOp.or IntKind.i64 ((a : Int) * 65536) ((b : Int) * 256)) (c : Int)
set_option maxRecDepth 20000 in
set_option maxHeartbeats 6400000 in
theorem decode_any (A : Option Addr) (l : List UInt8) (c : Nat) (w : World) (hr : Rd w A l) (hn : l.length = 504) (hnc : 504 ≤ c) (u0 u1 u2 u3 u4 : UInt8) (g0 : l[0]? = some u0) (g1 : l[1]? = some u1) (g2 : l[2]? = some u2) (g3 : l[3]? = some u3) (g4 : l[4]? = some u4) :
    Calls Try.prog 17 #[.slice A 504 c] w (Ret w (DecP w.heap.size l (u0.toNat : Int) (nextO u1.toNat u2.toNat u3.toNat) u4.toNat)) := by
  obtain ⟨bl, off, rfl, hc⟩ := hr (by intro e; rw [e] at hn; cases hn)
  have HR := hide hr
  have HNC := hide hnc
  have HN := hide hn
  have m0 := hc 0 u0 g0
  rw [Nat.add_zero] at m0
  have m1 := hc 1 u1 g1
  have m2 := hc 2 u2 g2
  have m3 := hc 3 u3 g3
  have m4 := hc 4 u4 g4
  obtain ⟨a0, H0⟩ : ∃ a, Hid (u0.toNat = a) := ⟨_, hide rfl⟩
  obtain ⟨a1, H1⟩ : ∃ a, Hid (u1.toNat = a) := ⟨_, hide rfl⟩
  obtain ⟨a2, H2⟩ : ∃ a, Hid (u2.toNat = a) := ⟨_, hide rfl⟩
  obtain ⟨a3, H3⟩ : ∃ a, Hid (u3.toNat = a) := ⟨_, hide rfl⟩
  obtain ⟨a4, H4⟩ : ∃ a, Hid (u4.toNat = a) := ⟨_, hide rfl⟩
  rw [H0.out] at m0
  rw [H1.out] at m1
  rw [H2.out] at m2
  rw [H3.out] at m3
  rw [H4.out] at m4
  have q1 : (a1 : Int) ≤ 255 := by have := u1.toNat_lt; have := H1.out; omega
  have q2 : (a2 : Int) ≤ 255 := by have := u2.toNat_lt; have := H2.out; omega
  have q3 : (a3 : Int) ≤ 255 := by have := u3.toNat_lt; have := H3.out; omega
  have q4 : (a4 : Int) ≤ 255 := by have := u4.toNat_lt; have := H4.out; omega
  rw [H0.out, H1.out, H2.out, H3.out, H4.out]
  go_enter Try.func17, Try.ntmps17
  go_upto_region 1 with fail
  obtain ⟨W1, hX1, hR1, hg⟩ : ∃ W1, Ext w W1 ∧ Rw W1 w.heap.size 24 [.int .u8 0, .int .i64 0, .slice none 0 0] ∧ w.alloc (.cells #[.int .u8 0, .int .i64 0, .slice none 0 0] 24) = W1 := ⟨_, Ext.alloc _ _, Rw.new _ _ _, rfl⟩
  rw [hg]
  obtain ⟨hb, HHB⟩ : ∃ hb, Hid (w.heap.size = hb) := ⟨_, hide rfl⟩
  rw [HHB.out] at hR1 ⊢
  have X1 := hide hX1
  have RB := hide hR1
  have M0 := hX1.keeps.cell m0
  have M1 := hX1.keeps.cell m1
  have M2 := hX1.keeps.cell m2
  have M3 := hX1.keeps.cell m3
  have M4 := hide (hX1.keeps.cell m4)
  have hsz : W1.heap.size ≠ bl := by
    intro e
    unfold World.cell? at M0
    rw [← e] at M0
    simp at M0
  clear hg hX1 hR1 hc hr hn m0 m1 m2 m3 m4 g0 g1 g2 g3 g4
  go_upto_region 3 with fail
  have N0 := (Ext.alloc W1 (.cells #[.int .u8 0, .int .i64 0, .slice none 0 0] 24)).keeps.cell M0
  have N1 := (Ext.alloc W1 (.cells #[.int .u8 0, .int .i64 0, .slice none 0 0] 24)).keeps.cell M1
  have N2 := (Ext.alloc W1 (.cells #[.int .u8 0, .int .i64 0, .slice none 0 0] 24)).keeps.cell M2
  have N3 := (Ext.alloc W1 (.cells #[.int .u8 0, .int .i64 0, .slice none 0 0] 24)).keeps.cell M3
  go_region
  obtain ⟨nx, HNX⟩ : ∃ nx, Hid (nextO a1 a2 a3 = nx) := ⟨_, hide rfl⟩
  have hnx : bits BinOp.or IntKind.i64 (bits BinOp.or IntKind.i64 ((a1 : Int) * 65536) ((a2 : Int) * 256)) (a3 : Int) = nx := HNX.out
  rw [HNX.out, hnx]
  obtain ⟨hp, HHP⟩ : ∃ hp, Hid (W1.heap.size = hp) := ⟨_, hide rfl⟩
  obtain ⟨W2, hX2, hR2, hg⟩ : ∃ W2, Ext W1 W2 ∧ Rw W2 W1.heap.size 24 [.int .u8 (a0 : Int), .int .i64 nx, .slice none 0 0] ∧ (W1.alloc (.cells #[.int .u8 (a0 : Int), .int .i64 nx, .slice none 0 0] 24)).drew = W2 := ⟨_, (Ext.alloc _ _).trans (Ext.drew _), (Rw.new W1 24 [.int .u8 (a0 : Int), .int .i64 nx, .slice none 0 0]).ext (Ext.drew _), rfl⟩
  rw [hg]
  rw [HHP.out] at hR2 hsz ⊢
  have X2 := hide (X1.out.trans hX2)
  have RB2 := hide (RB.out.ext hX2)
  have RP2 := hide hR2
  have M5 := hX2.keeps.cell M4.out
  have HBP : Hid (hb < hp) := hide (by rw [← HHP.out]; exact RB.out.lt)
  have HBW : Hid (w.heap.size ≤ hb) := hide (by rw [HHB.out]; exact Nat.le_refl _)
  clear hnx hg hX2 hR2 N0 N1 N2 N3 M0 M1 M2 M3 M4 q1 q2 q3 hsz X1 RB
  go_upto_region 6 with fail
  go_loopw [5, 37] (fun lv iv wr => ∃ (k m cl : Nat) (Al : Option Addr) (r : List UInt8) (L : List Cl) (v : Value), k ≤ a4 ∧ iv = .int .u8 (k : Int) ∧ lv = .slice Al m cl ∧ m ≤ cl ∧ m ≤ 498 ∧ Hid (r.length = m) ∧ Hid (Rd w Al r) ∧ Hid (decC k (l.drop 6) = some (L, r)) ∧ Hid (L.length = k) ∧ Hid (Ext w wr) ∧ Hid (Rw wr hb 24 [.int .u8 0, .int .i64 0, .slice none 0 0]) ∧ Hid (Rw wr hp 24 [.int .u8 (a0 : Int), .int .i64 nx, v]) ∧ Hid (CellsO (hp + 1) L wr v)) (fun _ iv _ => a4 - (intOf iv).toNat)
  case atStart => exact ⟨0, 498, c - 6, some ⟨bl, off + 6, none⟩, l.drop 6, [], .slice none 0 0, Nat.zero_le _, rfl, rfl, by have := HNC.out; omega, Nat.le_refl _, hide (by rw [List.length_drop, HN.out]), hide (by have h := HR.out.drop 6; rwa [add_flat] at h), hide rfl, hide rfl, X2, RB2, RP2, hide (CellsO.nil _ _)⟩
  case round =>
    obtain ⟨k, m, cl, Al, r, L, v, hk, rfl, rfl, hmc, hm, HRL, HRR, HDC, HLL, HX, HBX, HPX, HCO⟩ := hrel
    clear M5 RB2 RP2 X2
    by_cases hlt : k < a4
    · have hki : (k : Int) < (a4 : Int) := by omega
      cases hf : firstB r with
      | none =>
        have KN := hide (firstCell_no Al r m cl wr (HRR.out.ext HX.out) HRL.out (by omega) hf)
        have HF := hide hf
        clear hf
        go_upto_region 9 with (go_at_call 31; (with_reducible refine KN.out.mono ?_); rintro e w3 ⟨v3, rfl, hx3, rfl⟩; have X3 := hide hx3; clear hx3)
        obtain ⟨w4, hX4, hg⟩ : ∃ w4, Ext wr w4 ∧ w3.alloc (.cells #[.slice none 0 0, .slice none 0 0] 40) = w4 := ⟨_, X3.out.trans (Ext.alloc _ _), rfl⟩
        rw [hg]
        have X4 := hide (HX.out.trans hX4)
        have R4 := hide (HBX.out.ext hX4)
        clear hg hX4 HPX HCO HBX HX X3 KN
        have k0 := R4.out.cell (i := 0) rfl
        have k1 := R4.out.cell (i := 1) rfl
        have k2 := R4.out.cell (i := 2) rfl
        have f0 := R4.out.frozen 0
        have f1 := R4.out.frozen 1
        have f2 := R4.out.frozen 2
        go_wp2
        have R5 := (((R4.out.set 0 (.int .u8 0)).set 1 (.int .i64 0)).set 2 (.slice none 0 0))
        have e0 := R5.cell (i := 0) rfl
        have e1 := R5.cell (i := 1) rfl
        have e2 := R5.cell (i := 2) rfl
        have XE : Ext w (((w4.setCell ⟨hb, 0, none⟩ (.int .u8 0)).setCell ⟨hb, 1, none⟩ (.int .i64 0)).setCell ⟨hb, 2, none⟩ (.slice none 0 0)) := Below.setCell (p := ⟨hb, 2, none⟩) (Below.setCell (p := ⟨hb, 1, none⟩) (Below.setCell (p := ⟨hb, 0, none⟩) X4.out HBW.out _) HBW.out _) HBW.out _
        refine bodyPost_ret (v := .tuple #[.agg #[.int .u8 0, .int .i64 0, .slice none 0 0], .int .i64 3]) (by simp [results, Try.results17, go_sem, e0, e1, e2]; try rfl) rfl ?_
        exact Ret.mk XE (.inr ⟨rfl, fun L2 ⟨r2, hd, _⟩ => by rw [decC_none HF.out k _ L a4 HDC.out hlt] at hd; cases hd⟩)
      | some p =>
        obtain ⟨x, e⟩ := p
        obtain ⟨he, he2, KF⟩ := firstCell_some Al r m cl e x wr (HRR.out.ext HX.out) HRL.out (by omega) hmc hf
        have HF := hide hf
        have HKF := hide KF
        have hei : ((e : Int) == 0) = false := beq_eq_false_iff_ne.2 (by omega)
        have hei2 : ¬ (e : Int) = 0 := by omega
        have hem : (e : Int) ≤ 498 := by omega
        clear hf KF
        go_upto_region 10 with (go_at_call 31; (with_reducible refine HKF.out.mono ?_); rintro e3 w3 ⟨v3, rfl, hx3, u, rfl, y1, y2, rfl, o1, o2⟩; obtain ⟨B1, d1, rfl, -, -⟩ := Own.slice o1; obtain ⟨B2, d2, rfl, -, -⟩ := Own.slice o2; have X3 := hide hx3; have O1 := hide o1; have O2 := hide o2; clear hx3 o1 o2)
        obtain ⟨p1, HP1⟩ : ∃ p1, Hid (x.1.length = p1) := ⟨_, hide rfl⟩
        obtain ⟨p2, HP2⟩ : ∃ p2, Hid (x.2.length = p2) := ⟨_, hide rfl⟩
        rw [HP1.out] at O1 ⊢
        rw [HP2.out] at O2 ⊢
        obtain ⟨h6, HH6⟩ : ∃ h6, Hid (w3.heap.size = h6) := ⟨_, hide rfl⟩
        obtain ⟨w4, hX4, hR4, hE4, hg⟩ : ∃ w4, Ext wr w4 ∧ Rw w4 w3.heap.size 40 [.slice B1 p1 d1, .slice B2 p2 d2] ∧ Ext w3 w4 ∧ w3.alloc (.cells #[.slice B1 p1 d1, .slice B2 p2 d2] 40) = w4 := ⟨_, X3.out.trans (Ext.alloc _ _), Rw.new _ _ _, Ext.alloc _ _, rfl⟩
        rw [hg]
        rw [HH6.out] at hR4 ⊢
        have X4 := hide (HX.out.trans hX4)
        have R4 := hide (HBX.out.ext hX4)
        have P4 := hide (HPX.out.ext hX4)
        have C4 := hide (HCO.out.ext hX4)
        have HS4 : Hid (hp + 1 ≤ wr.heap.size) := hide HPX.out.lt
        have Q1 := hide ((O1.out.ext hE4).mono HS4.out)
        have Q2 := hide ((O2.out.ext hE4).mono HS4.out)
        have HS5 : Hid (hp + 1 ≤ w4.heap.size) := hide P4.out.lt
        have b0 := hR4.cell (i := 0) rfl
        have b1 := hR4.cell (i := 1) rfl
        have z2 := P4.out.cell (i := 2) rfl
        obtain ⟨Av, cv, hv, -, -⟩ := C4.out.cells
        have HLN := HLL.out
        rw [HLN] at hv
        have HVB : Hid (∀ g, v.ownBlock = some g → hp + 1 ≤ g) := hide (fun g hg => by obtain ⟨vs, h1, -⟩ := C4.out; exact (h1.lt g hg).1)
        have HLE : Hid (L.length ≤ 255) := hide (by omega)
        subst hv
        clear hg hX4 hR4 hE4 HPX HCO HBX X3 O1 O2 HKF HLN
        go_upto_region 11 with (first
          | ((with_reducible show wpList _ _ _ (⟨some 50, _, _, _, _, _⟩ :: _) _ _); refine wpList_gives (gives_buildSlice rfl [(0, .agg #[.slice B1 p1 d1, .slice B2 p2 d2])] rfl (build_cell _ _ _ B1 B2 p1 p2 d1 d2 rfl rfl) ⟨rfl, rfl⟩) rfl ?_)
          | (at_builtin; refine wpList_pushO rfl (.tmp 48) (.tmp 50) rfl (hp + 1) (.slice Av k cv) L x (.slice B1 p1 d1) (.slice B2 p2 d2) rfl rfl C4.out (by first | exact Q1.out | (rw [HP1.out]; exact Q1.out)) (by first | exact Q2.out | (rw [HP2.out]; exact Q2.out)) HS5.out (by have := HLE.out; omega) ?_; intro v5 w5 hco hgb; obtain ⟨A5, c5, hv5, -, -⟩ := hco.cells; rw [List.length_append, HLL.out, List.length_singleton] at hv5; subst hv5; have C5 := hide hco; have P5 : Hid (Rw w5 hp 24 [.int .u8 (a0 : Int), .int .i64 nx, .slice Av k cv]) := hide ((hgb.block hp P4.out.lt (fun e => by have := HVB.out hp e.symm; omega)).trans P4.out); have R5 : Hid (Rw w5 hb 24 [.int .u8 0, .int .i64 0, .slice none 0 0]) := hide ((hgb.block hb R4.out.lt (fun e => by have := HVB.out hb e.symm; have := HBP.out; omega)).trans R4.out); have X5 : Hid (Ext w w5) := hide (X4.out.grown hgb X4.out.size (fun g hg => by have := HVB.out g hg; have := HBP.out; have := HBW.out; omega)); have j2 := P5.out.cell (i := 2) rfl; have g2 := P5.out.frozen 2; clear hco hgb))
        clear b0 b1 z2
        obtain ⟨w6, hX6, hR6, hP6, hC6, hg⟩ : ∃ w6, Ext w w6 ∧ Rw w6 hb 24 [.int .u8 0, .int .i64 0, .slice none 0 0] ∧ Rw w6 hp 24 [.int .u8 (a0 : Int), .int .i64 nx, .slice A5 (k + 1) c5] ∧ CellsO (hp + 1) (L ++ [x]) w6 (.slice A5 (k + 1) c5) ∧ w5.setCell ⟨hp, 2, none⟩ (.slice A5 (k + 1) c5) = w6 :=
          ⟨_, Below.setCell (p := ⟨hp, 2, none⟩) X5.out (by show w.heap.size ≤ hp; have := HBP.out; have := HBW.out; omega) _, R5.out.far (by show hb ≠ hp; have := HBP.out; omega) _, P5.out.set 2 _, C5.out.same (Nat.lt_succ_self hp) (fun j hj _ => Below.heap_setCell w5 ⟨hp, 2, none⟩ _ j hj), rfl⟩
        rw [hg]
        have X6 := hide hX6
        have R6 := hide hR6
        have P6 := hide hP6
        have C6 := hide hC6
        clear hg hX6 hR6 hP6 hC6 X5 R5 P5 C5 j2 g2 X4 R4 P4 C4
        obtain ⟨b', o', rfl, -⟩ := HRR.out (by intro e0; have h1 := HF.out; rw [e0] at h1; cases h1)
        have hec : (e : Int) ≤ (cl : Int) := by omega
        have hen : (e : Int) ≤ (m : Int) := by omega
        have hml : (m : Int) ≤ 498 := by omega
        have HRD : Hid (∀ A', (A' = some ⟨b', o' + e, none⟩ ∨ cl = e) → Rd w A' (r.drop e)) := hide (fun A' h => by
          rcases h with rfl | h
          · have h1 := HRR.out.drop e
            rwa [add_flat] at h1
          · rw [List.drop_of_length_le (by have := HRL.out; omega)]
            exact Rd.nil _ _)
        by_cases hce : cl = e
        · go_wp2
          refine ⟨⟨k + 1, m - e, 0, _, r.drop e, L ++ [x], .slice A5 (k + 1) c5, by omega, by go_num, rfl, by omega, by omega, hide (by rw [List.length_drop, HRL.out]), hide (HRD.out _ (.inr hce)), hide (decC_snoc HF.out k _ L HDC.out), hide (by rw [List.length_append, HLL.out]; rfl), X6, R6, P6, C6⟩, by simp [intOf]; omega⟩
        · go_wp2
          refine ⟨⟨k + 1, m - e, cl - e, _, r.drop e, L ++ [x], .slice A5 (k + 1) c5, by omega, by go_num, rfl, by omega, by omega, hide (by rw [List.length_drop, HRL.out]), hide (HRD.out _ (.inl rfl)), hide (decC_snoc HF.out k _ L HDC.out), hide (by rw [List.length_append, HLL.out]; rfl), X6, R6, P6, C6⟩, by simp [intOf]; omega⟩
    · have hki : ¬ (k : Int) < (a4 : Int) := by omega
      obtain rfl : k = a4 := by omega
      obtain ⟨Av, cv, hv, hcv, hrc⟩ := HCO.out.cells
      rw [HLL.out] at hv hcv
      subst hv
      have HSM := hide (decC_small k _ L r HDC.out)
      have hc5 : ¬ c = 5 := by have := HNC.out; omega
      have hc6 : (6 : Int) ≤ (c : Int) := by have := HNC.out; omega
      obtain ⟨t1, HT1⟩ : ∃ t, Hid (zerosB ((l.drop 5).take 1) = t) := ⟨_, hide rfl⟩
      obtain ⟨t2, HT2⟩ : ∃ t, Hid (zerosB r = t) := ⟨_, hide rfl⟩
      obtain ⟨t3, HT3⟩ : ∃ t, Hid (formB (a0 : Int) nx L = t) := ⟨_, hide rfl⟩
      have N1 := hide (fun (d : Nat) => (show Calls Try.prog 32 #[.slice (some ⟨bl, off + 5, none⟩) 1 d] wr (fun e w' => e = .returned (.bool t1) ∧ ∃ q, w' = wr.drewN q) from by
        have h := noughts_any (some ⟨bl, off + 5, none⟩) ((l.drop 5).take 1) 1 d wr (((by have h := HR.out.drop 5; rwa [add_flat] at h : Rd w (some ⟨bl, off + 5, none⟩) (l.drop 5)).take 1).ext HX.out) (by rw [List.length_take, List.length_drop, HN.out]; rfl) (by decide)
        rw [HT1.out] at h
        exact h))
      have N2 := hide (fun (qa : Nat) => (show Calls Try.prog 32 #[.slice Al m cl] (wr.drewN qa) (fun e w' => e = .returned (.bool t2) ∧ ∃ q, w' = (wr.drewN qa).drewN q) from by
        have h := noughts_any Al r m cl (wr.drewN qa) (HRR.out.ext (HX.out.trans ((Ext.refl _).drewN _))) HRL.out (by omega)
        rw [HT2.out] at h
        exact h))
      have N3 := hide (fun (qa : Nat) => (show Calls Try.prog 12 #[.agg #[.int .u8 (a0 : Int), .int .i64 nx, .slice Av k cv]] (wr.drewN qa) (Ret (wr.drewN qa) (Is (.bool t3))) from by
        have h := form_any (a0 : Int) nx k cv (wr.drewN qa) (hrc.ext ((Ext.refl _).drewN _)) HLL.out (by omega) HSM.out
        rw [HT3.out] at h
        exact h))
      have PZ := hide (fun (qa : Nat) => HPX.out.ext ((Ext.refl wr).drewN qa))
      have HBAD : Hid ((t1 = false ∨ t2 = false ∨ t3 = false) → ∀ L2, ¬ pageB l (a0 : Int) nx k L2) := hide (fun h L2 ⟨r2, hd, h1, h2, h3⟩ => by
        rw [HDC.out] at hd
        injection hd with hd
        injection hd with hd1 hd2
        subst hd1 hd2
        rw [HT1.out] at h1
        rw [HT2.out] at h2
        rw [HT3.out] at h3
        rw [h1, h2, h3] at h
        simp at h)
      have HGOOD : Hid (t1 = true → t2 = true → t3 = true → pageB l (a0 : Int) nx k L) := hide (fun h1 h2 h3 => ⟨r, HDC.out, by rw [HT1.out, h1], by rw [HT2.out, h2], by rw [HT3.out, h3]⟩)
      clear hrc hcv
      cases t1 with
      | false =>
        go_upto_region 14 with (go_at_call 32; (with_reducible refine (N1.out _).mono ?_); rintro e w1 ⟨rfl, qa, rfl⟩)
        obtain ⟨w4, hX4, hg⟩ : ∃ w4, Ext wr w4 ∧ wr.drewN qa = w4 := ⟨_, (Ext.refl _).drewN _, rfl⟩
        rw [hg]
        have X4 := hide (HX.out.trans hX4)
        have R4 := hide (HBX.out.ext hX4)
        clear hg hX4 N1 N2 N3 PZ
        have k0 := R4.out.cell (i := 0) rfl
        have k1 := R4.out.cell (i := 1) rfl
        have k2 := R4.out.cell (i := 2) rfl
        have f0 := R4.out.frozen 0
        have f1 := R4.out.frozen 1
        have f2 := R4.out.frozen 2
        go_wp2
        have R5 := (((R4.out.set 0 (.int .u8 0)).set 1 (.int .i64 0)).set 2 (.slice none 0 0))
        have e0 := R5.cell (i := 0) rfl
        have e1 := R5.cell (i := 1) rfl
        have e2 := R5.cell (i := 2) rfl
        have XE : Ext w (((w4.setCell ⟨hb, 0, none⟩ (.int .u8 0)).setCell ⟨hb, 1, none⟩ (.int .i64 0)).setCell ⟨hb, 2, none⟩ (.slice none 0 0)) := Below.setCell (p := ⟨hb, 2, none⟩) (Below.setCell (p := ⟨hb, 1, none⟩) (Below.setCell (p := ⟨hb, 0, none⟩) X4.out HBW.out _) HBW.out _) HBW.out _
        refine bodyPost_ret (v := .tuple #[.agg #[.int .u8 0, .int .i64 0, .slice none 0 0], .int .i64 3]) (by simp [results, Try.results17, go_sem, e0, e1, e2]; try rfl) rfl ?_
        exact Ret.mk XE (.inr ⟨rfl, by rw [HNX.out]; exact HBAD.out (by simp)⟩)

      | true =>
        cases t2 with
        | false =>
          go_upto_region 14 with (first | (go_at_call 32; (with_reducible refine (N1.out _).mono ?_); rintro e w1 ⟨rfl, qa, rfl⟩) | (go_at_call 32; (with_reducible refine (N2.out qa).mono ?_); rintro e w2 ⟨rfl, qb, rfl⟩; have z0 := (PZ.out (qa + qb)).cell (i := 0) rfl; have z1 := (PZ.out (qa + qb)).cell (i := 1) rfl; have z2 := (PZ.out (qa + qb)).cell (i := 2) rfl))
          obtain ⟨w4, hX4, hg⟩ : ∃ w4, Ext wr w4 ∧ wr.drewN (qa + qb) = w4 := ⟨_, (Ext.refl _).drewN _, rfl⟩
          rw [hg] at z0 z1 z2 ⊢
          have X4 := hide (HX.out.trans hX4)
          have R4 := hide (HBX.out.ext hX4)
          clear hg hX4 N1 N2 N3 PZ
          have k0 := R4.out.cell (i := 0) rfl
          have k1 := R4.out.cell (i := 1) rfl
          have k2 := R4.out.cell (i := 2) rfl
          have f0 := R4.out.frozen 0
          have f1 := R4.out.frozen 1
          have f2 := R4.out.frozen 2
          go_wp2
          have R5 := (((R4.out.set 0 (.int .u8 0)).set 1 (.int .i64 0)).set 2 (.slice none 0 0))
          have e0 := R5.cell (i := 0) rfl
          have e1 := R5.cell (i := 1) rfl
          have e2 := R5.cell (i := 2) rfl
          have XE : Ext w (((w4.setCell ⟨hb, 0, none⟩ (.int .u8 0)).setCell ⟨hb, 1, none⟩ (.int .i64 0)).setCell ⟨hb, 2, none⟩ (.slice none 0 0)) := Below.setCell (p := ⟨hb, 2, none⟩) (Below.setCell (p := ⟨hb, 1, none⟩) (Below.setCell (p := ⟨hb, 0, none⟩) X4.out HBW.out _) HBW.out _) HBW.out _
          refine bodyPost_ret (v := .tuple #[.agg #[.int .u8 0, .int .i64 0, .slice none 0 0], .int .i64 3]) (by simp [results, Try.results17, go_sem, e0, e1, e2]; try rfl) rfl ?_
          exact Ret.mk XE (.inr ⟨rfl, by rw [HNX.out]; exact HBAD.out (by simp)⟩)

        | true =>
          cases t3 with
          | false =>
            go_upto_region 14 with (first | (go_at_call 32; (with_reducible refine (N1.out _).mono ?_); rintro e w1 ⟨rfl, qa, rfl⟩) | (go_at_call 32; (with_reducible refine (N2.out qa).mono ?_); rintro e w2 ⟨rfl, qb, rfl⟩; have z0 := (PZ.out (qa + qb)).cell (i := 0) rfl; have z1 := (PZ.out (qa + qb)).cell (i := 1) rfl; have z2 := (PZ.out (qa + qb)).cell (i := 2) rfl) | (go_at_call 12; (with_reducible refine (N3.out (qa + qb)).mono ?_); rintro e w3 ⟨v3, rfl, hx3, rfl⟩; have X3 := hide (((Ext.refl wr).drewN (qa + qb)).trans hx3); clear hx3))
            obtain ⟨w4, hX4, hg⟩ : ∃ w4, Ext wr w4 ∧ w3 = w4 := ⟨_, X3.out, rfl⟩
            rw [hg]
            have X4 := hide (HX.out.trans hX4)
            have R4 := hide (HBX.out.ext hX4)
            clear hg hX4 N1 N2 N3 PZ
            have k0 := R4.out.cell (i := 0) rfl
            have k1 := R4.out.cell (i := 1) rfl
            have k2 := R4.out.cell (i := 2) rfl
            have f0 := R4.out.frozen 0
            have f1 := R4.out.frozen 1
            have f2 := R4.out.frozen 2
            go_wp2
            have R5 := (((R4.out.set 0 (.int .u8 0)).set 1 (.int .i64 0)).set 2 (.slice none 0 0))
            have e0 := R5.cell (i := 0) rfl
            have e1 := R5.cell (i := 1) rfl
            have e2 := R5.cell (i := 2) rfl
            have XE : Ext w (((w4.setCell ⟨hb, 0, none⟩ (.int .u8 0)).setCell ⟨hb, 1, none⟩ (.int .i64 0)).setCell ⟨hb, 2, none⟩ (.slice none 0 0)) := Below.setCell (p := ⟨hb, 2, none⟩) (Below.setCell (p := ⟨hb, 1, none⟩) (Below.setCell (p := ⟨hb, 0, none⟩) X4.out HBW.out _) HBW.out _) HBW.out _
            refine bodyPost_ret (v := .tuple #[.agg #[.int .u8 0, .int .i64 0, .slice none 0 0], .int .i64 3]) (by simp [results, Try.results17, go_sem, e0, e1, e2]; try rfl) rfl ?_
            exact Ret.mk XE (.inr ⟨rfl, by rw [HNX.out]; exact HBAD.out (by simp)⟩)

          | true =>
            go_upto_region 15 with (first | (go_at_call 32; (with_reducible refine (N1.out _).mono ?_); rintro e w1 ⟨rfl, qa, rfl⟩) | (go_at_call 32; (with_reducible refine (N2.out qa).mono ?_); rintro e w2 ⟨rfl, qb, rfl⟩; have z0 := (PZ.out (qa + qb)).cell (i := 0) rfl; have z1 := (PZ.out (qa + qb)).cell (i := 1) rfl; have z2 := (PZ.out (qa + qb)).cell (i := 2) rfl) | (go_at_call 12; (with_reducible refine (N3.out (qa + qb)).mono ?_); rintro e w3 ⟨v3, rfl, hx3, rfl⟩; have X3 := hide (((Ext.refl wr).drewN (qa + qb)).trans hx3); clear hx3))
            obtain ⟨w4, hX4, hg⟩ : ∃ w4, Ext wr w4 ∧ w3 = w4 := ⟨_, X3.out, rfl⟩
            rw [hg]
            have X4 := hide (HX.out.trans hX4)
            have R4 := hide (HBX.out.ext hX4)
            have P4 := hide (HPX.out.ext hX4)
            have C4 := hide (HCO.out.ext hX4)
            clear hg hX4 N1 N2 N3 PZ z0 z1 z2
            have z0 := P4.out.cell (i := 0) rfl
            have z1 := P4.out.cell (i := 1) rfl
            have z2 := P4.out.cell (i := 2) rfl
            have k0 := R4.out.cell (i := 0) rfl
            have k1 := R4.out.cell (i := 1) rfl
            have k2 := R4.out.cell (i := 2) rfl
            have f0 := R4.out.frozen 0
            have f1 := R4.out.frozen 1
            have f2 := R4.out.frozen 2
            go_wp2
            have R5 := (((R4.out.set 0 (.int .u8 (a0 : Int))).set 1 (.int .i64 nx)).set 2 (.slice Av k cv))
            have e0 := R5.cell (i := 0) rfl
            have e1 := R5.cell (i := 1) rfl
            have e2 := R5.cell (i := 2) rfl
            have XE : Ext w (((w4.setCell ⟨hb, 0, none⟩ (.int .u8 (a0 : Int))).setCell ⟨hb, 1, none⟩ (.int .i64 nx)).setCell ⟨hb, 2, none⟩ (.slice Av k cv)) := Below.setCell (p := ⟨hb, 2, none⟩) (Below.setCell (p := ⟨hb, 1, none⟩) (Below.setCell (p := ⟨hb, 0, none⟩) X4.out HBW.out _) HBW.out _) HBW.out _
            refine bodyPost_ret (v := .tuple #[.agg #[.int .u8 (a0 : Int), .int .i64 nx, .slice Av k cv], .int .i64 0]) (by simp [results, Try.results17, go_sem, e0, e1, e2]; try rfl) rfl ?_
            have hbp : hb < hp + 1 := by have := HBP.out; omega
            exact Ret.mk XE (.inl ⟨L, .slice Av k cv, by rw [HNX.out]; exact (by have hgg := HGOOD.out; simpa using hgg), by rw [HNX.out], ((((C4.out.same hbp (fun j hj _ => Below.heap_setCell w4 ⟨hb, 0, none⟩ (.int .u8 (a0 : Int)) j hj)).same hbp (fun j hj _ => Below.heap_setCell _ ⟨hb, 1, none⟩ (.int .i64 nx) j hj)).same hbp (fun j hj _ => Below.heap_setCell _ ⟨hb, 2, none⟩ (.slice Av k cv) j hj)).mono (by have := HBW.out; omega))⟩)

end Go.Proofs.Ytmamhinpkioogaa
