/-
  Numbers and sums of records, put behind bytes of the call's own.
-/
import Derived.Test.YthdahgekodcloaaDoorRcG
import Derived.Test.YthdahgekodcloaaDoorUin
import Derived.Test.YthdahgekodcloaaDoorOctS
namespace Go.Proofs.YthdahgekodcloaaDoor
open Go.RowKit

/-- The last n bytes of a number. -/
def numN (n : Nat) (u : Int) : List UInt8 := (be64 u).drop (8 - n)
theorem numN_length (n : Nat) (u : Int) (h : n ≤ 8) : (numN n u).length = n := by rw [numN, List.length_drop, be64_length]; omega
/-- Blocks that aren't bytes stay. -/
def Stay (w w' : World) : Prop := ∀ (g : Nat) (t : TypeId) (vs : List Value), t ≠ 5 → Rw w g t vs → Rw w' g t vs
theorem Stay.ext {w w' : World} (h : Ext w w') : Stay w w' := fun _ _ _ _ hr => hr.ext h
theorem Stay.trans {a b c : World} (h : Stay a b) (k : Stay b c) : Stay a c := fun g t vs ht hr => k g t vs ht (h g t vs ht hr)
/-- What a call leaves that puts bytes behind v. -/
def AddP (w : World) (B : Nat) (l : List UInt8) (e : Ending) (w' : World) : Prop := ∃ v', e = .returned v' ∧ Own w' B v' l ∧ Below B w w' ∧ Stay w w'
theorem own_apartR {w : World} {B g : Nat} {t : TypeId} {v : Value} {l : List UInt8} {vs : List Value} (h : Rw w g t vs) (ht : t ≠ 5) (ho : Own w B v l) : some g ≠ v.ownBlock := fun e => by
  rcases ho.2 with ⟨rfl, _⟩ | ⟨g2, cap, cur, rfl, _, hg, _⟩
  · cases e
  · injection e with e
    subst e
    unfold Rw at h
    rw [hg] at h
    injection h with h
    injection h with _ h2
    exact ht h2.symm
/-- A block of another kind stays. -/
theorem Rw.grown {w w' : World} {B g : Nat} {t : TypeId} {v : Value} {l : List UInt8} {vs : List Value} (h : Rw w g t vs) (ht : t ≠ 5) (ho : Own w B v l) (hg : w.grownBy w' v.ownBlock) : Rw w' g t vs :=
  (hg.block g h.lt (own_apartR h ht ho)).trans h
theorem Ext.below {w0 w w' : World} {B : Nat} (hx : Ext w0 w) (hB : w0.heap.size ≤ B) (hb : Below B w w') : Ext w0 w' := Below.trans hx (hb.mono hB)
section
variable {ops : Array Oper} {rest : List Oper} {o : Oper} {a : Act} {Q : Exit → Act → World → Prop} {w : World}
theorem wpList_catG (hgd : Region.wanted o (yielded ops a.tmps) = true) (s x : Operand) (ho : o.op = .call { callee := .builtin .append, args := #[s, x], argTypes := #[23, 23] })
    (base : Nat) (v : Value) (l m : List UInt8) (A : Option Addr) (n c : Nat) (hs : a.eval s = v) (hx : a.eval x = .slice A n c) (hn : n = m.length) (hown : Own w base v l) (hr : Rd w A m) (hbase : base ≤ w.heap.size) (hlen : l.length + m.length ≤ 140737488355328)
    (h : ∀ v' w', Own w' base v' (l ++ m) → Below base w w' → Stay w w' → wpList Tryd.prog ops Q rest (a.put o.dst v') w') : wpList Tryd.prog ops Q (o :: rest) a w := by
  subst hn
  obtain ⟨v', w', hrun, h2, h4, h3⟩ := run_cat w base o.type v l m A c hown hr hbase hlen
  refine wpList_wanted hgd fun K hK => ?_
  unfold Oper.wp execOp
  simp only [ho, resolve, invoke, builtin, Sem.run_bind, Sem.run_pure, Result.andThen_ok, List.map_toArray, List.map_cons, List.map_nil, hs, hx, hrun]
  exact hK _ _ (h v' w' h2 h4 (fun _ _ _ ht hr => hr.grown ht hown h3))
end
set_option maxHeartbeats 800000 in
theorem appendNumber_1 (v : Value) (l : List UInt8) (u : Int) (B : Nat) (w : World) (ho : Own w B v l) (hB : B ≤ w.heap.size) (h0 : 0 ≤ u) (h1 : u < 18446744073709551616) (hl : l.length ≤ 4398046511104) :
    Calls Tryd.prog 19 #[v, .int .u64 u, .int .i64 1] w (AddP w B (l ++ numN 1 u)) := by
  have KU := hide (fun (W : World) => uint_any u W h0 h1)
  have HO := hide ho
  have HB := hide hB
  have HL := hide hl
  clear ho hB h0 h1 hl
  go_enter Tryd.func19, Tryd.ntmps19
  go_upto_region 2 with (go_at_call 30; (with_reducible refine (KU.out _).mono ?_); rintro e w1 ⟨v1, rfl, hx1, A1, c1, rfl, hc1, hr1⟩; have X1 := hide hx1; have R1 := hide hr1; clear hx1 hr1)
  have hc8 : 8 ≤ c1 := hc1
  have HLN := hide (be64_length u)
  rw [HLN.out]
  obtain ⟨b1, o1, hA1, -⟩ := R1.out (by intro e; have := HLN.out; rw [e] at this; cases this)
  subst hA1
  have RD : Hid (Rd w1 (some ⟨b1, o1 + 7, none⟩) (numN 1 u)) := hide (by have h := R1.out.drop 7; rw [add_flat] at h; exact h)
  have hck : ¬ c1 = 7 := by omega
  have hci : (7 : Int) ≤ (c1 : Int) := by omega
  have hci8 : (8 : Int) ≤ (c1 : Int) := by omega
  clear hc1
  go_wp2_with (refine wpList_catG rfl (.tmp 10) (.tmp 16) rfl B v l (numN 1 u) (some ⟨b1, o1 + 7, none⟩) 1 _ rfl rfl (numN_length _ _ (by decide)).symm (HO.out.ext X1.out) RD.out (Nat.le_trans HB.out X1.out.size) (by rw [numN_length _ _ (by decide)]; have := HL.out; omega) ?_; intro v2 w2 ho2 hb2 hs2)
  go_ret
  exact ⟨v2, rfl, ho2, (Below.mono X1.out HB.out).trans hb2, (Stay.ext X1.out).trans hs2⟩
set_option maxHeartbeats 800000 in
theorem appendNumber_2 (v : Value) (l : List UInt8) (u : Int) (B : Nat) (w : World) (ho : Own w B v l) (hB : B ≤ w.heap.size) (h0 : 0 ≤ u) (h1 : u < 18446744073709551616) (hl : l.length ≤ 4398046511104) :
    Calls Tryd.prog 19 #[v, .int .u64 u, .int .i64 2] w (AddP w B (l ++ numN 2 u)) := by
  have KU := hide (fun (W : World) => uint_any u W h0 h1)
  have HO := hide ho
  have HB := hide hB
  have HL := hide hl
  clear ho hB h0 h1 hl
  go_enter Tryd.func19, Tryd.ntmps19
  go_upto_region 2 with (go_at_call 30; (with_reducible refine (KU.out _).mono ?_); rintro e w1 ⟨v1, rfl, hx1, A1, c1, rfl, hc1, hr1⟩; have X1 := hide hx1; have R1 := hide hr1; clear hx1 hr1)
  have hc8 : 8 ≤ c1 := hc1
  have HLN := hide (be64_length u)
  rw [HLN.out]
  obtain ⟨b1, o1, hA1, -⟩ := R1.out (by intro e; have := HLN.out; rw [e] at this; cases this)
  subst hA1
  have RD : Hid (Rd w1 (some ⟨b1, o1 + 6, none⟩) (numN 2 u)) := hide (by have h := R1.out.drop 6; rw [add_flat] at h; exact h)
  have hck : ¬ c1 = 6 := by omega
  have hci : (6 : Int) ≤ (c1 : Int) := by omega
  have hci8 : (8 : Int) ≤ (c1 : Int) := by omega
  clear hc1
  go_wp2_with (refine wpList_catG rfl (.tmp 10) (.tmp 16) rfl B v l (numN 2 u) (some ⟨b1, o1 + 6, none⟩) 2 _ rfl rfl (numN_length _ _ (by decide)).symm (HO.out.ext X1.out) RD.out (Nat.le_trans HB.out X1.out.size) (by rw [numN_length _ _ (by decide)]; have := HL.out; omega) ?_; intro v2 w2 ho2 hb2 hs2)
  go_ret
  exact ⟨v2, rfl, ho2, (Below.mono X1.out HB.out).trans hb2, (Stay.ext X1.out).trans hs2⟩
set_option maxHeartbeats 800000 in
theorem appendNumber_4 (v : Value) (l : List UInt8) (u : Int) (B : Nat) (w : World) (ho : Own w B v l) (hB : B ≤ w.heap.size) (h0 : 0 ≤ u) (h1 : u < 18446744073709551616) (hl : l.length ≤ 4398046511104) :
    Calls Tryd.prog 19 #[v, .int .u64 u, .int .i64 4] w (AddP w B (l ++ numN 4 u)) := by
  have KU := hide (fun (W : World) => uint_any u W h0 h1)
  have HO := hide ho
  have HB := hide hB
  have HL := hide hl
  clear ho hB h0 h1 hl
  go_enter Tryd.func19, Tryd.ntmps19
  go_upto_region 2 with (go_at_call 30; (with_reducible refine (KU.out _).mono ?_); rintro e w1 ⟨v1, rfl, hx1, A1, c1, rfl, hc1, hr1⟩; have X1 := hide hx1; have R1 := hide hr1; clear hx1 hr1)
  have hc8 : 8 ≤ c1 := hc1
  have HLN := hide (be64_length u)
  rw [HLN.out]
  obtain ⟨b1, o1, hA1, -⟩ := R1.out (by intro e; have := HLN.out; rw [e] at this; cases this)
  subst hA1
  have RD : Hid (Rd w1 (some ⟨b1, o1 + 4, none⟩) (numN 4 u)) := hide (by have h := R1.out.drop 4; rw [add_flat] at h; exact h)
  have hck : ¬ c1 = 4 := by omega
  have hci : (4 : Int) ≤ (c1 : Int) := by omega
  have hci8 : (8 : Int) ≤ (c1 : Int) := by omega
  clear hc1
  go_wp2_with (refine wpList_catG rfl (.tmp 10) (.tmp 16) rfl B v l (numN 4 u) (some ⟨b1, o1 + 4, none⟩) 4 _ rfl rfl (numN_length _ _ (by decide)).symm (HO.out.ext X1.out) RD.out (Nat.le_trans HB.out X1.out.size) (by rw [numN_length _ _ (by decide)]; have := HL.out; omega) ?_; intro v2 w2 ho2 hb2 hs2)
  go_ret
  exact ⟨v2, rfl, ho2, (Below.mono X1.out HB.out).trans hb2, (Stay.ext X1.out).trans hs2⟩
set_option maxHeartbeats 800000 in
theorem appendNumber_8 (v : Value) (l : List UInt8) (u : Int) (B : Nat) (w : World) (ho : Own w B v l) (hB : B ≤ w.heap.size) (h0 : 0 ≤ u) (h1 : u < 18446744073709551616) (hl : l.length ≤ 4398046511104) :
    Calls Tryd.prog 19 #[v, .int .u64 u, .int .i64 8] w (AddP w B (l ++ numN 8 u)) := by
  have KU := hide (fun (W : World) => uint_any u W h0 h1)
  have HO := hide ho
  have HB := hide hB
  have HL := hide hl
  clear ho hB h0 h1 hl
  go_enter Tryd.func19, Tryd.ntmps19
  go_upto_region 2 with (go_at_call 30; (with_reducible refine (KU.out _).mono ?_); rintro e w1 ⟨v1, rfl, hx1, A1, c1, rfl, hc1, hr1⟩; have X1 := hide hx1; have R1 := hide hr1; clear hx1 hr1)
  have hc8 : 8 ≤ c1 := hc1
  have HLN := hide (be64_length u)
  rw [HLN.out]
  obtain ⟨b1, o1, hA1, -⟩ := R1.out (by intro e; have := HLN.out; rw [e] at this; cases this)
  subst hA1
  have RD : Hid (Rd w1 (some ⟨b1, o1 + 0, none⟩) (numN 8 u)) := hide (by have h := R1.out.drop 0; rw [add_flat] at h; exact h)
  have hck : ¬ c1 = 0 := by omega
  have hci : (0 : Int) ≤ (c1 : Int) := by omega
  have hci8 : (8 : Int) ≤ (c1 : Int) := by omega
  clear hc1
  go_wp2_with (refine wpList_catG rfl (.tmp 10) (.tmp 16) rfl B v l (numN 8 u) (some ⟨b1, o1 + 0, none⟩) 8 _ rfl rfl (numN_length _ _ (by decide)).symm (HO.out.ext X1.out) RD.out (Nat.le_trans HB.out X1.out.size) (by rw [numN_length _ _ (by decide)]; have := HL.out; omega) ?_; intro v2 w2 ho2 hb2 hs2)
  go_ret
  exact ⟨v2, rfl, ho2, (Below.mono X1.out HB.out).trans hb2, (Stay.ext X1.out).trans hs2⟩
/-- A record's sum. -/
def sumB (l : List UInt8) : List UInt8 := numN 4 (crc l : Int)
theorem crc_lt (l : List UInt8) : (crc l : Int) < 18446744073709551616 := by unfold crc; omega
set_option maxHeartbeats 800000 in
theorem sumOf_any (A : Option Addr) (l : List UInt8) (n c : Nat) (w : World) (hr : Rd w A l) (hn : l.length = n) (hl : n ≤ 140737488355328) (ht : Tab w) :
    Calls Tryd.prog 21 #[.slice A n c] w (Ret w (fun w' v => Own w' w.heap.size v (sumB l))) := by
  subst hn
  have KS := hide (sum_any A c l w hr hl ht)
  obtain ⟨s, HS⟩ : ∃ s : Nat, Hid (crc l = s) := ⟨_, hide rfl⟩
  have HSL : Hid ((s : Int) < 18446744073709551616) := hide (by rw [← HS.out]; exact crc_lt l)
  have HSB : Hid (numN 4 (s : Int) = sumB l) := hide (by rw [← HS.out]; rfl)
  rw [HS.out] at KS
  have hs32 : IntKind.u64.wrap (s : Int) = (s : Int) := by rw [IntKind.wrap_u64]; have := HSL.out; omega
  clear hr hl ht
  obtain ⟨n, HN⟩ : ∃ n, Hid (l.length = n) := ⟨_, hide rfl⟩
  rw [HN.out] at KS ⊢
  go_enter Tryd.func21, Tryd.ntmps21
  go_wp2_with (first
    | (go_at_call 31; (with_reducible refine KS.out.mono ?_); rintro e w1 ⟨v1, rfl, hx1, rfl⟩; have X1 := hide hx1; clear hx1)
    | (go_at_call 19; have KA := appendNumber_4 (.slice none 0 0) [] (s : Int) w.heap.size _ (Own.nil _ _) X1.out.size (by omega) HSL.out (by simp); (with_reducible refine KA.mono ?_); rintro e w2 ⟨v2, rfl, ho2, hb2, -⟩; have O2 := hide ho2; have B2 := hide hb2; clear ho2 hb2 KA))
  go_ret
  refine Ret.mk (X1.out.below (Nat.le_refl _) B2.out) ?_
  rw [← HSB.out]
  exact O2.out
end Go.Proofs.YthdahgekodcloaaDoor
