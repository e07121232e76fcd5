/-
  The reference's tables: Make's contract.
-/
import Derived.Test.YtmanflfanoddgaaDoorRefD
namespace Go.Proofs.YtmanflfanoddgaaDoor
open Go.RowKit

/-- The tables as far as k goes. -/
structure TabL (l : List Nat) (k : Nat) : Prop where
  len : l.length = 72
  first : ∀ j, j < k → j < 8 → l[j]? = startW[j]?
  round : ∀ j, j < k → l[8 + j]? = roundW[j]?
theorem TabL.start : TabL (List.replicate 72 0) 0 := ⟨rfl, fun j h => by omega, fun j h => by omega⟩
theorem startW_at (k : Nat) (h : k < 8) : startW[k]? = some (startW.getD k 0) := by
  rw [List.getD_eq_getElem?_getD, List.getElem?_eq_getElem (show k < startW.length from h)]; rfl
theorem roundW_at (k : Nat) (h : k < 64) : roundW[k]? = some (roundW.getD k 0) := by
  rw [List.getD_eq_getElem?_getD, List.getElem?_eq_getElem (show k < roundW.length from h)]; rfl
theorem TabL.step {l : List Nat} {k : Nat} (h : TabL l k) (hk : k < 64) (h8 : 8 ≤ k) : TabL (l.set (8 + k) (roundW.getD k 0)) (k + 1) := by
  refine ⟨by rw [List.length_set]; exact h.len, fun j hj hj8 => ?_, fun j hj => ?_⟩
  · rw [List.getElem?_set_ne (by omega)]
    exact h.first j (by omega) hj8
  · rcases Nat.lt_or_ge j k with h1 | h1
    · rw [List.getElem?_set_ne (by omega)]
      exact h.round j h1
    · have e : j = k := by omega
      rw [e, List.getElem?_set_self (by rw [h.len]; omega), roundW_at k hk]
theorem TabL.step8 {l : List Nat} {k : Nat} (h : TabL l k) (h8 : k < 8) : TabL ((l.set k (startW.getD k 0)).set (8 + k) (roundW.getD k 0)) (k + 1) := by
  refine ⟨by rw [List.length_set, List.length_set]; exact h.len, fun j hj hj8 => ?_, fun j hj => ?_⟩
  · rw [List.getElem?_set_ne (by omega)]
    rcases Nat.lt_or_ge j k with h1 | h1
    · rw [List.getElem?_set_ne (by omega)]
      exact h.first j (by omega) hj8
    · have e : j = k := by omega
      rw [e, List.getElem?_set_self (by rw [h.len]; omega), startW_at k h8]
  · rcases Nat.lt_or_ge j k with h1 | h1
    · rw [List.getElem?_set_ne (by omega), List.getElem?_set_ne (by omega)]
      exact h.round j h1
    · have e : j = k := by omega
      rw [e, List.getElem?_set_self (by rw [List.length_set, h.len]; omega), roundW_at k (by omega)]
theorem TabL.last {l : List Nat} (h : TabL l 64) : l = startW ++ roundW := by
  apply List.ext_getElem?
  intro i
  rcases Nat.lt_or_ge i 8 with h1 | h1
  · rw [List.getElem?_append_left (show i < startW.length from h1)]
    exact h.first i (by omega) h1
  · rw [List.getElem?_append_right (show startW.length ≤ i from h1)]
    rcases Nat.lt_or_ge i 72 with h2 | h2
    · have := h.round (i - 8) (by omega)
      rw [show 8 + (i - 8) = i by omega] at this
      exact this
    · rw [List.getElem?_eq_none (by rw [h.len]; exact h2), List.getElem?_eq_none (show roundW.length ≤ i - startW.length from by show 64 ≤ i - 8; omega)]
theorem TabL.some {l : List Nat} {k : Nat} (h : TabL l k) {i : Nat} (hi : i < 72) : ∃ x, l[i]? = Option.some x := ⟨_, List.getElem?_eq_getElem (by rw [h.len]; exact hi)⟩
/-- The tables as a value. -/
def tabV : Value := .agg (us (startW ++ roundW)).toArray
theorem primeOf_lt (k : Nat) (hk : k < 64) : nextOk (lastPrime k) (primeOf k) = true ∧ 1 ≤ lastPrime k ∧ primeOf k < 400 := by
  have h1 := List.all_eq_true.1 primes_ok k (List.mem_range.2 hk)
  refine ⟨h1, ?_, ?_⟩
  · rcases k with _ | k
    · decide
    · have h2 := List.all_eq_true.1 primes_ok k (List.mem_range.2 (by omega))
      unfold nextOk at h2
      simp only [Bool.and_eq_true, decide_eq_true_eq] at h2
      show 1 ≤ primeOf k
      omega
  · unfold nextOk at h1
    simp only [Bool.and_eq_true, decide_eq_true_eq] at h1
    omega

theorem wpList_alloc_st {P : Program} {ops : Array Oper} {rest : List Oper} {o : Oper} {a : Act} {w : World} {Q : Exit → Act → World → Prop} (hgd : o.guard = none) (ty : TypeId) (ho : o.op = .alloc ty) (cs : Array Value) (n : Nat) (hz : (P.info? ty).map (fun i => (i.zero, i.size)) = some (some (.agg cs), n))
    (h : wpList P ops Q rest (a.put o.dst (.pointer (some ⟨w.heap.size, 0, none⟩))) (w.alloc (.cells cs ty))) : wpList P ops Q (o :: rest) a w :=
  wpList_plain hgd fun _ hK => by
    have hz2 := (zero_of_info hz).1 w
    have he : (execOp a.eval o).run P w = .ok (.value (.pointer (some ⟨w.heap.size, 0, none⟩))) (w.alloc (.cells cs ty)) := by simp [execOp, ho, hz2, newVar, newRow, newObj, Value.cells, go_sem]; rfl
    unfold Oper.wp
    rw [he]
    exact hK _ _ h

set_option maxRecDepth 20000 in
set_option maxHeartbeats 3200000 in
theorem rmake_any (w : World) : Calls Tryd.prog 18 #[] w (Ret w (Is tabV)) := by
  go_enter Tryd.func18, Tryd.ntmps18
  obtain ⟨cs, HCS⟩ : ∃ cs : Array Value, Hid (cs = (us (List.replicate 72 0)).toArray) := ⟨_, hide rfl⟩
  have HZ : Hid ((Tryd.prog.info? 31).map (fun i => (i.zero, i.size)) = some (some (.agg cs), 72)) := by rw [Hid, HCS.out]; kernel_rfl
  go_wp2_with (first
    | ((with_reducible show wpList _ _ _ (⟨some 0, .alloc _, _, _, _, _⟩ :: _) _ _);
       refine wpList_alloc_st rfl 31 rfl cs 72 HZ.out ?_)
    | ((with_reducible show wpList _ _ _ (⟨some 1, .alloc _, _, _, _, _⟩ :: _) _ _);
       refine wpList_alloc_st rfl 31 rfl cs 72 HZ.out ?_))
  generalize hW : World.alloc (World.alloc w (Obj.cells cs 31)) (Obj.cells cs 31) = w1
  rw [HCS.out] at hW
  clear HZ HCS
  obtain ⟨g, hg⟩ : ∃ g, g = w.heap.size := ⟨_, rfl⟩
  have hgl : w.heap.size ≤ g := by omega
  have hR : Wds w1 g 31 (List.replicate 72 0) := by rw [← hW, hg]; exact heap_alloc2_old w _ _
  have hT : Wds w1 (g + 1) 31 (List.replicate 72 0) := by rw [← hW, hg]; exact heap_alloc2_new w _ _
  have hx : Ext w w1 := by rw [← hW]; exact (Ext.alloc w _).trans (Ext.alloc _ _)
  rw [← hg]
  clear hW hg
  go_loopw [2, 3] (fun p i wr => ∃ (k : Nat) (l : List Nat), k ≤ 64 ∧ i = .int .i64 (k : Int) ∧ p = .int .i64 (lastPrime k : Int) ∧ TabL l k ∧ Wds wr g 31 (List.replicate 72 0) ∧ Wds wr (g + 1) 31 l ∧ Ext w wr) (fun _ i _ => 64 - (intOf i).toNat)
  case atStart => exact ⟨0, _, by omega, rfl, rfl, TabL.start, hR, hT, hx⟩
  clear hR hT hx
  case round =>
    obtain ⟨k, l, hk, rfl, rfl, hl, hR, hT, hx⟩ := hrel
    by_cases hlt : k < 64
    · have hlt2 : (k : Int) < 64 := by omega
      obtain ⟨hn1, hn2, hn3⟩ := primeOf_lt k hlt
      obtain ⟨q, HQ⟩ : ∃ q, Hid (primeOf k = q) := ⟨_, hide rfl⟩
      obtain ⟨m, HM⟩ : ∃ m, Hid (lastPrime k = m) := ⟨_, hide rfl⟩
      rw [HM.out, HQ.out] at hn1
      rw [HQ.out] at hn3
      rw [HM.out] at hn2 ⊢
      have KP := hide fun W => prime_any m q hn1 hn2 W
      have KC := hide fun W => (show Calls Tryd.prog 49 #[.int .i64 (q : Int), .int .i64 3] W (Ret W (Is (.int .u32 (roundW.getD k 0 : Int)))) from (by
        have h1 := root_any q 3 hn3 (by decide) (by decide) W
        have h2 := List.all_eq_true.1 round_ok k (List.mem_range.2 hlt)
        rw [beq_iff_eq, HQ.out] at h2
        rw [h2] at h1
        exact h1))
      clear hn1 hn2 hn3
      obtain ⟨r, HR⟩ : ∃ r, Hid (roundW.getD k 0 = r) := ⟨_, hide rfl⟩
      rw [HR.out] at KC
      by_cases h8 : k < 8
      · have KS := hide fun W => (show Calls Tryd.prog 49 #[.int .i64 (q : Int), .int .i64 2] W (Ret W (Is (.int .u32 (startW.getD k 0 : Int)))) from (by
          have h1 := root_any q 2 (by have := (primeOf_lt k hlt).2.2; rw [HQ.out] at this; exact this) (by decide) (by decide) W
          have h2 := List.all_eq_true.1 start_ok k (List.mem_range.2 h8)
          rw [beq_iff_eq, HQ.out] at h2
          rw [h2] at h1
          exact h1))
        obtain ⟨s, HS⟩ : ∃ s, Hid (startW.getD k 0 = s) := ⟨_, hide rfl⟩
        rw [HS.out] at KS
        have HL := hide (hl.step8 h8)
        have h82 : (k : Int) < 8 := by omega
        rw [HS.out, HR.out] at HL
        obtain ⟨x, hx0⟩ := hl.some (i := k) (by omega)
        obtain ⟨y, hy0⟩ := hl.some (i := 8 + k) (by omega)
        have hy1 : (l.set k s)[8 + k]? = some y := by rw [List.getElem?_set_ne (by omega)]; exact hy0
        obtain ⟨w0, hw0⟩ : ∃ x, x = wr := ⟨_, rfl⟩
        subst hw0
        go_wp2_with (first
          | (go_at_call 48; refine (KP.out _).mono ?_; rintro e w2 ⟨v2, rfl, hw2, rfl⟩)
          | (go_at_call 49; (with_reducible show Calls _ _ #[_, Value.int .i64 2] _ _); refine (KS.out _).mono ?_; rintro e w3 ⟨v3, rfl, hw3, rfl⟩;
             have hT3 := Wds.ext hT (hw2.trans hw3);
             have c3 := hT3.cell hx0;
             have f3 := hT3.frozen k)
          | (go_at_call 49; (with_reducible show Calls _ _ #[_, Value.int .i64 3] _ _); refine (KC.out _).mono ?_; rintro e w4 ⟨v4, rfl, hw4, rfl⟩;
             have hT4 := Wds.ext (Wds.put hT3 k s rfl rfl) hw4;
             have c4 := hT4.cell hy1;
             have f4 := hT4.frozen (8 + k)))
        refine ⟨⟨k + 1, (l.set k s).set (8 + k) r, by omega, by go_num, by rw [← HQ.out]; rfl, HL.out, ?_, Wds.put hT4 (8 + k) r rfl rfl, ?_⟩, by simp [intOf]; omega⟩
        · exact Wds.far (Wds.ext (Wds.far (Wds.ext hR (hw2.trans hw3)) (by show g ≠ g + 1; omega) _) hw4) (by show g ≠ g + 1; omega) _
        · exact Below.set ((Below.set (hx.trans (hw2.trans hw3)) (by show w.heap.size ≤ g + 1; omega) _).trans (Below.mono hw4 (by have := hx.size; have := (hw2.trans hw3).size; simp [World.setCell]; omega))) (by show w.heap.size ≤ g + 1; omega) _
      · have h82 : ¬ (k : Int) < 8 := by omega
        have HL := hide (hl.step hlt (by omega))
        rw [HR.out] at HL
        obtain ⟨y, hy0⟩ := hl.some (i := 8 + k) (by omega)
        obtain ⟨w0, hw0⟩ : ∃ x, x = wr := ⟨_, rfl⟩
        subst hw0
        go_wp2_with (first
          | (go_at_call 48; refine (KP.out _).mono ?_; rintro e w2 ⟨v2, rfl, hw2, rfl⟩)
          | (go_at_call 49; (with_reducible show Calls _ _ #[_, Value.int .i64 3] _ _); refine (KC.out _).mono ?_; rintro e w4 ⟨v4, rfl, hw4, rfl⟩;
             have hT4 := Wds.ext hT (hw2.trans hw4);
             have c4 := hT4.cell hy0;
             have f4 := hT4.frozen (8 + k)))
        refine ⟨⟨k + 1, l.set (8 + k) r, by omega, by go_num, by rw [← HQ.out]; rfl, HL.out, ?_, Wds.put hT4 (8 + k) r rfl rfl, ?_⟩, by simp [intOf]; omega⟩
        · exact Wds.far (Wds.ext hR (hw2.trans hw4)) (by show g ≠ g + 1; omega) _
        · exact Below.set (hx.trans (hw2.trans hw4)) (by show w.heap.size ≤ g + 1; omega) _
    · have hge : ¬ (k : Int) < 64 := by omega
      have e : l = startW ++ roundW := by
        have ek : k = 64 := by omega
        rw [ek] at hl
        exact hl.last
      have hll := hl.len
      clear hl
      go_wp2_with (first
        | ((with_reducible show wpList _ _ _ (⟨some 22, .load _ _, _, _, _, _⟩ :: _) _ _);
           refine wpList_load_row rfl 31 (.tmp 1) rfl _ rfl 31 (us l).toArray (0, 0) _ hT Tryd.underlying31 rfl (by rw [List.size_toArray, us_length, hll]; kernel_rfl) ?_)
        | ((with_reducible show wpList _ _ _ (⟨none, .store _ (.tmp 0) _, _, _, _, _⟩ :: _) _ _);
           refine wpList_store_rw rfl 31 (.tmp 0) (.tmp 22) rfl _ rfl (us l) rfl 31 (us (List.replicate 72 0)) hR 72 (by kernel_rfl) (by rw [us_length, hll]) (by rw [us_length, us_length, hll]; rfl) (us_one _) ?_;
           intro w5 hr5 hl5))
      refine bodyPost_ret (results_cell_row rfl _ _ _ _ _ (0, 0) _ rfl hr5 Tryd.underlying31 rfl (by rw [List.size_toArray, us_length, hll]; kernel_rfl)) rfl (Ret.mk (hx.laid hl5 (by omega)) ?_)
      rw [e]
      rfl
end Go.Proofs.YtmanflfanoddgaaDoor
