/-
  The reference's root by halving: root's contract.
-/
import Derived.Test.YtmanflfanoddgaaDoorRefA
import Derived.Test.YtmanflfanoddgaaDoorRefB
namespace Go.Proofs.YtmanflfanoddgaaDoor
open Go.RowKit

/-- A number below 2^38 in its parts. -/
def twoP (m : Nat) : List Nat := [m % 4294967296, m / 4294967296, 0, 0, 0, 0, 0, 0]
theorem twoP_parts (m : Nat) (h : m < 274877906945) : Parts (twoP m) := ⟨rfl, fun a ha => by
  simp only [twoP, List.mem_cons, List.not_mem_nil, or_false] at ha
  omega⟩
theorem twoP_num (m : Nat) : num (twoP m) = m := by simp only [twoP, num]; omega
theorem top_parts (n p : Nat) (hn : n < 4294967296) : Parts ((List.replicate 8 0).set p n) := Parts.zeros.set p n hn
theorem top_num (n p : Nat) (hp : p < 8) : num ((List.replicate 8 0).set p n) = n * 4294967296 ^ p := by
  have h1 : (List.replicate 8 0)[p]? = some 0 := by rw [List.getElem?_replicate, if_pos hp]
  have := num_set _ p 0 n h1
  rw [num_zeros] at this
  omega
theorem rootN_up (n p f low high : Nat) (h : high - low > 1) (ha : ((low + high) / 2) ^ p > n * 4294967296 ^ p) : rootN n p (f + 1) low high = rootN n p f low ((low + high) / 2) := by rw [rootN, if_pos h, if_pos ha]
theorem rootN_down (n p f low high : Nat) (h : high - low > 1) (ha : ¬ ((low + high) / 2) ^ p > n * 4294967296 ^ p) : rootN n p (f + 1) low high = rootN n p f ((low + high) / 2) high := by rw [rootN, if_pos h, if_neg ha]
theorem rootN_end (n p f low high : Nat) (h : ¬ high - low > 1) : rootN n p f low high = low := by
  cases f with
  | zero => rfl
  | succ f => rw [rootN, if_neg h]
/-- So far: low and high lie so far apart, and the root is between. -/
structure Half (n p low high : Nat) : Prop where
  lt : low < high
  le : high ≤ 274877906944
  fuel : ∃ f, high - low ≤ 2 ^ f ∧ rootN n p f low high = rootN n p 38 0 274877906944
theorem Half.start (n p : Nat) : Half n p 0 274877906944 := ⟨by decide, Nat.le_refl _, 38, by decide, rfl⟩
theorem Half.step {n p low high : Nat} (h : Half n p low high) (hg : 1 < high - low) : (((low + high) / 2) ^ p > n * 4294967296 ^ p → Half n p low ((low + high) / 2)) ∧ (¬ ((low + high) / 2) ^ p > n * 4294967296 ^ p → Half n p ((low + high) / 2) high) := by
  obtain ⟨f, hf, e⟩ := h.fuel
  have h1 := h.lt
  have h2 := h.le
  rcases f with _ | f
  · simp at hf; omega
  · rw [Nat.pow_succ] at hf
    refine ⟨fun ha => ⟨by omega, by omega, f, by omega, ?_⟩, fun ha => ⟨by omega, by omega, f, by omega, ?_⟩⟩
    · rw [← e, rootN_up _ _ _ _ _ hg ha]
    · rw [← e, rootN_down _ _ _ _ _ hg ha]
theorem Half.last {n p low high : Nat} (h : Half n p low high) (hg : ¬ 1 < high - low) : low % 4294967296 = root32 n p := by
  obtain ⟨f, hf, e⟩ := h.fuel
  rw [root32, ← e, rootN_end _ _ _ _ _ hg]

set_option maxRecDepth 20000 in
set_option maxHeartbeats 3200000 in
theorem root_any (n p : Nat) (hn : n < 400) (hp2 : 2 ≤ p) (hp3 : p ≤ 3) (w : World) :
    Calls Tryd.prog 49 #[.int .i64 (n : Int), .int .i64 (p : Int)] w (Ret w (Is (.int .u32 (root32 n p : Int)))) := by
  go_enter Tryd.func49, Tryd.ntmps49
  go_wp2
  go_loopw [5, 6] (fun l h wr => ∃ low high : Nat, l = .int .u64 (low : Int) ∧ h = .int .u64 (high : Int) ∧ Hid (Half n p low high) ∧ Ext w wr) (fun l h _ => (intOf h - intOf l).toNat)
  case atStart => exact ⟨0, 274877906944, rfl, rfl, hide (Half.start n p), Ext.refl _⟩
  case round =>
    obtain ⟨low, high, rfl, rfl, HH, hx⟩ := hrel
    have hlt := HH.out.lt
    have hle := HH.out.le
    obtain ⟨d, HDD⟩ : ∃ d, Hid (d = high - low) := ⟨_, hide rfl⟩
    have hsub : IntKind.u64.wrap ((high : Int) - (low : Int)) = (d : Int) := by rw [HDD.out, IntKind.wrap_u64]; omega
    by_cases hg : 1 < high - low
    · obtain ⟨HU, HD⟩ := HH.out.step hg
      obtain ⟨m, hm⟩ : ∃ m, m = (low + high) / 2 := ⟨_, rfl⟩
      rw [← hm] at HU HD
      have hm1 : low < m := by omega
      have hm2 : m < high := by omega
      have em : ((low : Int) + (high : Int)) / 2 = (m : Int) := by omega
      have hg2 : (1 : Int) < (d : Int) := by rw [HDD.out]; omega
      have HMM := hide (u64_mask m (by omega))
      replace HU := hide HU
      replace HD := hide HD
      clear hm hg
      go_wp2
      rw [em, HMM.out]
      obtain ⟨arr, HARR⟩ : ∃ arr : Array Value, Hid (#[Value.int .u64 ((m % 4294967296 : Nat) : Int), Value.int .u64 ((m : Int) / 4294967296), Value.int .u64 0, Value.int .u64 0, Value.int .u64 0, Value.int .u64 0, Value.int .u64 0, Value.int .u64 0] = arr) := ⟨_, hide rfl⟩
      rw [HARR.out]
      have HAW : Hid (arr = (ws (twoP m)).toArray) := by rw [Hid, ← HARR.out]; rfl
      rw [HAW.out]
      clear HARR HAW arr
      obtain ⟨g, HG⟩ : ∃ g, Hid (g = wr.heap.size) := ⟨_, hide rfl⟩
      generalize hW : World.alloc (World.alloc wr (Obj.cells (ws (twoP m)).toArray 130)) (Obj.cells (ws (twoP m)).toArray 130) = w1
      have hA : Wde w1 g (twoP m) := by rw [← hW, HG.out]; exact heap_alloc2_old wr _ _
      have hB : Wde w1 (g + 1) (twoP m) := by rw [← hW, HG.out]; exact heap_alloc2_new wr _ _
      have hx1 : Ext w w1 := by rw [← hW]; exact (hx.trans (Ext.alloc _ _)).trans (Ext.alloc _ _)
      have hgl : w.heap.size ≤ g := by rw [HG.out]; exact hx.size
      rw [← HG.out]
      clear hW HG hx hsub hg2
      have HTP := hide (twoP_parts m (by omega))
      have HPW := hide (show ∀ k, k < p → m ^ k * m % 4294967296 ^ 8 = m ^ (k + 1) from fun k hk => by
        rw [Nat.pow_succ]
        apply Nat.mod_eq_of_lt
        have h1 : m ^ (k + 1) ≤ 274877906944 ^ (k + 1) := Nat.pow_le_pow_left (by omega) _
        have h2 : (274877906944 : Nat) ^ (k + 1) ≤ 274877906944 ^ 3 := Nat.pow_le_pow_right (by decide) (by omega)
        rw [Nat.pow_succ] at h1
        exact Nat.lt_of_le_of_lt (Nat.le_trans h1 h2) (by decide))
      have KT := hide fun c (hc : Parts c) W => times_any c (twoP m) hc HTP.out W
      go_loopw [10] (fun i wr => ∃ (k : Nat) (c : List Nat), 1 ≤ k ∧ k ≤ p ∧ i = .int .i64 (k : Int) ∧ Parts c ∧ Hid (num c = m ^ k) ∧ Wde wr (g + 1) c ∧ Wde wr g (twoP m) ∧ Ext w wr) (fun i _ => p - (intOf i).toNat)
      case atStart => exact ⟨1, _, Nat.le_refl _, by omega, rfl, HTP.out, hide (by rw [twoP_num, Nat.pow_one]), hB, hA, hx1⟩
      clear hA hB hx1
      case round =>
        obtain ⟨k, c, hk1, hk, rfl, hc, HC, hB, hA, hx⟩ := hrel
        by_cases hlt : k < p
        · have hlt2 : (k : Int) < (p : Int) := by omega
          obtain ⟨w0, hw0⟩ : ∃ x, x = wr := ⟨_, rfl⟩
          subst hw0
          go_wp2_with (first
            | ((with_reducible show wpList _ _ _ (⟨some 31, .load _ _, _, _, _, _⟩ :: _) _ _);
               refine wpList_load_rw rfl 130 (.tmp 9) rfl _ rfl 130 (ws c) hB 8 126 Tryd.underlying130 (by kernel_rfl) (by rw [ws_length, hc.len]) ?_)
            | ((with_reducible show wpList _ _ _ (⟨some 32, .load _ _, _, _, _, _⟩ :: _) _ _);
               refine wpList_load_rw rfl 130 (.tmp 8) rfl _ rfl 130 (ws (twoP m)) hA 8 126 Tryd.underlying130 (by kernel_rfl) rfl ?_)
            | (go_at_call 79; refine (KT.out c hc _).mono ?_; rintro e w2 ⟨v2, rfl, hw2, ⟨c2, rfl, hc2, hn2⟩⟩;
               rw [HC.out, twoP_num, HPW.out k hlt] at hn2;
               have HN2 := hide hn2;
               clear hn2)
            | ((with_reducible show wpList _ _ _ (⟨none, .store _ (.tmp 9) _, _, _, _, _⟩ :: _) _ _);
               refine wpList_store_rw rfl 130 (.tmp 9) (.tmp 33) rfl _ rfl (ws c2) rfl 130 (ws c) (Rw.ext hB hw2) 8 (by kernel_rfl) (by rw [ws_length, hc2.len]) (by rw [ws_length, ws_length, hc.len, hc2.len]) (ws_one _) ?_;
               intro w3 hr3 hl3))
          refine ⟨⟨_, _, _, _, _, _, _, _, _, ⟨k + 1, c2, by omega, by omega, by go_num, hc2, HN2, hr3, Rw.other (Rw.ext hA hw2) hl3 (by omega), (hx.trans hw2).laid hl3 (by omega)⟩, rfl⟩, ?_⟩
          simp [intOf]
          omega
        · have hge : ¬ (k : Int) < (p : Int) := by omega
          have HC2 : Hid (num c = m ^ p) := by
            have e : k = p := by omega
            rw [← e]
            exact HC.out
          clear HC
          have hp8 : (p : Int) < 8 := by omega
          have KA := hide fun W => above_any c ((List.replicate 8 0).set p n) hc (top_parts n p (by omega)) W
          rw [HC2.out, top_num n p (by omega)] at KA
          have HTS := hide (show ([Value.int .u64 0, Value.int .u64 0, Value.int .u64 0, Value.int .u64 0, Value.int .u64 0, Value.int .u64 0, Value.int .u64 0, Value.int .u64 0].set p (Value.int .u64 (n : Int))).toArray = (ws ((List.replicate 8 0).set p n)).toArray by rw [ws, List.map_set]; rfl)
          have h08 : [Value.int .u64 0, Value.int .u64 0, Value.int .u64 0, Value.int .u64 0, Value.int .u64 0, Value.int .u64 0, Value.int .u64 0, Value.int .u64 0][p]? = some (.int .u64 0) := by
            show (List.replicate 8 (Value.int .u64 0))[p]? = _
            rw [List.getElem?_replicate, if_pos (by omega)]
          obtain ⟨w0, hw0⟩ : ∃ x, x = wr := ⟨_, rfl⟩
          subst hw0
          go_wp2_with (first
            | ((with_reducible show wpList _ _ _ (⟨some 38, .load _ _, _, _, _, _⟩ :: _) _ _);
               rw [HTS.out];
               refine wpList_load_rw rfl 130 (.tmp 9) rfl _ rfl 130 (ws c) (Rw.alloc hB _) 8 126 Tryd.underlying130 (by kernel_rfl) (by rw [ws_length, hc.len]) ?_)
            | ((with_reducible show wpList _ _ _ (⟨some 39, .load _ _, _, _, _, _⟩ :: _) _ _);
               refine wpList_load_rw rfl 130 (.tmp 11) rfl _ rfl 130 (ws ((List.replicate 8 0).set p n)) (heap_alloc_new _ _) 8 126 Tryd.underlying130 (by kernel_rfl) (by rw [ws_length, List.length_set]; rfl) ?_)
            | (go_at_call 80; refine (KA.out _).mono ?_; rintro e w2 ⟨v2, rfl, hw2, rfl⟩))
          · refine ⟨⟨low, m, rfl, rfl, hide (HU.out (by assumption)), (hx.trans (Ext.alloc _ _)).trans hw2⟩, ?_⟩
            simp [intOf]
            omega
          · refine ⟨⟨m, high, rfl, rfl, hide (HD.out (by assumption)), (hx.trans (Ext.alloc _ _)).trans hw2⟩, ?_⟩
            simp [intOf]
            omega
    · have hg2 : ¬ (1 : Int) < (d : Int) := by rw [HDD.out]; omega
      have HE := hide (HH.out.last hg)
      go_wp2
      go_ret
      refine Ret.mk hx ?_
      rw [← HE.out]
      show Value.int .u32 _ = Value.int .u32 _
      congr 1
end Go.Proofs.YtmanflfanoddgaaDoor
