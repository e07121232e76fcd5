/-
  slices.Grow of nothing, slices.Concat of three slices of cells: contracts.
-/
import Derived.Test.YtmamhinpkioogaaPgG
namespace Go.Proofs.Ytmamhinpkioogaa
open Go.RowKit

set_option maxRecDepth 20000 in
set_option maxHeartbeats 1600000 in
theorem grow_any (n : Nat) (hn : n ≤ 1000000) (w : World) : Calls Try.prog 41 #[.slice none 0 0, .int .i64 (n : Int)] w (Ret w (OwnV w w.heap.size [])) := by
  have hn0 : ¬ (n : Int) < 0 := by omega
  have hni : (n : Int) ≤ 1000000 := by omega
  by_cases hz : n = 0
  · subst hz
    clear hn0 hni hn
    go_enter Try.func41, Try.ntmps41
    go_wp2
    go_ret
    exact Ret.mk (Ext.refl _) ⟨[], World.ownsRow_nil _ _ _ _, rfl, fun j x h => by cases h⟩
  · have hpos : (0 : Int) < (n : Int) := by omega
    obtain ⟨i0, hi, hz0, hsz, hby⟩ := info_partsC
    have hrun := fun (ty : TypeId) => Lib.run_append_nil_zeros (P := Try.prog) w 22 3 ty 40 i0 (.agg #[.slice none 0 0, .slice none 0 0]) .i64 .i64 Try.underlying22 Try.underlying3 hi hz0 n (by omega) (by omega) (by omega) (by rw [hby]; omega)
    have HRUN := hide hrun
    have HN := hide hn
    clear hrun hi hz0 hsz hby hz hn
    go_enter Try.func41, Try.ntmps41
    go_wp2_with (at_builtin; refine Lib.wpList_append_run _ rfl (.tmp 20) (.tmp 21) _ _ rfl _ _ rfl rfl _ _ (HRUN.out _) ?_)
    go_ret
    refine Ret.mk ((Ext.alloc w _).trans (Ext.drew _)) ⟨[], ⟨rfl, .inr ⟨w.heap.size, grownCap w n 0 40, _, rfl, Nat.le_refl _, heap_alloc_new w _, Nat.zero_le _, grownCap_le_maxLen w n 0 _ (by unfold maxLen; have := HN.out; omega), ?_, rfl⟩⟩, rfl, fun j x h => by cases h⟩
    have hge := grownCap_ge w n 0 40
    rw [Array.size_append, size_zeroCells, size_zeroCells]
    show n * 2 + _ * 2 = _ * 2
    omega
theorem OwnV.rebase {w0 w1 w : World} {B B' : Nat} {v : Value} (h : OwnV w0 B [] w v) (hB : B' ≤ B) : OwnV w1 B' [] w v := by
  obtain ⟨vs, h1, h2⟩ := h
  have e : vs = [] := List.length_eq_zero_iff.1 (by have := h2.1; simpa using this)
  subst e
  refine ⟨[], ⟨h1.1, ?_⟩, rfl, fun j x h => by cases h⟩
  rcases h1.2 with hn | ⟨g, cap, cur, rfl, hb, rest⟩
  · exact .inl hn
  · exact .inr ⟨g, cap, cur, rfl, Nat.le_trans hB hb, rest⟩
theorem flat_take_succ {α : Type} (M : List (List α)) (k : Nat) (m : List α) (h : M[k]? = some m) : (M.take (k + 1)).flatten = (M.take k).flatten ++ m := by
  rw [List.take_add_one, h]
  simp
theorem flat_take_le {α : Type} : ∀ (M : List (List α)) (k : Nat), (M.take k).flatten.length ≤ M.flatten.length
  | [], k => by simp
  | m :: M, 0 => by simp
  | m :: M, k + 1 => by
    have := flat_take_le M k
    simp only [List.take_succ_cons, List.flatten_cons, List.length_append]
    omega
set_option maxRecDepth 20000 in
set_option maxHeartbeats 1600000 in
theorem concat_any (g q c : Nat) (M : List (List Cl)) (w : World) (hq : M.length = q) (hq10 : q ≤ 10) (hM : M.flatten.length ≤ 1000000) (hV : ∀ k m, M[k]? = some m → ∃ A c, w.cell? ⟨g, k, none⟩ = some (.slice A m.length c) ∧ RdC w A m) :
    Calls Try.prog 39 #[.slice (some ⟨g, 0, none⟩) q c] w (Ret w (OwnV w w.heap.size M.flatten)) := by
  have HQ := hide hq
  have HQ10 : Hid ((q : Int) ≤ 10) := hide (by omega)
  have HM := hide hM
  have HV := hide hV
  have HT := hide (flat_take_le M)
  clear hq hq10 hM hV
  go_enter Try.func39, Try.ntmps39
  go_wp2
  go_loopw [3, 11] (fun sv iv wr => ∃ k s : Nat, k ≤ q ∧ sv = .int .i64 (s : Int) ∧ iv = .int .i64 (k : Int) ∧ Hid ((M.take k).flatten.length = s) ∧ Hid (Ext w wr)) (fun _ iv _ => q - (intOf iv).toNat)
  case atStart => exact ⟨0, 0, Nat.zero_le _, rfl, rfl, hide rfl, hide (Ext.refl _)⟩
  case round =>
    obtain ⟨k, s, hk, rfl, rfl, HS, HX⟩ := hrel
    have hq10 := HQ10.out
    have hs1 : (s : Int) ≤ 1000000 := by have := HS.out; have := HT.out k; have := HM.out; omega
    have hs0 : (0 : Int) ≤ (s : Int) := by omega
    by_cases hlt : k < q
    · obtain ⟨m, hm⟩ : ∃ m, M[k]? = some m := ⟨_, List.getElem?_eq_getElem (by rw [HQ.out]; exact hlt)⟩
      obtain ⟨A, d, hcA, -⟩ := HV.out k m hm
      replace hcA := HX.out.keeps.cell hcA
      have HF := hide (flat_take_succ M k m hm)
      obtain ⟨p, HP⟩ : ∃ p, Hid (m.length = p) := ⟨_, hide rfl⟩
      have HS2 : Hid ((M.take (k + 1)).flatten.length = s + p) := hide (by rw [HF.out, List.length_append, HS.out, HP.out])
      have hp1 : (p : Int) ≤ 1000000 := by have := HS2.out; have := HT.out (k + 1); have := HM.out; omega
      have hp0 : (0 : Int) ≤ (p : Int) := by omega
      rw [HP.out] at hcA
      have hki : (k : Int) < (q : Int) := by omega
      have hk0 : (0 : Int) ≤ (k : Int) := by omega
      have hsp : ¬ ((s : Int) + (p : Int) < 0) := by omega
      clear hm
      go_wp2
      refine ⟨⟨k + 1, s + p, by omega, by go_num, by go_num, HS2, HX⟩, by simp [intOf]; omega⟩
    · have hki : ¬ (k : Int) < (q : Int) := by omega
      obtain rfl : k = q := by omega
      clear hlt hki hk
      have hki : ¬ (k : Int) < (k : Int) := Int.lt_irrefl _
      have KG := hide (fun (W : World) => grow_any s (by omega) W)
      go_upto_region 10 with (go_at_call 41; (with_reducible refine (KG.out _).mono ?_); rintro e w2 ⟨v2, rfl, hx2, ho2⟩; have X2 := hide (HX.out.trans hx2); have O2 := hide ho2; clear hx2 ho2)
      have O3 : Hid (OwnV w w.heap.size ((M.take 0).flatten) w2 v2) := hide (O2.out.rebase HX.out.size)
      clear KG O2 HS HX hs1 hs0
      go_wp2
      go_loopw [6, 27] (fun ov iv wr => ∃ j : Nat, j ≤ k ∧ iv = .int .i64 (j : Int) ∧ Hid (OwnV w w.heap.size (M.take j).flatten wr ov) ∧ Hid (Ext w wr)) (fun _ iv _ => k - (intOf iv).toNat)
      case atStart => exact ⟨0, Nat.zero_le _, rfl, O3, X2⟩
      case round =>
        obtain ⟨j, hjk, rfl, HO, HX⟩ := hrel
        clear O3 X2
        by_cases hlt : j < k
        · obtain ⟨m, hm⟩ : ∃ m, M[j]? = some m := ⟨_, List.getElem?_eq_getElem (by rw [HQ.out]; exact hlt)⟩
          obtain ⟨A, d, hcA, hrA⟩ := HV.out j m hm
          replace hcA := HX.out.keeps.cell hcA
          have HRA := hide hrA
          have HF := hide (flat_take_succ M j m hm)
          have HL2 : Hid ((M.take j).flatten.length + m.length ≤ 1000000) := hide (by have := congrArg List.length HF.out; rw [List.length_append] at this; have := HT.out (j + 1); have := HM.out; omega)
          obtain ⟨p, HP⟩ : ∃ p, Hid (m.length = p) := ⟨_, hide rfl⟩
          rw [HP.out] at hcA
          have hji : (j : Int) < (k : Int) := by omega
          have hj0 : (0 : Int) ≤ (j : Int) := by omega
          clear hm hrA
          go_wp2_with (at_builtin; refine wpList_catC rfl (.tmp 31) (.tmp 32) rfl _ _ m A p d rfl rfl HP.out.symm HO.out HRA.out HX.out HL2.out ?_; intro v6 w6 ho6 hx6; have O6 := hide ho6; have X6 := hide hx6; clear ho6 hx6)
          rw [← HF.out] at O6
          refine ⟨⟨j + 1, by omega, by go_num, O6, X6⟩, by simp [intOf]; omega⟩
        · have hji : ¬ (j : Int) < (k : Int) := by omega
          obtain rfl : j = k := by omega
          clear hlt hjk
          go_wp2
          go_ret
          refine Ret.mk HX.out ?_
          have := HO.out
          rw [List.take_of_length_le (by rw [HQ.out]; exact Nat.le_refl _)] at this
          exact this
end Go.Proofs.Ytmamhinpkioogaa
