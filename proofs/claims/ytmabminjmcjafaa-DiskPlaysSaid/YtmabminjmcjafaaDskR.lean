/-
  The disk's Read: contract.
-/
import Derived.Test.YtmabminjmcjafaaDskA
import Derived.Deep.WholeRow
namespace Go.Proofs.Ytmabminjmcjafaa
open Go.RowKit

/-- What a sector reads as. -/
def Dk.at (D : Dk) (i : Nat) : List UInt8 := if lastP D.pen i = 0 then D.dur.getD i [] else (D.pen.getD (lastP D.pen i - 1) (0, [])).2
/-- A new block that holds these bytes, and a number. -/
def RPost (w : World) (l : List UInt8) (e : Ending) (w' : World) : Prop := ∃ h, e = .returned (.tuple #[.slice (some ⟨h, 0, none⟩) 512 512, .int .i64 0]) ∧ Rw w' h 67 (bs l) ∧ w.heap.size ≤ h ∧ Ext w w'
theorem lastP_at : ∀ (n : Nat) (pen : List (Nat × List UInt8)) (i : Nat), pen.length = n → lastP pen i = 0 ∨ ∃ s, pen[lastP pen i - 1]? = some (i, s) ∧ lastP pen i ≤ pen.length ∧ 1 ≤ lastP pen i
  | 0, pen, i, h => by
    have : pen = [] := List.length_eq_zero_iff.1 h
    subst this
    exact .inl rfl
  | n + 1, pen, i, h => by
    rcases List.eq_nil_or_concat pen with rfl | ⟨p, x, rfl⟩
    · cases h
    · rw [List.concat_eq_append] at h ⊢
      simp only [List.length_append, List.length_cons, List.length_nil] at h
      rw [lastP_snoc]
      by_cases hx : x.1 = i
      · rw [if_pos hx]
        right
        obtain ⟨a, s⟩ := x
        simp only at hx
        subst hx
        exact ⟨s, by simp, by simp, by omega⟩
      · rw [if_neg hx]
        rcases lastP_at n p i (by omega) with h0 | ⟨s, h1, h2, h3⟩
        · exact .inl h0
        · exact .inr ⟨s, by rw [List.getElem?_append_left (by omega)]; exact h1, by simp; omega, h3⟩
theorem gives_alloc_z {P : Program} {o : Oper} {a : Act} {w : World} {R : Value → World → Prop} (ty : TypeId) (ho : o.op = .alloc ty) (cs : Array Value) (n : Nat) (hz : (P.info? ty).map (fun i => (i.zero, i.size)) = some (some (.agg cs), n))
    (hR : R (.pointer (some ⟨w.heap.size, 0, none⟩)) (w.alloc (.cells cs ty))) : gives P o a w R := by
  have hz2 := (zero_of_info hz).1 w
  have he : (execOp a.eval o).run P w = .ok (.value (.pointer (some ⟨w.heap.size, 0, none⟩))) (w.alloc (.cells cs ty)) := by simp [execOp, ho, hz2, newVar, newRow, newObj, Value.cells, go_sem]; rfl
  exact gives_of_run he hR
theorem zeroSec : (Try.prog.info? 67).map (fun i => (i.zero, i.size)) = some (some (.agg (bs (List.replicate 512 0)).toArray), 512) := by kernel_rfl
theorem sizeSec : (Try.prog.info? 67).map (·.size) = some 512 := by kernel_rfl
theorem run_all512 (g off : Nat) (w : World) : (Instr.sliceAt 67 (.pointer (some ⟨g, off, none⟩)) none none none).run Try.prog w = .ok (.slice (some ⟨g, off, none⟩) 512 512) w := by
  simp [go_sem, Try.underlying67]
theorem gives_cutall {P : Program} {o : Oper} {a : Act} {w : World} {R : Value → World → Prop} {x : Operand} {t : Nat} {u v : Value} (h : o.op = .slice t x none none none) (hx : a.eval x = u) (hrun : (Instr.sliceAt t u none none none).run P w = .ok v w) (hR : R v w) : gives P o a w R := by
  refine gives_of_run (w' := w) (v := v) ?_ hR
  unfold execOp
  simp only [h, Option.map_none, hx, Sem.run_bind, hrun, Result.andThen_ok, Sem.run_pure]
section
variable {B g gd gn c : Nat} {w : World} {A : Option Addr} {D : Dk}
set_option maxRecDepth 20000 in
set_option maxHeartbeats 1600000 in
theorem read_any (h : DiskAt B w g gd gn A c D) (ok : D.Ok) (hoff : D.off = false) (hf : D.pen.length < 1000000000) (k : Nat) (hk : k < D.dur.length) : Calls Try.prog 18 #[.pointer (some ⟨g, 0, none⟩), .int .i64 (k : Int)] w (RPost w (D.at k)) := by
  obtain ⟨c0, c1, c2, -, -, c5⟩ := disk_cells h
  rw [hoff] at c5
  have KH := has_any h (k : Int)
  rw [show (decide ((0 : Int) ≤ (k : Int)) && decide ((k : Int) < (D.dur.length : Int))) = true by simp; omega] at KH
  obtain ⟨n, HN⟩ : ∃ n, Hid (D.dur.length = n) := ⟨_, hide rfl⟩
  rw [HN.out] at c0 c2 hk
  have hki : (k : Int) < (n : Int) := by omega
  have hki0 : (0 : Int) ≤ (k : Int) := by omega
  have H := hide h
  have OK := hide ok
  clear h ok hoff
  obtain ⟨s, hs⟩ : ∃ s, D.dur[k]? = some s := ⟨_, List.getElem?_eq_getElem (by rw [HN.out]; exact hk)⟩
  have hsl : s.length = 512 := OK.out.dur s (List.mem_of_getElem? hs)
  have HC : Hid (∀ j v, (bs s)[j]? = some v → w.cell? ⟨gd, k * 512 + j, none⟩ = some v) := hide fun j v hj => by
    refine H.out.dur.cell ?_
    rw [bs_get] at hj ⊢
    rw [flat_get OK.out.dur hs (by
      rcases Nat.lt_or_ge j 512 with h | h
      · exact h
      · rw [List.getElem?_eq_none (by omega)] at hj; cases hj)]
    exact hj
  obtain ⟨q, HQ⟩ : ∃ q, Hid (lastP D.pen k = q) := ⟨_, hide rfl⟩
  have HCN : Hid (w.cell? ⟨gn, k, none⟩ = some (.int .i64 (q : Int))) := hide (H.out.new.cell (by rw [newL_get _ _ _ (by rw [HN.out]; exact hk), HQ.out]))
  have HSL := hide hsl
  have HS := hide hs
  clear hs hsl
  by_cases hq : q = 0
  · have HA : Hid (D.at k = s) := hide (by unfold Dk.at; rw [if_pos (by rw [HQ.out]; exact hq), List.getD_eq_getElem?_getD, HS.out]; rfl)
    rw [HA.out]
    have hqi : ¬ (0 : Int) < (q : Int) := by omega
    clear hq
    go_enter Try.func18, Try.ntmps18
    go_wp2_with (first
      | (go_at_call 28; refine KH.mono ?_; rintro e w1 ⟨rfl, rfl⟩)
      | ((with_reducible show wpList _ _ _ (⟨some 27, .load _ _, _, _, _, _⟩ :: _) _ _); refine wpList_gives (gives_load_at 67 (.tmp 26) rfl gd (k * 512) rfl (bs s) 512 (agg_arr Try.underlying67 _) sizeSec (by rw [bs_length, HSL.out]) HC.out ⟨rfl, rfl⟩) rfl ?_)
      | ((with_reducible show wpList _ _ _ (⟨some 6, .alloc _, _, _, _, _⟩ :: _) _ _); refine wpList_gives (gives_alloc_z 67 rfl _ 512 zeroSec ⟨rfl, rfl⟩) rfl ?_)
      | ((with_reducible show wpList _ _ _ (⟨none, .store _ (.tmp 6) (.tmp 27), _, _, _, _⟩ :: _) _ _);
         refine wpList_store_rw rfl 67 (.tmp 6) (.tmp 27) rfl _ rfl (bs s) rfl 67 (bs (List.replicate 512 0)) (heap_alloc_new w _) 512 sizeSec (by rw [bs_length, HSL.out]) (by rw [bs_length, bs_length, HSL.out]; simp) (List.all_eq_true.2 (bs_one _)) ?_;
         intro w3 hr3 hl3;
         have hx3 : Ext w w3 := (Ext.alloc w _).laid hl3 (Nat.le_refl _);
         have HR3 := hide hr3;
         have k2 := (Ext.keeps hx3).cell c2;
         have kn := (Ext.keeps hx3).cell HCN.out; clear hr3 hl3)
      | ((with_reducible show wpList _ _ _ (⟨some 46, _, _, _, _, _⟩ :: _) _ _); refine wpList_gives (gives_cutall rfl rfl (run_all512 _ _ _) ⟨rfl, rfl⟩) rfl ?_))
    go_ret2
    exact ⟨w.heap.size, rfl, HR3.out, Nat.le_refl _, hx3⟩
  · rcases lastP_at _ D.pen k rfl with h0 | ⟨d, hd, hle, hge⟩
    · rw [HQ.out] at h0; exact absurd h0 hq
    rw [HQ.out] at hd hle hge
    obtain ⟨p, rfl⟩ : ∃ p, q = p + 1 := ⟨q - 1, by omega⟩
    have hdl : d.length = 512 := (OK.out.pen (k, d) (List.mem_of_getElem? hd)).2
    have HA : Hid (D.at k = d) := hide (by unfold Dk.at; rw [if_neg (by rw [HQ.out]; exact hq), HQ.out, List.getD_eq_getElem?_getD, hd]; rfl)
    rw [HA.out]
    obtain ⟨m, HM⟩ : ∃ m, Hid (D.pen.length = m) := ⟨_, hide rfl⟩
    obtain ⟨pb, hpb⟩ : ∃ pb, A = some ⟨pb, 0, none⟩ := by
      rcases H.out.pen.2 with ⟨_, h0⟩ | ⟨g', _, _, hv, _⟩
      · omega
      · injection hv with hv; exact ⟨g', hv⟩
    subst hpb
    have HCP : Hid (∀ j v, (bs d)[j]? = some v → w.cell? ⟨pb, p * 513 + 1 + j, none⟩ = some v) := hide fun j v hj => by
      have h1 := H.out.pen.cells (g := pb) rfl (p * 513 + (1 + j)) v (by
        unfold pensC
        rw [flat_get (m := 513) (pensC_lens OK.out.pens) (i := p) (s := penC (k, d)) (by rw [List.getElem?_map]; simp only [Nat.add_sub_cancel] at hd; rw [hd]; rfl) (by
          have := (List.getElem?_eq_some_iff.1 hj).1
          rw [bs_length, hdl] at this
          omega)]
        unfold penC
        rw [Nat.add_comm 1 j]
        exact hj)
      rw [add_flat, Nat.zero_add, ← Nat.add_assoc] at h1
      exact h1
    rw [HM.out] at c1 hle
    have HCN2 : Hid (w.cell? ⟨gn, k, none⟩ = some (.int .i64 ((p : Int) + 1))) := hide HCN.out
    have hpm : (p : Int) < (m : Int) := by omega
    have hpq : (p : Int) < 1000000000 := by have := HM.out; omega
    have hp0 : (0 : Int) ≤ (p : Int) := by omega
    have hqi : (0 : Int) < (p : Int) + 1 := by omega
    have HDL := hide hdl
    have HP := hide hpm
    clear hq hd hle hge hdl HCN
    go_enter Try.func18, Try.ntmps18
    go_wp2_with (first
      | (go_at_call 28; refine KH.mono ?_; rintro e w1 ⟨rfl, rfl⟩)
      | ((with_reducible show wpList _ _ _ (⟨some 27, .load _ _, _, _, _, _⟩ :: _) _ _); refine wpList_gives (gives_load_at 67 (.tmp 26) rfl gd (k * 512) rfl (bs s) 512 (agg_arr Try.underlying67 _) sizeSec (by rw [bs_length, HSL.out]) HC.out ⟨rfl, rfl⟩) rfl ?_)
      | ((with_reducible show wpList _ _ _ (⟨some 6, .alloc _, _, _, _, _⟩ :: _) _ _); refine wpList_gives (gives_alloc_z 67 rfl _ 512 zeroSec ⟨rfl, rfl⟩) rfl ?_)
      | ((with_reducible show wpList _ _ _ (⟨none, .store _ (.tmp 6) (.tmp 27), _, _, _, _⟩ :: _) _ _);
         refine wpList_store_rw rfl 67 (.tmp 6) (.tmp 27) rfl _ rfl (bs s) rfl 67 (bs (List.replicate 512 0)) (heap_alloc_new w _) 512 sizeSec (by rw [bs_length, HSL.out]) (by rw [bs_length, bs_length, HSL.out]; simp) (List.all_eq_true.2 (bs_one _)) ?_;
         intro w3 hr3 hl3;
         have hx3 : Ext w w3 := (Ext.alloc w _).laid hl3 (Nat.le_refl _);
         have HR3 := hide hr3;
         have k2 := (Ext.keeps hx3).cell c2;
         have k1 := (Ext.keeps hx3).cell c1;
         have kn := (Ext.keeps hx3).cell HCN2.out; clear hr3 hl3)
      | ((with_reducible show wpList _ _ _ (⟨some 45, .load _ _, _, _, _, _⟩ :: _) _ _); refine wpList_gives (gives_load_at 67 (.tmp 44) rfl pb (p * 513 + 1) rfl (bs d) 512 (agg_arr Try.underlying67 _) sizeSec (by rw [bs_length, HDL.out]) (fun j v hj => (Ext.keeps hx3).cell (HCP.out j v hj)) ⟨rfl, rfl⟩) rfl ?_)
      | ((with_reducible show wpList _ _ _ (⟨none, .store _ (.tmp 6) (.tmp 45), _, _, _, _⟩ :: _) _ _);
         refine wpList_store_rw rfl 67 (.tmp 6) (.tmp 45) rfl _ rfl (bs d) rfl 67 (bs s) HR3.out 512 sizeSec (by rw [bs_length, HDL.out]) (by rw [bs_length, bs_length, HDL.out, HSL.out]) (List.all_eq_true.2 (bs_one _)) ?_;
         intro w4 hr4 hl4;
         have hx4 : Ext w w4 := hx3.laid hl4 (Nat.le_refl _);
         have HR4 := hide hr4; clear hr4 hl4)
      | ((with_reducible show wpList _ _ _ (⟨some 46, _, _, _, _, _⟩ :: _) _ _); refine wpList_gives (gives_cutall rfl rfl (run_all512 _ _ _) ⟨rfl, rfl⟩) rfl ?_))
    go_ret2
    exact ⟨w.heap.size, rfl, HR4.out, Nat.le_refl _, hx4⟩
theorem read_none (i : Int) : Calls Try.prog 18 #[.pointer none, .int .i64 i] w (Same w (.tuple #[.slice none 0 0, .int .i64 6])) := by
  go_enter Try.func18, Try.ntmps18
  go_wp2
  go_ret2
  exact ⟨rfl, rfl⟩
theorem read_arg (h : DiskAt B w g gd gn A c D) (i : Int) (hi : i < 0 ∨ (D.dur.length : Int) ≤ i) : Calls Try.prog 18 #[.pointer (some ⟨g, 0, none⟩), .int .i64 i] w (Same w (.tuple #[.slice none 0 0, .int .i64 1])) := by
  have KH := has_any h i
  rw [show (decide ((0 : Int) ≤ i) && decide (i < (D.dur.length : Int))) = false by simp; omega] at KH
  clear h hi
  go_enter Try.func18, Try.ntmps18
  go_wp2_with (go_at_call 28; refine KH.mono ?_; rintro e w1 ⟨rfl, rfl⟩)
  go_ret2
  exact ⟨rfl, rfl⟩
theorem read_off (h : DiskAt B w g gd gn A c D) (hoff : D.off = true) (i : Int) (h0 : 0 ≤ i) (hi : i < (D.dur.length : Int)) : Calls Try.prog 18 #[.pointer (some ⟨g, 0, none⟩), .int .i64 i] w (Same w (.tuple #[.slice none 0 0, .int .i64 8])) := by
  have KH := has_any h i
  rw [show (decide ((0 : Int) ≤ i) && decide (i < (D.dur.length : Int))) = true by simp; omega] at KH
  obtain ⟨-, -, -, -, -, c5⟩ := disk_cells h
  rw [hoff] at c5
  clear h hoff h0 hi
  go_enter Try.func18, Try.ntmps18
  go_wp2_with (go_at_call 28; refine KH.mono ?_; rintro e w1 ⟨rfl, rfl⟩)
  go_ret2
  exact ⟨rfl, rfl⟩
end
end Go.Proofs.Ytmabminjmcjafaa
