/-
  The disk's Restart: contract.
-/
import Derived.Test.YtmabminjmcjafaaDskT
namespace Go.Proofs.Ytmabminjmcjafaa
open Go.RowKit

/-- Choices in memory. -/
def RdB (w : World) (P : Option Addr) (l : List Bool) : Prop := l ≠ [] → ∃ b off, P = some ⟨b, off, none⟩ ∧ ∀ j v, l[j]? = some v → w.cell? ⟨b, off + j, none⟩ = some (.bool v)
set_option maxHeartbeats 800000 in
theorem keep_any (gk k ck : Nat) (P : Option Addr) (keep : List Bool) (W : World) (hc : W.cell? ⟨gk, 0, none⟩ = some (.slice P keep.length ck)) (hr : RdB W P keep) :
    Calls Try.prog 27 #[.int .i64 (k : Int), .pointer (some ⟨gk, 0, none⟩)] W (Same W (.bool (keep.getD k false))) := by
  obtain ⟨m, HM⟩ : ∃ m, Hid (keep.length = m) := ⟨_, hide rfl⟩
  rw [HM.out] at hc
  by_cases hlt : k < m
  · obtain ⟨v, hv⟩ : ∃ v, keep[k]? = some v := ⟨_, List.getElem?_eq_getElem (by rw [HM.out]; exact hlt)⟩
    obtain ⟨b, off, rfl, hq⟩ := hr (by intro e; rw [e] at hv; cases hv)
    have hck := hq k v hv
    rw [List.getD_eq_getElem?_getD, hv, Option.getD_some]
    have hki : (k : Int) < (m : Int) := by omega
    have hk0 : (0 : Int) ≤ (k : Int) := by omega
    clear hq hr hv HM hlt
    go_enter Try.func27, Try.ntmps27
    go_wp2
    go_ret
    exact ⟨rfl, rfl⟩
  · rw [List.getD_eq_getElem?_getD, List.getElem?_eq_none (by rw [HM.out]; omega), Option.getD_none]
    have hki : ¬ (k : Int) < (m : Int) := by omega
    clear hr HM hlt
    go_enter Try.func27, Try.ntmps27
    go_wp2
    go_ret
    exact ⟨rfl, rfl⟩
/-- What is left behind a fall. -/
def Dk.fallen (D : Dk) (keep : List Bool) : Dk := { D with dur := durK (fun k => keep.getD k false) D.dur D.pen D.pen.length, pen := [], arm := 0, off := false }
set_option maxRecDepth 20000 in
set_option maxHeartbeats 1600000 in
theorem restart_any {B g gd gn c ck : Nat} {w : World} {A P : Option Addr} {D : Dk} (h : DiskAt B w g gd gn A c D) (ok : D.Ok) (hf : D.pen.length < 1000000) (hB : B ≤ w.heap.size) (keep : List Bool) (hk : ∀ W, Dfr g gd gn A w W → RdB W P keep) :
    Calls Try.prog 16 #[.pointer (some ⟨g, 0, none⟩), .slice P keep.length ck] w (DPost B g gd gn w A (.int .i64 0) (D.fallen keep)) := by
  have lg := h.blk.lt
  have ld := h.dur.lt
  have ln := h.new.lt
  have lA : ∀ a, A = some a → a.block < w.heap.size := fun a ha => by
    rcases h.pen.2 with ⟨hv, _⟩ | ⟨g', _, _, hv, _, hg', _⟩
    · injection hv with hv; rw [ha] at hv; cases hv
    · injection hv with hv; rw [ha] at hv; injection hv with hv; subst hv; exact (Array.getElem?_eq_some_iff.1 hg').1
  obtain ⟨w1, hw1⟩ : ∃ w1, w1 = w.alloc (.cells #[.slice P keep.length ck] 33) := ⟨_, rfl⟩
  have hx1 : Ext w w1 := by rw [hw1]; exact Ext.alloc _ _
  have hr1 : Rw w1 w.heap.size 33 [.slice P keep.length ck] := by rw [hw1]; exact Rw.new _ _ _
  have KS := hide (settleR_any (gk := w.heap.size) (fun k => keep.getD k false) (h.ext hx1) ok hf (Nat.le_trans hB hx1.size) (fun k W hkl hW => by
    have hr2 : Rw W w.heap.size 33 [.slice P keep.length ck] := (hW.other _ hr1.lt (by omega) (by omega) (by omega) (fun a ha e => by have := lA a ha; omega)).trans hr1
    exact keep_any w.heap.size k ck P keep W (hr2.cell rfl) (hk W ((Dfr.ext hx1).trans (A' := A) hW (Newer.refl _ _)))))
  have HX1 := hide hx1
  obtain ⟨m, HM⟩ : ∃ m, Hid (keep.length = m) := ⟨_, hide rfl⟩
  rw [HM.out] at hw1 ⊢
  have HW1 := hide hw1
  clear h ok hf hB hk lg ld ln lA hx1 hr1 hw1
  go_enter Try.func16, Try.ntmps16
  go_upto_region 4 with (go_at_call 26; (try rw [← HW1.out]); refine KS.out.mono ?_; rintro e w2 ⟨A2, c2, rfl, hd2, hf2, hn2⟩)
  have H2 := hide hd2
  have HF2 := hide hf2
  have HN2 := hide hn2
  have c4 := hd2.blk.cell (i := 4) rfl
  have f4 := hd2.blk.frozen 4
  have c5 := hd2.blk.cell (i := 5) rfl
  have f5 := hd2.blk.frozen 5
  clear hd2 hf2 hn2 KS
  go_wp2
  go_ret
  refine ⟨A2, c2, rfl, ?_, ?_, ?_⟩
  · refine DiskAt.put (D := { D.settled (fun k => keep.getD k false) with arm := 0 }) (DiskAt.put H2.out 4 (.int .i64 0) _ rfl rfl rfl) 5 (.bool false) _ rfl rfl rfl
  · exact (Dfr.ext HX1.out).trans (A' := A) (HF2.out.trans (A' := A2) ((Dfr.cell 4 _).trans (A' := A2) (Dfr.cell 5 _) (Newer.refl _ _)) HN2.out) (Newer.refl _ _)
  · intro a' ha'
    rcases HN2.out a' ha' with h | h
    · exact .inl h
    · exact .inr (Nat.le_trans HX1.out.size h)
end Go.Proofs.Ytmabminjmcjafaa
