/-
  A salt with its number behind it; a password's digest by many rounds: Stretch's contract.
-/
import Derived.Test.YtmanflfanoddgaaDoorShaO
import Derived.Test.YtmanflfanoddgaaDoorGrowE
import Derived.Deep.RegionHeld3
import Derived.BigRegion
namespace Go.Proofs.YtmanflfanoddgaaDoor
open Go.RowKit

def numberedL (salt : List UInt8) : List UInt8 := salt ++ [0, 0, 0, 1]
theorem over_front (n : Nat) (l : List UInt8) (h : l.length ≤ n) : over (List.replicate n 0) 0 (l.take n) = l ++ List.replicate (n - l.length) 0 := by
  unfold over
  rw [List.take_of_length_le h]
  simp
theorem set_last (l : List UInt8) : (l ++ List.replicate 4 0).set (l.length + 3) 1 = numberedL l := by
  rw [List.set_append_right _ _ (by omega)]
  simp [numberedL]

set_option maxRecDepth 20000 in
set_option maxHeartbeats 1600000 in
theorem numbered_any (A : Option Addr) (c : Nat) (l : List UInt8) (w : World) (hr : Rd w A l) (hl : l.length ≤ 140737488355320) :
    Calls Tryd.prog 50 #[.slice A l.length c] w (Ret w (Bytes (numberedL l))) := by
  obtain ⟨n, HN⟩ : ∃ n, Hid (l.length = n) := ⟨_, rfl⟩
  rw [HN.out] at hl ⊢
  have hmk := fun W => run_make_bytes (n + 4) (by omega) W
  rw [show ((n + 4 : Nat) : Int) = (n : Int) + 4 from by omega] at hmk
  go_enter Tryd.func50, Tryd.ntmps50
  have hyl : n + 3 < (l ++ List.replicate 4 (0 : UInt8)).length := by rw [List.length_append, List.length_replicate, HN.out]; omega
  have HYL := hide hyl
  have HLE : Hid (l.length ≤ n + 4) := by show l.length ≤ n + 4; rw [HN.out]; omega
  have HDR : Hid (List.replicate (n + 4 - l.length) (0 : UInt8) = List.replicate 4 0) := by rw [HN.out, Nat.add_sub_cancel_left]; rfl
  have hlt3 : (n : Int) + 3 < (n : Int) + 4 := by omega
  clear hyl
  go_wp2_with (refine wpList_copy rfl (.tmp 8) (.tmp 9) rfl w.heap.size 0 (n + 4) (n + 4) A n c rfl rfl (List.replicate (n + 4) 0) l HN.out.symm (Blk.made w (n + 4)) (hr.ext (Ext.alloc w _)) (by rw [List.length_replicate]; omega) w.heap.size (Nat.le_refl _) ?_; intro w1 hg1 hb1; rw [over_front _ _ HLE.out, HDR.out] at hg1; have hcx := hg1.cell (List.getElem?_eq_getElem HYL.out); have hfx := hg1.frozen (n + 3); have HG := hide hg1; clear hg1)
  have HB : Hid (Blk (w1.setCell ⟨w.heap.size, n + 3, none⟩ (.int .u8 1)) w.heap.size (numberedL l)) := by
    have := HG.out.set (n + 3) 1 (by decide) (by decide)
    rw [show b8 1 = (1 : UInt8) from rfl, ← HN.out, set_last, HN.out] at this
    exact this
  have hx1 : Ext w w1 := Below.trans (Ext.alloc w _) hb1
  go_ret
  exact Ret.mk (Below.set hx1 (Nat.le_refl _) _) (HB.out.bytes (by simp [numberedL, HN.out]) (Nat.le_refl _))

def xorL (a b : List UInt8) : List UInt8 := List.zipWith (· ^^^ ·) a b
/-- The last tag, and what all of them give, behind so many rounds more than one. -/
def stretchS (pass salt : List UInt8) : Nat → List UInt8 × List UInt8
  | 0 => (tagK pass (numberedL salt), tagK pass (numberedL salt))
  | n + 1 => (tagK pass (stretchS pass salt n).1, xorL (stretchS pass salt n).2 (tagK pass (stretchS pass salt n).1))
theorem tagK_length (a b : List UInt8) : (tagK a b).length = 32 := rfl
theorem stretchS_length (pass salt : List UInt8) (n : Nat) : (stretchS pass salt n).1.length = 32 ∧ (stretchS pass salt n).2.length = 32 := by
  induction n with
  | zero => exact ⟨rfl, rfl⟩
  | succ n ih => exact ⟨rfl, by show (List.zipWith _ _ _).length = _; rw [List.length_zipWith, ih.2, tagK_length]; rfl⟩
/-- Two results, the first out of its cell. -/
theorem ret_rw2 {P : Program} {fn : Func} {p q : Tmp} {ty : TypeId} {S : Ending → World → Prop} {a : Act} {w : World} (hf : fn.results = #[.cell p ty, .tmp q]) (hd : a.defers = []) (g : Nat) (hp : a.tmps.getD p undef = .pointer (some ⟨g, 0, none⟩)) (t : TypeId) (vs : List Value) (hr : Rw w g t vs)
    (n : Nat) (e : TypeId) (hu : P.underlying ty = some (.array n e)) (hi : (P.info? ty).map (·.size) = some n) (hn : n = vs.length) (v2 : Value) (hq : a.tmps.getD q undef = v2) (h : S (.returned (.tuple #[.agg vs.toArray, v2])) w) : bodyPost P fn S .ret a w := by
  have hrun : (results fn a.tmps).run P w = .ok (.tuple #[.agg vs.toArray, v2]) w := by
    have hp' : a.tmps[p]?.getD undef = .pointer (some ⟨g, 0, none⟩) := by simpa using hp
    have hq' : a.tmps[q]?.getD undef = v2 := by simpa using hq
    simp [results, hf, hp', hq', asAddr, run_loadVar_row w g t ty vs.toArray (0, 0) _ hr hu rfl (by rw [hi, hn]; simp)]
  exact bodyPost_ret hrun hd h
theorem zeros_agg : Tryd.prog.built 24 [] = some (bs (List.replicate 32 0)).toArray := by kernel_rfl

set_option maxRecDepth 20000 in
set_option maxHeartbeats 1600000 in
theorem stretch_bad (A B : Option Addr) (c d m n : Nat) (r : Int) (w : World) (h : r < 1 ∨ 64 < r) :
    Calls Tryd.prog 19 #[.slice A m c, .slice B n d, .int .i64 r] w (Ret w (Is (.tuple #[.agg (bs (List.replicate 32 0)).toArray, .int .i64 1]))) := by
  have hb := fun W => run_build (P := Tryd.prog) W 24 #[] _ zeros_agg
  by_cases h1 : r < 1
  · clear h
    go_enter Tryd.func19, Tryd.ntmps19
    go_wp2_with (first
      | ((with_reducible show wpList _ _ _ (⟨none, .store _ (.tmp 6) _, _, _, _, _⟩ :: _) _ _);
         refine wpList_store_rw rfl 24 (.tmp 6) (.tmp 18) rfl _ rfl (bs (List.replicate 32 0)) rfl 24 (bs (List.replicate 32 0)) (heap_alloc_new w _) 32 (by kernel_rfl) rfl rfl (List.all_eq_true.2 (bs_one _)) ?_;
         intro w5 hr5 hl5))
    exact ret_rw2 rfl rfl _ rfl _ _ hr5 32 5 Tryd.underlying24 (by kernel_rfl) rfl _ rfl (Ret.mk ((Ext.alloc w _).laid hl5 (Nat.le_refl _)) rfl)
  · have h2 : 64 < r := by omega
    clear h
    go_enter Tryd.func19, Tryd.ntmps19
    go_wp2_with (first
      | ((with_reducible show wpList _ _ _ (⟨none, .store _ (.tmp 6) _, _, _, _, _⟩ :: _) _ _);
         refine wpList_store_rw rfl 24 (.tmp 6) (.tmp 18) rfl _ rfl (bs (List.replicate 32 0)) rfl 24 (bs (List.replicate 32 0)) (heap_alloc_new w _) 32 (by kernel_rfl) rfl rfl (List.all_eq_true.2 (bs_one _)) ?_;
         intro w5 hr5 hl5))
    exact ret_rw2 rfl rfl _ rfl _ _ hr5 32 5 Tryd.underlying24 (by kernel_rfl) rfl _ rfl (Ret.mk ((Ext.alloc w _).laid hl5 (Nat.le_refl _)) rfl)
end Go.Proofs.YtmanflfanoddgaaDoor
