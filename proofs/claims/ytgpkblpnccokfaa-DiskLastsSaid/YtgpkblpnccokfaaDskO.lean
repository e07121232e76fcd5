/-
  DiskOrder: the plain part, and choices among a law's arguments.
-/
import Derived.Test.YtgpkblpnccokfaaDskQ
import Derived.Test.YtgpkblpnccokfaaDskC
namespace Go.Proofs.Ytgpkblpnccokfaa
open Go.ChangeShapes Go.WideShapes Go.ChangeAt Go.RowKit

/-- The first byte of the first sector. -/
def w0 (L : List (List UInt8)) : UInt8 := (L.getD 0 []).getD 0 0
theorem w0_set (L : List (List UInt8)) (h : 1 ≤ L.length) (b : UInt8) : w0 (L.set 0 (fullS [b])) = b := by
  cases L with
  | nil => simp at h
  | cons x L => rfl
theorem w0_at (D : Dk) (hp : D.pen = []) : (D.at 0).getD 0 0 = w0 D.dur := by
  unfold Dk.at
  rw [hp, if_pos (lastP_nil 0)]
  rfl
theorem w0_step (kept : Nat → Bool) (dur : List (List UInt8)) (pen : List (Nat × List UInt8)) (k : Nat) (b : UInt8) (hd : 1 ≤ dur.length) (h : pen[k]? = some (0, fullS [b])) :
    w0 (durK kept dur pen (k + 1)) = if kept k then b else w0 (durK kept dur pen k) := by
  rw [durK_succ _ _ _ _ _ h]
  split
  · exact w0_set _ (by rw [durK_len]; exact hd) b
  · rfl
/-- The writes of the rounds from one to another. -/
def ordPen (s : Nat) (k : Nat) : List (Nat × List UInt8) := (List.range (k - s)).map fun j => (0, fullS [UInt8.ofNat (s + j + 1)])
theorem ordPen_length (s k : Nat) : (ordPen s k).length = k - s := by simp [ordPen]
theorem ordPen_self (s : Nat) : ordPen s s = [] := by simp [ordPen]
theorem ordPen_succ (s k : Nat) (h : s ≤ k) : ordPen s (k + 1) = ordPen s k ++ [(0, fullS [UInt8.ofNat (k + 1)])] := by
  unfold ordPen
  rw [show k + 1 - s = (k - s) + 1 by omega, List.range_succ, List.map_append]
  simp only [List.map_cons, List.map_nil]
  rw [show s + (k - s) + 1 = k + 1 by omega]
theorem ordPen_get (s k j : Nat) (h : j < k - s) : (ordPen s k)[j]? = some (0, fullS [UInt8.ofNat (s + j + 1)]) := by
  unfold ordPen
  rw [List.getElem?_map, List.getElem?_range h]
  rfl
theorem ordPen_mem {s k : Nat} {x : Nat × List UInt8} (h : x ∈ ordPen s k) : x.1 = 0 ∧ x.2.length = 512 := by
  obtain ⟨j, _, rfl⟩ := List.mem_map.1 h
  exact ⟨rfl, fullS_length _⟩
theorem w0_synced (dur : List (List UInt8)) (s k : Nat) (h : s ≤ k) (hd : 1 ≤ dur.length) : w0 (durK (fun _ => true) dur (ordPen s (k + 1)) (ordPen s (k + 1)).length) = UInt8.ofNat (k + 1) := by
  have hg := ordPen_get s (k + 1) (k - s) (by omega)
  rw [show s + (k - s) + 1 = k + 1 by omega] at hg
  have h2 := w0_step (fun _ => true) dur (ordPen s (k + 1)) (k - s) _ hd hg
  rw [ordPen_length, show k + 1 - s = (k - s) + 1 by omega, h2]
  rfl
end Go.Proofs.Ytgpkblpnccokfaa
