/-
  Lines: the document's own request of a line; when two requests are alike.
-/
import Derived.Test.YtmanflfanoddgaaDoorLinX
namespace Go.Proofs.YtmanflfanoddgaaDoor
open Go.RowKit

def wordsL : List Value := vtab.map fun x => .string ⟨x.2.1.toArray⟩
def argsL : List Value := vtab.map fun x => .int .i64 x.2.2
def verbR : Option (Int × List UInt8 × Int) → Value
  | some (n, _, a) => .tuple #[.int .u8 n, .int .i64 a]
  | none => .tuple #[.int .u8 0, .int .i64 0]
theorem vtab_num (k : Nat) (n : Int) (wd : List UInt8) (a : Int) (h : vtab[k]? = some (n, wd, a)) : n = (k : Int) + 1 ∧ k < 11 := by
  match k, h with
  | 0, h | 1, h | 2, h | 3, h | 4, h | 5, h | 6, h | 7, h | 8, h | 9, h | 10, h => injection h with h; injection h with h1 _; subst h1; exact ⟨rfl, by decide⟩
  | k + 11, h => simp [vtab] at h

set_option maxRecDepth 20000 in
set_option maxHeartbeats 4000000 in
theorem rverb_any (s : ByteArray) (w : World) : Calls Tryd.prog 71 #[.string s] w (Ret w (Is (verbR (verbS s.toList)))) := by
  obtain ⟨F, HF⟩ : ∃ F, Hid (verbR (verbS s.toList) = F) := ⟨_, rfl⟩
  rw [HF.out]
  go_enter Tryd.func71, Tryd.ntmps71
  go_wp2
  go_loopw [6] (fun i wr => ∃ k : Nat, k ≤ 11 ∧ i = .int .i64 k ∧ Hid (verbR ((vtab.drop k).find? (fun x => x.2.1 == s.toList)) = F) ∧ Rw wr w.heap.size 9 wordsL ∧ Rw wr (w.heap.size + 1) 3 argsL ∧ Ext w wr) (fun i _ => 11 - (intOf i).toNat)
  case atStart =>
    refine ⟨0, by omega, rfl, HF, (Rw.new w _ wordsL).alloc _, ?_, (Ext.alloc _ _).trans (Ext.alloc _ _)⟩
    have h := Rw.new (w.alloc (.cells wordsL.toArray 9)) 3 argsL
    rw [show (w.alloc (.cells wordsL.toArray 9)).heap.size = w.heap.size + 1 by simp] at h
    exact h
  case round =>
    obtain ⟨k, hk, rfl, HK, hrw, hrv, hx⟩ := hrel
    by_cases hlt : k < 11
    · have hki : (k : Int) < 11 := by omega
      obtain ⟨n, wd, a, hr⟩ : ∃ n wd a, vtab[k]? = some (n, wd, a) := ⟨_, _, _, List.getElem?_eq_getElem (show k < vtab.length from hlt)⟩
      have cw := hrw.cell (i := k) (v := .string ⟨wd.toArray⟩) (by simp [wordsL, hr])
      have ca := hrv.cell (i := k) (v := .int .i64 a) (by simp [argsL, hr])
      have HFD := hide (find_drop (fun x => x.2.1 == s.toList) k _ hr)
      have hnum := (vtab_num k n wd a hr).1
      have hwr : IntKind.u8.wrap ((k : Int) + 1) = n := by rw [IntKind.wrap_u8]; omega
      clear hr hnum
      cases hb : (wd == s.toList) with
      | true =>
        have HL : Hid (F = .tuple #[.int .u8 n, .int .i64 a]) := by
          rw [← HK.out, HFD.out]
          simp only [hb]
          exact hide rfl
        have HX := hide hx
        clear hrw hrv
        go_wp2
        go_quiet (fail)
        go_wp2
        go_ret2
        refine Ret.mk (Ext.drewN HX.out _) ?_
        rw [HL.out]
        rfl
      | false =>
        have HL : Hid (verbR ((vtab.drop (k + 1)).find? (fun x => x.2.1 == s.toList)) = F) := by
          rw [← HK.out, HFD.out]
          simp only [hb]
          exact hide rfl
        have H1 := hide hrw
        have H2 := hide hrv
        clear hrw hrv
        go_wp2
        exact ⟨⟨k + 1, by omega, by go_num, HL, H1.out, H2.out, hx⟩, by simp [intOf]; omega⟩
    · obtain rfl : k = 11 := by omega
      have HL : Hid (F = .tuple #[.int .u8 0, .int .i64 0]) := by
        rw [← HK.out]
        exact hide rfl
      clear hrw hrv
      go_wp2
      go_ret2
      refine Ret.mk hx ?_
      rw [HL.out]
      rfl
end Go.Proofs.YtmanflfanoddgaaDoor
