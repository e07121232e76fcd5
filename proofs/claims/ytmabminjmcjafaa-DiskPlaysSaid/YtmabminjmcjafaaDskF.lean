/-
  The statements' full: contract.
-/
import Derived.Test.YtmabminjmcjafaaDskN
namespace Go.Proofs.Ytmabminjmcjafaa
open Go.RowKit

/-- A sector's bytes, of a few. -/
def fullS (l : List UInt8) : List UInt8 := l.take 512 ++ List.replicate (512 - l.length) 0
theorem fullS_length (l : List UInt8) : (fullS l).length = 512 := by rw [fullS, List.length_append, List.length_take, List.length_replicate]; omega
def fullK (l : List UInt8) (k : Nat) : List UInt8 := l.take k ++ List.replicate (512 - k) 0
theorem fullK_zero (l : List UInt8) : fullK l 0 = List.replicate 512 0 := by unfold fullK; rw [List.take_zero, List.nil_append, Nat.sub_zero]
theorem fullK_end (l : List UInt8) (k : Nat) (h : k = 512 ∧ 512 ≤ l.length ∨ k = l.length ∧ k ≤ 512) : fullK l k = fullS l := by
  unfold fullK fullS
  rcases h with ⟨rfl, h⟩ | ⟨rfl, h⟩
  · rw [show 512 - l.length = 512 - 512 from by omega]
  · rw [List.take_of_length_le h, List.take_of_length_le (Nat.le_refl _)]
theorem fullK_succ (l : List UInt8) (k : Nat) (hk : k < 512) (u : UInt8) (hu : l[k]? = some u) : bs (fullK l (k + 1)) = (bs (fullK l k)).set k (.int .u8 (u.toNat : Int)) := by
  have hl := (List.getElem?_eq_some_iff.1 hu).1
  have hr : List.replicate (512 - k) (0 : UInt8) = 0 :: List.replicate (512 - (k + 1)) 0 := by
    rw [show 512 - k = (512 - (k + 1)) + 1 from by omega, List.replicate_succ]
  unfold fullK
  rw [List.take_add_one, hu, Option.toList_some, hr]
  unfold bs
  rw [List.map_append, List.map_append, List.map_append, List.set_append_right _ _ (by simp; omega)]
  simp [Nat.min_eq_left (show k ≤ l.length by omega)]
theorem fullK_get (l : List UInt8) (k : Nat) (hk : k < 512) (hl : k ≤ l.length) : ∃ z : Int, (bs (fullK l k))[k]? = some (.int .u8 z) := by
  have h : k < (fullK l k).length := by simp [fullK]; omega
  rw [bs_get, List.getElem?_eq_getElem h]
  exact ⟨_, rfl⟩
theorem make_512 (W : World) : (Instr.makeSlice 32 (.int .i64 512) (.int .i64 512)).run Try.prog W = .ok (.slice (some ⟨W.heap.size, 0, none⟩) 512 512) (W.alloc (.cells (bs (List.replicate 512 0)).toArray 5)) := by
  obtain ⟨i0, hi, hz0, hz1, hz2⟩ := info_parts info_u8
  have h := run_make (P := Try.prog) W 32 5 i0 (.int .u8 0) Try.underlying32 hi hz0 .i64 .i64 512 512 (by omega) (by omega) (by rw [hz2]; omega) (by omega)
  rw [hz1] at h
  have e : madeCells (Value.int .u8 0).cells ((512 : Int).toNat * 1) = (bs (List.replicate 512 0)).toArray := by
    show madeCells [Value.int .u8 0].toArray _ = _
    rw [made_same [.int .u8 0] (.int .u8 0) (fun u hu => List.mem_singleton.1 hu) (by simp)]
    unfold bs
    rw [List.map_replicate]
    rfl
  rw [e] at h
  exact h
def FPost (w : World) (l : List UInt8) (e : Ending) (w' : World) : Prop := ∃ h, e = .returned (.slice (some ⟨h, 0, none⟩) 512 512) ∧ Rw w' h 5 (bs l) ∧ w.heap.size ≤ h ∧ Ext w w'
set_option maxRecDepth 20000 in
set_option maxHeartbeats 1600000 in
theorem full_raw (P : Option Addr) (c : Nat) (l : List UInt8) (w : World) (hr : Rd w P l) : Calls Try.prog 20 #[.slice P l.length c] w (FPost w (fullS l)) := by
  obtain ⟨n, HL⟩ : ∃ n, Hid (l.length = n) := ⟨_, hide rfl⟩
  have HR := hide hr
  have HM := hide (make_512 w)
  rw [HL.out]
  have hmk := HM.out
  clear hr
  obtain ⟨w1, hw1⟩ : ∃ w1, w1 = w.alloc (.cells (bs (List.replicate 512 0)).toArray 5) := ⟨_, rfl⟩
  obtain ⟨g, hg⟩ : ∃ g, g = w.heap.size := ⟨_, rfl⟩
  rw [← hw1, ← hg] at hmk
  have HX1 : Hid (Ext w w1) := hide (by rw [hw1]; exact Ext.alloc _ _)
  have HR1 : Hid (Rw w1 g 5 (bs (fullK l 0))) := hide (by rw [hw1, hg, fullK_zero]; exact Rw.new _ _ _)
  have HG : Hid (g = w.heap.size) := hide hg
  clear hw1 hg HM
  go_enter Try.func20, Try.ntmps20
  go_wp2
  clear hmk
  go_loopw [4] (fun i wr => ∃ k : Nat, k ≤ n ∧ k ≤ 512 ∧ i = .int .i64 (k : Int) ∧ Hid (Rw wr g 5 (bs (fullK l k))) ∧ Hid (Ext w wr)) (fun i _ => n - (intOf i).toNat)
  case atStart => exact ⟨0, Nat.zero_le _, Nat.zero_le _, rfl, HR1, HX1⟩
  case round =>
    obtain ⟨k, hk, hk5, rfl, HW, HX⟩ := hrel
    clear HR1 HX1
    by_cases hlt : k < n
    · by_cases h5 : k < 512
      · obtain ⟨b, off, u, rfl, hu, hcu⟩ := (HR.out.ext HX.out).at (k := k) (by rw [HL.out]; exact hlt)
        have hu2 := u.toNat_lt
        obtain ⟨z, hz⟩ := fullK_get l k h5 (by rw [HL.out]; exact hk)
        have cz := HW.out.cell hz
        have fz := HW.out.frozen k
        have HU := hide hu
        have H5 := hide h5
        clear hz hu
        have hki : (k : Int) < (n : Int) := by omega
        have hki5 : (k : Int) < 512 := by omega
        have hk0 : (0 : Int) ≤ (k : Int) := by omega
        go_wp2
        refine ⟨⟨k + 1, by omega, by omega, by go_num, hide ?_, hide ?_⟩, by simp [intOf]; omega⟩
        · rw [fullK_succ l k H5.out u HU.out]
          exact HW.out.set k _
        · exact Below.setCell (p := ⟨g, k, none⟩) HX.out (by rw [HG.out]; exact Nat.le_refl _) _
      · have hki5 : ¬ (k : Int) < 512 := by omega
        have hki : (k : Int) < (n : Int) := by omega
        go_wp2
        go_ret
        refine ⟨g, rfl, ?_, by rw [HG.out]; exact Nat.le_refl _, HX.out⟩
        rw [← fullK_end l k (.inl ⟨by omega, by rw [HL.out]; omega⟩)]
        exact HW.out
    · have hki : ¬ (k : Int) < (n : Int) := by omega
      go_wp2
      go_ret
      refine ⟨g, rfl, ?_, by rw [HG.out]; exact Nat.le_refl _, HX.out⟩
      rw [← fullK_end l k (.inr ⟨by rw [HL.out]; omega, hk5⟩)]
      exact HW.out
theorem full_any (P : Option Addr) (c : Nat) (l : List UInt8) (w : World) (hr : Rd w P l) (_ : l.length < 4294967296) : Calls Try.prog 20 #[.slice P l.length c] w (FPost w (fullS l)) := full_raw P c l w hr
end Go.Proofs.Ytmabminjmcjafaa
