/-
  Names: Fold's contract.
-/
import Derived.Test.YtmoknfcocohiiaaDoorNamK
import Derived.Laws.RangeAny
namespace Go.Proofs.YtmoknfcocohiiaaDoor
open Go.RowKit

def foldV (x : List UInt8 × Nat × Nat) : Value := .tuple #[.string ⟨x.1.toArray⟩, .int .i64 (x.2.1 : Int), .int .i64 (x.2.2 : Int)]
theorem drop_ne (s : ByteArray) (pos : Nat) (h : pos < s.size) : s.data.toList.drop pos ≠ [] := by
  intro e
  have := congrArg List.length e
  rw [List.length_drop, size_len, List.length_nil] at this
  omega
theorem chs_at (s : ByteArray) (pos r n : Nat) (h : pos < s.size) (hd : Utf8.decode s pos = (r, n)) : chs (s.data.toList.drop pos) pos = ⟨r, pos, n⟩ :: chs (s.data.toList.drop (pos + n)) (pos + n) := by
  rw [chs_step _ _ (drop_ne s pos h), Lib.decodeL_drop, hd, List.drop_drop]
theorem width_at (s : ByteArray) (pos r n : Nat) (h : pos < s.size) (hd : Utf8.decode s pos = (r, n)) : 1 ≤ n ∧ pos + n ≤ s.size := by
  have h1 := Lib.decodeL_width (s.data.toList.drop pos)
  have h2 := Lib.decodeL_le _ (drop_ne s pos h)
  rw [Lib.decodeL_drop, hd] at h1 h2
  rw [List.length_drop, size_len] at h2
  simp only at h1 h2
  omega
theorem rune_at (s : ByteArray) (pos r n : Nat) (hd : Utf8.decode s pos = (r, n)) : r ≤ 1114111 := by
  have := Lib.decodeL_rune (s.data.toList.drop pos)
  rwa [Lib.decodeL_drop, hd] at this
theorem foldS_some {l : List UInt8} {p e : Nat} (h : fault (chs l 0) 0 = some (p, e)) : foldS l = ([], p, e) := by unfold foldS; rw [h]

theorem fault_bad {c : Chr} {t : List Chr} {k : Nat} (h : okAt k c.r = false) : fault (c :: t) k = some (c.p, 4) := by unfold fault; rw [if_pos h]
theorem fault_long {c : Chr} {t : List Chr} {k : Nat} (h : okAt k c.r = true) (hk : k = 16) : fault (c :: t) k = some (c.p, 2) := by unfold fault; rw [if_neg (by simp [h]), if_pos hk]
theorem fault_on {c : Chr} {t : List Chr} {k : Nat} (h : okAt k c.r = true) (hk : k ≠ 16) : fault (c :: t) k = fault t (k + 1) := by
  show (if okAt k c.r = false then _ else _) = _
  rw [if_neg (by simp [h]), if_neg hk]
theorem ret_fold {l : List UInt8} {F : Value} {p e : Nat} (hF : foldV (foldS l) = F) (h : fault (chs l 0) 0 = some (p, e)) : F = .tuple #[.string ⟨#[]⟩, .int .i64 (p : Int), .int .i64 (e : Int)] := by
  rw [← hF, foldS_some h]
  rfl
theorem i64_ne {a : Nat} {b : Int} (h : (a : Int) ≠ b) : ((a : Int) == b) = false := by simpa using h

set_option maxRecDepth 20000 in
set_option maxHeartbeats 2000000 in
theorem fold_any (s : ByteArray) (w : World) (hs : s.size ≤ 140737488355328) :
    Calls Tryd.prog 10 #[.string s] w (Ret w (Is (foldV (foldS s.data.toList)))) := by
  obtain ⟨F, HF⟩ : ∃ F, Hid (foldV (foldS s.data.toList) = F) := ⟨_, rfl⟩
  obtain ⟨n, HN⟩ : ∃ n, Hid (s.size = n) := ⟨_, rfl⟩
  have hn := hs
  rw [HN.out] at hn
  rw [HF.out]
  have KL := hide fun W => lowered_any s W hs
  clear hs
  go_enter Tryd.func10, Tryd.ntmps10
  go_wp2
  go_loopw [5] (fun c w' => ∃ pos k : Nat, w' = w.iter s pos ∧ c = .int .i64 k ∧ k ≤ 16 ∧ pos ≤ n ∧ Hid (k = 0 ↔ pos = 0) ∧ Hid (fault (chs (s.data.toList.drop pos) pos) k = fault (chs s.data.toList 0) 0)) (fun _ w' => n - w'.iterPos w.heap.size)
  case atStart => exact ⟨0, 0, rfl, rfl, by omega, Nat.zero_le _, hide Iff.rfl, hide rfl⟩
  case round =>
    obtain ⟨pos, k, rfl, rfl, hk, hpn, HZ, HT⟩ := hrel
    by_cases hp : pos < n
    · have hps : pos < s.size := by rw [HN.out]; exact hp
      obtain ⟨r, m, hd⟩ : ∃ r m, Utf8.decode s pos = (r, m) := ⟨_, _, rfl⟩
      have hw := width_at s pos r m hps hd
      rw [HN.out] at hw
      have hr := rune_at s pos r m hd
      have HC := hide (chs_at s pos r m hps hd)
      have hnx : ∀ ty, (Instr.next (.pointer (some ⟨w.heap.size, 0, none⟩)) true ty).run Tryd.prog (w.iter s pos) = .ok (.tuple #[.bool true, .int .i64 (pos : Int), .int .i32 (r : Int)]) (w.iter s (pos + m)) := fun ty => by
        have := run_next_any (P := Tryd.prog) w s pos ty hps
        rwa [hd] at this
      have KO := hide fun W => ofName_any r W
      clear hps hd hr
      by_cases ho : okAt k r = true
      · have hno : ¬ (k = 0 ∧ (r = 46 ∨ r = 45)) := by
          unfold okAt at ho
          simp at ho
          omega
        have hname := okAt_name ho
        rw [hname] at KO
        have HO := hide ho
        by_cases hp0 : pos = 0
        · obtain rfl := hp0
          have hk0 : k = 0 := HZ.out.2 rfl
          subst hk0
          have h46 : ((r : Int) == 46) = false := i64_ne (by omega)
          have h45 : ((r : Int) == 45) = false := i64_ne (by omega)
          clear hno hname ho
          go_wp2_with (go_at_call 16; refine (KO.out _).mono ?_; rintro e w1 ⟨rfl, rfl⟩)
          refine ⟨⟨m, 1, rfl, rfl, by omega, by omega, hide (by omega), hide ?_⟩, by simp; omega⟩
          rw [← HT.out, HC.out, fault_on HO.out (by omega), Nat.zero_add, Nat.zero_add]
        · have hk0 : k ≠ 0 := fun h => hp0 (HZ.out.1 h)
          have hpz : ((pos : Int) == 0) = false := i64_ne (by omega)
          have HP0 := hide hp0
          clear hno hname ho hp0
          by_cases hk16 : k = 16
          · have HL : Hid (F = .tuple #[.string ⟨#[]⟩, .int .i64 (pos : Int), .int .i64 2]) := ret_fold HF.out (by rw [← HT.out, HC.out, fault_long HO.out hk16])
            subst hk16
            go_wp2_with (go_at_call 16; refine (KO.out _).mono ?_; rintro e w1 ⟨rfl, rfl⟩)
            go_ret3
            exact Ret.mk (Ext.alloc _ _) HL.out.symm
          · have hkz : ((k : Int) == 16) = false := i64_ne (by omega)
            have HK16 := hide hk16
            clear hk16
            go_wp2_with (go_at_call 16; refine (KO.out _).mono ?_; rintro e w1 ⟨rfl, rfl⟩)
            have hk16 := HK16.out
            refine ⟨⟨pos + m, k + 1, rfl, by go_num, by omega, by omega, hide (by omega), hide ?_⟩, by simp; omega⟩
            rw [← HT.out, HC.out, fault_on HO.out hk16]
      · have ho' : okAt k r = false := by simpa using ho
        have HL : Hid (F = .tuple #[.string ⟨#[]⟩, .int .i64 (pos : Int), .int .i64 4]) := ret_fold HF.out (by rw [← HT.out, HC.out, fault_bad ho'])
        cases hname : nameOk r with
        | false =>
          rw [hname] at KO
          clear ho ho' hname
          go_wp2_with (go_at_call 16; refine (KO.out _).mono ?_; rintro e w1 ⟨rfl, rfl⟩)
          go_ret3
          exact Ret.mk (Ext.alloc _ _) HL.out.symm
        | true =>
          rw [hname] at KO
          have hz : k = 0 ∧ (r = 46 ∨ r = 45) := by
            unfold okAt at ho'
            rw [hname] at ho'
            simp at ho'
            omega
          obtain ⟨rfl, hz⟩ := hz
          have hp0 : pos = 0 := HZ.out.1 rfl
          subst hp0
          clear ho ho' hname
          rcases hz with rfl | rfl
          all_goals
            go_wp2_with (go_at_call 16; refine (KO.out _).mono ?_; rintro e w1 ⟨rfl, rfl⟩)
            go_ret3
            exact Ret.mk (Ext.alloc _ _) HL.out.symm
    · have hps : ¬ pos < s.size := by rw [HN.out]; exact hp
      have hpe : pos = n := by omega
      have hnx : ∀ ty, (Instr.next (.pointer (some ⟨w.heap.size, 0, none⟩)) true ty).run Tryd.prog (w.iter s pos) = .ok (.tuple #[.bool false]) (w.iter s pos) := fun ty => run_next_end w s pos ty hps
      have HD : Hid (fault (chs s.data.toList 0) 0 = none) := by
        have h := HT.out
        rw [List.drop_of_length_le (by rw [size_len, HN.out]; omega)] at h
        exact h.symm
      have HE : Hid (s.data.toList = [] ↔ n = 0) := by
        rw [← HN.out, ← size_len]
        exact List.length_eq_zero_iff.symm
      have HS : Hid (F = foldV (if s.data.toList = [] then ([], 0, 4) else if 32 < n then ([], 0, 2) else (lowL s.data.toList, 0, 0))) := by
        rw [← HF.out]
        unfold foldS
        rw [HD.out]
        simp only
        rw [size_len, HN.out]
        rfl
      clear hps hp
      by_cases hk0 : k = 0
      · have hn0 : n = 0 := by rw [← hpe]; exact HZ.out.1 hk0
        have HL : Hid (F = .tuple #[.string ⟨#[]⟩, .int .i64 0, .int .i64 4]) := by
          have := HS.out
          rw [if_pos (HE.out.2 hn0)] at this
          exact this
        subst hk0
        clear hn0 hpe
        go_wp2
        go_ret3
        exact Ret.mk (Ext.alloc _ _) HL.out.symm
      · have hn0 : ¬ n = 0 := by rw [← hpe]; exact fun h => hk0 (HZ.out.2 h)
        have hkz : ((k : Int) == 0) = false := i64_ne (by omega)
        have HL := HS.out
        rw [if_neg (fun h => hn0 (HE.out.1 h))] at HL
        clear hn0 hpe hk0
        by_cases h32 : 32 < n
        · rw [if_pos h32] at HL
          have HL := hide HL
          have h32i : (32 : Int) < (s.size : Int) := by rw [HN.out]; omega
          clear h32
          go_wp2
          go_ret3
          exact Ret.mk (Ext.alloc _ _) HL.out.symm
        · rw [if_neg h32] at HL
          have HL := hide HL
          have h32i : ¬ (32 : Int) < (s.size : Int) := by rw [HN.out]; omega
          clear h32
          go_wp2_with (go_at_call 17; refine (KL.out _).mono ?_; rintro e w1 ⟨v1, rfl, hx1, rfl⟩)
          go_ret3
          exact Ret.mk (Ext.trans (Ext.alloc w _) hx1) HL.out.symm
end Go.Proofs.YtmoknfcocohiiaaDoor
