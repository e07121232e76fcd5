/-
  The kinds of a text's characters: Classes' contract; passwords: Strong's.
-/
import Derived.Test.YtmoknfcocohiiaaDoorNamF
import Derived.Test.YtmoknfcocohiiaaDoorShf
namespace Go.Proofs.YtmoknfcocohiiaaDoor
open Go.RowKit

def Tabs (w : World) : Prop := Lib.Utf8Tabs 0 1 w
theorem Tabs.ext {w w' : World} (h : Tabs w) (hx : Ext w w') : Tabs w' := Utf8Tabs_below h hx
theorem valid_any (s : ByteArray) (w : World) (hs : s.size ≤ 140737488355328) (hT : Tabs w) :
    Calls Tryd.prog 21 #[.string s] w (Ret w (Is (.bool (Lib.validD s.data.toList)))) :=
  (show Calls Tryd.prog 21 #[.string s] w _ from Any.utf8_ValidString Tryd.lays196 s w (by omega) hT).mono fun _ _ ⟨he, hb⟩ => ⟨_, he, hb, rfl⟩
set_option maxRecDepth 100000 in
theorem or5 : ∀ a b : Fin 32, bits .or .i64 ((a.val : Nat) : Int) ((b.val : Nat) : Int) = ((a.val ||| b.val : Nat) : Int) := by decide +kernel
theorem pow_kd (r : Nat) : 2 ^ kd r < 32 := Nat.pow_lt_pow_right (a := 2) (n := 5) (by decide) (by have := kd_le r; omega)
def classV (x : Nat × Nat × Bool) : Value := .tuple #[.int .i64 (x.1 : Int), .int .i64 (x.2.1 : Int), .bool x.2.2]

set_option maxRecDepth 20000 in
set_option maxHeartbeats 2000000 in
theorem classes_any (s : ByteArray) (w : World) (hs : s.size ≤ 140737488355328) (hT : Tabs w) :
    Calls Tryd.prog 12 #[.string s] w (Ret w (Is (classV (classS s.data.toList)))) := by
  obtain ⟨F, HF⟩ : ∃ F, Hid (classV (classS s.data.toList) = F) := ⟨_, rfl⟩
  rw [HF.out]
  have KV := hide (valid_any s w hs hT)
  cases hv : Lib.validD s.data.toList with
  | false =>
    rw [hv] at KV
    have HL : Hid (F = .tuple #[.int .i64 0, .int .i64 0, .bool false]) := by
      rw [← HF.out]
      unfold classS
      rw [hv]
      rfl
    clear hv hs
    go_enter Tryd.func12, Tryd.ntmps12
    go_wp2_with (go_at_call 21; refine KV.out.mono ?_; rintro e w1 ⟨v1, rfl, hx1, rfl⟩)
    go_ret3
    exact Ret.mk hx1 HL.out.symm
  | true =>
    rw [hv] at KV
    obtain ⟨K, HK⟩ : ∃ K, Hid (kinds (chs s.data.toList 0) 0 = K) := ⟨_, rfl⟩
    obtain ⟨L, HLn⟩ : ∃ L, Hid ((chs s.data.toList 0).length = L) := ⟨_, rfl⟩
    have HL : Hid (F = .tuple #[.int .i64 (K : Int), .int .i64 (L : Int), .bool true]) := by
      rw [← HF.out, ← HK.out, ← HLn.out]
      unfold classS
      rw [hv]
      rfl
    obtain ⟨n, HN⟩ : ∃ n, Hid (s.size = n) := ⟨_, rfl⟩
    have hn := hs
    rw [HN.out] at hn
    clear hv hs
    go_enter Tryd.func12, Tryd.ntmps12
    go_wp2_with (go_at_call 21; refine KV.out.mono ?_; rintro e w1 ⟨v1, rfl, hx1, rfl⟩)
    go_loopw [5, 6] (fun u c w' => ∃ pos m k : Nat, w' = w1.iter s pos ∧ u = .int .i64 m ∧ c = .int .i64 k ∧ m < 32 ∧ k ≤ pos ∧ pos ≤ n ∧ Hid (kinds (chs (s.data.toList.drop pos) pos) m = K) ∧ Hid (k + (chs (s.data.toList.drop pos) pos).length = L)) (fun _ _ w' => n - w'.iterPos w1.heap.size)
    case atStart => exact ⟨0, 0, 0, rfl, rfl, rfl, by omega, Nat.le_refl _, Nat.zero_le _, hide (by rw [List.drop_zero]; exact HK.out), hide (by rw [List.drop_zero, Nat.zero_add]; exact HLn.out)⟩
    case round =>
      obtain ⟨pos, m, k, rfl, rfl, rfl, hm, hk, hpn, HKD, HCN⟩ := hrel
      by_cases hp : pos < n
      · have hps : pos < s.size := by rw [HN.out]; exact hp
        obtain ⟨r, j, hd⟩ : ∃ r m, Utf8.decode s pos = (r, m) := ⟨_, _, rfl⟩
        have hw := width_at s pos r j hps hd
        rw [HN.out] at hw
        have HC := hide (chs_at s pos r j hps hd)
        have hnx : ∀ ty, (Instr.next (.pointer (some ⟨w1.heap.size, 0, none⟩)) true ty).run Tryd.prog (w1.iter s pos) = .ok (.tuple #[.bool true, .int .i64 (pos : Int), .int .i32 (r : Int)]) (w1.iter s (pos + j)) := fun ty => by
          have := run_next_any (P := Tryd.prog) w1 s pos ty hps
          rwa [hd] at this
        have KO := hide fun W => kindOf_any r W
        have hq := pow_kd r
        obtain ⟨q, HQ⟩ : ∃ q : Nat, Hid (2 ^ kd r = q) := ⟨2 ^ kd r, hide rfl⟩
        rw [HQ.out] at KO hq
        have hor : bits .or .i64 (m : Int) (q : Int) = ((m ||| q : Nat) : Int) := or5 ⟨m, hm⟩ ⟨q, hq⟩
        have hor2 : m ||| q < 32 := Nat.or_lt_two_pow (n := 5) hm hq
        clear hps hd
        go_wp2_with (go_at_call 22; refine (KO.out _).mono ?_; rintro e w2 ⟨rfl, rfl⟩)
        refine ⟨⟨pos + j, m ||| q, k + 1, rfl, rfl, by go_num, hor2, by omega, by omega, hide ?_, hide ?_⟩, by simp; omega⟩
        · rw [← HKD.out, HC.out, kinds_cons, ← HQ.out]
        · rw [← HCN.out, HC.out, List.length_cons]; omega
      · have hps : ¬ pos < s.size := by rw [HN.out]; exact hp
        have hnx : ∀ ty, (Instr.next (.pointer (some ⟨w1.heap.size, 0, none⟩)) true ty).run Tryd.prog (w1.iter s pos) = .ok (.tuple #[.bool false]) (w1.iter s pos) := fun ty => run_next_end w1 s pos ty hps
        have hd : s.data.toList.drop pos = [] := List.drop_of_length_le (by rw [size_len, HN.out]; omega)
        have hK : m = K := by have := HKD.out; rw [hd] at this; exact this
        have hLn : k = L := by have := HCN.out; rw [hd] at this; simpa [chs_nil] using this
        subst hK hLn
        clear hd hps hp
        go_wp2
        go_ret3
        exact Ret.mk (Ext.trans hx1 (Ext.alloc _ _)) HL.out.symm
end Go.Proofs.YtmoknfcocohiiaaDoor
