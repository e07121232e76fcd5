/-
  The document's own answer of layer 3: the kinds of a text's characters.
-/
import Derived.Test.YtmoknfcocohiiaaDoorNamR
namespace Go.Proofs.YtmoknfcocohiiaaDoor
open Go.RowKit

def okC (c : Chr) : Bool := c.r != 65533 || c.n == 3
theorem bad_width (l : List UInt8) (h : (Lib.decodeL l).1 = 65533) : (Lib.decodeL l).2 = 1 ∨ (Lib.decodeL l).2 = 3 := by
  rw [Lib.decodeL_N] at h ⊢
  rcases Lib.decodeN_shape l.length (l.getD 0 0).toNat (l.getD 1 0).toNat (l.getD 2 0).toNat (l.getD 3 0).toNat with ⟨c, e⟩ | ⟨c1, c2, c3, cv, e⟩ | ⟨c1, c2, c3, c4, cv, cs, e⟩ | ⟨c1, c2, c3, c4, c5, cv, cw, e⟩ | e
  · rw [e]; left; rfl
  · rw [e] at h; simp only at h; omega
  · rw [e]; right; rfl
  · rw [e] at h; simp only at h; omega
  · rw [e]; left; rfl
theorem valid_all (l : List UInt8) (p : Nat) : Lib.validD l = (chs l p).all okC := by
  induction l using chs_ind generalizing p with
  | h0 => rfl
  | h1 l hne ih =>
    rw [Lib.validD_step l hne, chs_step l p hne, List.all_cons, ih (p + (Lib.decodeL l).2)]
    have hb := bad_width l
    have hok : okC ⟨(Lib.decodeL l).1, p, (Lib.decodeL l).2⟩ = decide (¬ ((Lib.decodeL l).1 = 65533 ∧ (Lib.decodeL l).2 = 1)) := by
      unfold okC
      by_cases h1 : (Lib.decodeL l).1 = 65533
      · rcases hb h1 with h2 | h2
        · simp [h1, h2]
        · simp [h1, h2]
      · simp [h1]
    rw [hok]
    split
    · rename_i h; simp [h]
    · rename_i h; simp [h]
def b5 (m : Nat) : List Bool := [m.testBit 0, m.testBit 1, m.testBit 2, m.testBit 3, m.testBit 4]
def b5V (m : Nat) : List Value := (b5 m).map .bool
theorem b5_set : ∀ (m : Fin 32) (c : Fin 5), (b5 m.val).set c.val true = b5 (m.val ||| 2 ^ c.val) := by decide +kernel
theorem b5_get : ∀ (m : Fin 32) (c : Fin 5), (b5 m.val)[c.val]? = some (m.val.testBit c.val) := by decide +kernel
theorem b5_mod : ∀ (m : Fin 32) (c : Fin 5), m.val % 2 ^ (c.val + 1) = m.val % 2 ^ c.val + (if m.val.testBit c.val then 2 ^ c.val else 0) := by decide +kernel
theorem cls_step {w : World} {g t m c r : Nat} (h : Rw w g t (b5V m)) (hm : m < 32) (hc : c < 5) (hk : kd r = c) : Rw (w.setCell ⟨g, c, none⟩ (.bool true)) g t (b5V (m ||| 2 ^ kd r)) := by
  have := Rw.set h c (.bool true)
  rw [hk]
  have e := b5_set ⟨m, hm⟩ ⟨c, hc⟩
  unfold b5V at *
  simp only at e
  rw [← e, List.map_set]
  exact this
theorem cls_cell {w : World} {g t m : Nat} (h : Rw w g t (b5V m)) (hm : m < 32) (c : Nat) (hc : c < 5) : w.cell? ⟨g, c, none⟩ = some (.bool (m.testBit c)) := by
  refine Rw.cell h ?_
  have e := b5_get ⟨m, hm⟩ ⟨c, hc⟩
  simp only at e
  unfold b5V
  rw [List.getElem?_map, e]
  rfl
theorem b5_start (w : World) (t : TypeId) : Rw (w.alloc (.cells #[.bool false, .bool false, .bool false, .bool false, .bool false] t)) w.heap.size t (b5V 0) := by
  have h : b5V 0 = [.bool false, .bool false, .bool false, .bool false, .bool false] := rfl
  rw [h]
  exact heap_alloc_new w _
theorem sum_step (q j : Nat) (hq : q < 32) (hj : j < 5) : wrap64 ((q : Int) + wrap64 (2 ^ j)) = ((q + 2 ^ j : Nat) : Int) := by
  have h : j = 0 ∨ j = 1 ∨ j = 2 ∨ j = 3 ∨ j = 4 := by omega
  rcases h with rfl | rfl | rfl | rfl | rfl <;> (simp only [wrap64]; omega)
theorem all_take {α : Type} (f : α → Bool) (l : List α) (k : Nat) (c : α) (h : l[k]? = some c) : (l.take (k + 1)).all f = ((l.take k).all f && f c) := by
  rw [List.take_add_one, h, List.all_append]
  simp
theorem kinds_take (l : List Chr) (k : Nat) (c : Chr) (h : l[k]? = some c) : kinds (l.take (k + 1)) 0 = kinds (l.take k) 0 ||| 2 ^ kd c.r := by
  rw [List.take_add_one, h, kinds_append]
  rfl
theorem chr_at {w : World} {A : Option Addr} {l : List Chr} (h : RdC w A (chVs l)) {k : Nat} (hk : k < l.length) : ∃ b off c, A = some ⟨b, off, none⟩ ∧ l[k]? = some c ∧
    w.cell? ⟨b, off + k * 3, none⟩ = some (.int .i32 (c.r : Int)) ∧ w.cell? ⟨b, off + k * 3 + 1, none⟩ = some (.int .i64 (c.p : Int)) ∧ w.cell? ⟨b, off + k * 3 + 2, none⟩ = some (.bool (okC c)) := by
  have hl := chVs_length l
  obtain ⟨b, off, hA, hc⟩ := h (by intro e; rw [e] at hl; simp at hl; omega)
  have hx : l[k]? = some l[k] := List.getElem?_eq_getElem hk
  obtain ⟨h1, h2, h3⟩ := chVs_get l k _ hx
  have e1 := hc _ _ h1
  have e2 := hc _ _ h2
  have e3 := hc _ _ h3
  rw [Nat.mul_comm 3 k] at e1 e2 e3
  exact ⟨b, off, l[k], hA, hx, e1, by rw [Nat.add_assoc]; exact e2, by rw [Nat.add_assoc]; exact e3⟩
theorem chs_rune {l : List UInt8} {p k : Nat} {c : Chr} (h : (chs l p)[k]? = some c) : c.r ≤ 1114111 := by
  induction l using chs_ind generalizing p k with
  | h0 => simp [chs_nil] at h
  | h1 l hne ih =>
    rw [chs_step l p hne] at h
    cases k with
    | zero => simp at h; subst h; exact Lib.decodeL_rune l
    | succ k => exact ih (by simpa using h)

set_option maxRecDepth 20000 in
set_option maxHeartbeats 4000000 in
theorem rclasses_any (s : ByteArray) (w : World) (hs : s.size ≤ 4398046511104) (hT : Tabs w) :
    Calls Tryd.prog 13 #[.string s] w (Ret w (Is (classV (classS s.data.toList)))) := by
  obtain ⟨F, HF⟩ : ∃ F, Hid (classV (classS s.data.toList) = F) := ⟨_, rfl⟩
  rw [HF.out]
  have KC := hide (chars_any s w hs hT)
  have hlen : (chs s.data.toList 0).length ≤ 4398046511104 := Nat.le_trans (chs_le _ _) (by rw [size_len]; exact hs)
  have HV := hide (valid_all s.data.toList 0)
  have HFT : (chs s.data.toList 0).all okC = true → F = .tuple #[.int .i64 (kinds (chs s.data.toList 0) 0 : Int), .int .i64 ((chs s.data.toList 0).length : Int), .bool true] := fun h => by
    rw [← HF.out]
    unfold classS
    rw [HV.out, h]
    rfl
  have HFF : (chs s.data.toList 0).all okC = false → F = .tuple #[.int .i64 0, .int .i64 0, .bool false] := fun h => by
    rw [← HF.out]
    unfold classS
    rw [HV.out, h]
    rfl
  have HRU := hide fun k c (h : (chs s.data.toList 0)[k]? = some c) => chs_rune h
  generalize chs s.data.toList 0 = L at *
  have HFT := hide HFT
  have HFF := hide HFF
  obtain ⟨n, HN⟩ : ∃ n, Hid (L.length = n) := ⟨_, rfl⟩
  have hn := hlen
  rw [HN.out] at hn
  clear hlen HV HF hs
  go_enter Tryd.func13, Tryd.ntmps13
  go_wp2_with (first
    | (go_at_call 14; refine KC.out.mono ?_; rintro e w1 ⟨v1, rfl, hx1, A, c1, rfl, hr1⟩; rw [HN.out]))
  go_loopw [7] (fun i wr => ∃ k : Nat, k ≤ n ∧ i = .int .i64 k ∧ Hid ((L.take k).all okC = true) ∧ Rw wr w1.heap.size 45 (b5V (kinds (L.take k) 0)) ∧ Ext w1 wr) (fun i _ => n - (intOf i).toNat)
  case atStart => exact ⟨0, Nat.zero_le _, rfl, hide rfl, b5_start w1 _, Ext.alloc _ _⟩
  case round =>
    obtain ⟨k, hk, rfl, HA, hb, hx⟩ := hrel
    by_cases hlt : k < n
    · obtain ⟨b, off, c, rfl, hck, h0, h1, h2⟩ := chr_at (hr1.ext hx) (k := k) (by rw [HN.out]; exact hlt)
      have hki : (k : Int) < (n : Int) := by omega
      have hcr := HRU.out k c hck
      obtain ⟨m, HM⟩ : ∃ m, Hid (kinds (L.take k) 0 = m) := ⟨_, hide rfl⟩
      have hm : m < 32 := by rw [← HM.out]; exact kinds_lt _ _ (by decide)
      rw [HM.out] at hb
      have HS := hide fun cc (hc : cc < 5) (hk : kd c.r = cc) => cls_step hb hm hc hk
      have g0 := cls_cell hb hm 0 (by decide)
      have g1 := cls_cell hb hm 1 (by decide)
      have g2 := cls_cell hb hm 2 (by decide)
      have g3 := cls_cell hb hm 3 (by decide)
      have g4 := cls_cell hb hm 4 (by decide)
      have f0 := Rw.frozen hb 0
      have f1 := Rw.frozen hb 1
      have f2 := Rw.frozen hb 2
      have f3 := Rw.frozen hb 3
      have f4 := Rw.frozen hb 4
      have HCK := hide hck
      have HKT := hide (kinds_take L k c hck)
      have HAT := hide (all_take okC L k c hck)
      clear hck hb hcr
      cases hok : okC c with
      | false =>
        rw [hok] at h2
        have HL : Hid (F = .tuple #[.int .i64 0, .int .i64 0, .bool false]) := HFF.out (by
          rw [Bool.eq_false_iff]
          intro h
          have := List.all_eq_true.1 h c (List.mem_of_getElem? HCK.out)
          rw [hok] at this
          cases this)
        clear hok g0 g1 g2 g3 g4
        go_wp2
        go_ret3
        exact Ret.mk (hx1.trans hx) HL.out.symm
      | true =>
        rw [hok] at h2
        have HAN : Hid ((L.take (k + 1)).all okC = true) := by
          show _ = true
          rw [HAT.out, HA.out, hok]
          rfl
        clear hok
        generalize hq : c.r = q at *
        have HQ := hide hq
        clear hq
        go_wp2
        all_goals
          refine ⟨⟨k + 1, by omega, by go_num, HAN, ?_, Below.set hx (Nat.le_refl _) _⟩, by simp [intOf]; omega⟩
          rw [HKT.out, HM.out]
          first
            | exact HS.out 0 (by decide) (by unfold kd; (repeat' split) <;> omega)
            | exact HS.out 1 (by decide) (by unfold kd; (repeat' split) <;> omega)
            | exact HS.out 2 (by decide) (by unfold kd; (repeat' split) <;> omega)
            | exact HS.out 3 (by decide) (by unfold kd; (repeat' split) <;> omega)
            | exact HS.out 4 (by decide) (by unfold kd; (repeat' split) <;> omega)
    · obtain rfl : k = n := by omega
      have hki : ¬ (k : Int) < (k : Int) := by omega
      have e : L.take k = L := List.take_of_length_le (by rw [HN.out]; exact Nat.le_refl _)
      rw [e] at HA hb
      obtain ⟨m, HM⟩ : ∃ m, Hid (kinds L 0 = m) := ⟨_, hide rfl⟩
      have hm : m < 32 := by rw [← HM.out]; exact kinds_lt _ _ (by decide)
      rw [HM.out] at hb
      have HL : Hid (F = .tuple #[.int .i64 (m : Int), .int .i64 (k : Int), .bool true]) := by
        have := HFT.out HA.out
        rw [HM.out, HN.out] at this
        exact this
      have HCC := hide fun c hc => cls_cell hb hm c hc
      have HX := hide (hx1.trans hx)
      clear hb e hlt hki
      go_wp2
      go_loopw [10, 11] (fun u i w' => ∃ j : Nat, w' = wr ∧ j ≤ 5 ∧ i = .int .i64 j ∧ u = .int .i64 ((m % 2 ^ j : Nat) : Int)) (fun _ i _ => 5 - (intOf i).toNat)
      case atStart => exact ⟨0, rfl, by omega, rfl, by rw [Nat.pow_zero, Nat.mod_one]; rfl⟩
      case round =>
        obtain ⟨j, rfl, hj, rfl, rfl⟩ := hrel
        by_cases hlt : j < 5
        · have hc := HCC.out j hlt
          have hji : (j : Int) < 5 := by omega
          have hmod := b5_mod ⟨m, hm⟩ ⟨j, hlt⟩
          simp only at hmod
          have HMOD := hide hmod
          obtain ⟨q, HQ⟩ : ∃ q, Hid (m % 2 ^ j = q) := ⟨_, hide rfl⟩
          rw [HQ.out]
          clear hmod
          go_wp2
          · have hb : m.testBit j = true := by assumption
            refine ⟨⟨j + 1, trivial, by omega, by go_num, congrArg (Value.int .i64) ?_⟩, by simp [intOf]; omega⟩
            have h := HMOD.out
            rw [hb, if_pos rfl, HQ.out] at h
            rw [h]
            exact sum_step q j (by have := Nat.mod_le m (2 ^ j); rw [HQ.out] at this; omega) hlt
          · have hb : m.testBit j = false := by assumption
            refine ⟨⟨j + 1, trivial, by omega, by go_num, congrArg (Value.int .i64) ?_⟩, by simp [intOf]; omega⟩
            have h := HMOD.out
            rw [hb, HQ.out] at h
            rw [h]
            simp
        · obtain rfl : j = 5 := by omega
          have hji : ¬ ((5 : Nat) : Int) < 5 := by omega
          have hm5 : m % 2 ^ 5 = m := Nat.mod_eq_of_lt hm
          rw [hm5]
          clear hlt hm5
          go_wp2
          go_ret3
          exact Ret.mk HX.out HL.out.symm
end Go.Proofs.YtmoknfcocohiiaaDoor
