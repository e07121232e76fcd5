/-
  strings.ContainsAny of any text and the three bytes that want quotes.
-/
import Derived.Test.YtmanflfanoddgabDoorLinC
import Derived.Laws.RangeString
namespace Go.Proofs.YtmanflfanoddgabDoor
open Go.RowKit

def itAt (W : World) (g : Nat) (s : ByteArray) (pos : Nat) : World := { W with heap := W.heap.setIfInBounds g (.stringIter s pos) }
theorem run_next_at {P : Program} (W : World) (g : Nat) (s : ByteArray) (pos : Nat) (ty : TypeId) (hg : W.heap[g]? = some (.stringIter s pos)) (h : pos < s.size) :
    (Instr.next (.pointer (some ⟨g, 0, none⟩)) true ty).run P W = .ok (.tuple #[.bool true, .int .i64 pos, .int .i32 (Utf8.decode s pos).1]) (itAt W g s (pos + (Utf8.decode s pos).2)) := by
  simp only [Instr.next, getObj, setObj, Sem.run_bind, Sem.run, Result.andThen, hg, h, if_true]
  simp [goInt, itAt]
theorem run_next_out {P : Program} (W : World) (g : Nat) (s : ByteArray) (pos : Nat) (ty : TypeId) (hg : W.heap[g]? = some (.stringIter s pos)) (h : ¬ pos < s.size) :
    (Instr.next (.pointer (some ⟨g, 0, none⟩)) true ty).run P W = .ok (.tuple #[.bool false]) W := by
  simp only [Instr.next, getObj, setObj, Sem.run_bind, Sem.run, Result.andThen, hg, h, if_false]
  simp
theorem itAt_heap {W : World} {g : Nat} (s : ByteArray) (p : Nat) (h : g < W.heap.size) : (itAt W g s p).heap[g]? = some (.stringIter s p) := by simp [itAt, h]
theorem itAt_ext {w W : World} {g : Nat} (s : ByteArray) (p : Nat) (hx : Ext w W) (h : w.heap.size ≤ g) : Ext w (itAt W g s p) := by
  refine ⟨hx.os, hx.tape, hx.output, ?_, fun k hk => ?_⟩
  · show _ ≤ (W.heap.setIfInBounds g _).size
    simpa using hx.size
  · show (W.heap.setIfInBounds g _)[k]? = _
    rw [Array.getElem?_setIfInBounds_ne (by omega)]
    exact Below.block hx k hk
theorem special_iff (b : UInt8) : special b = ([32, 34, 92] : List UInt8).contains b := by
  unfold special
  simp [List.contains, List.elem]
  cases (b == 32) <;> cases (b == 34) <;> cases (b == 92) <;> rfl
theorem any_high {l : List UInt8} (h : ∀ x ∈ l, 128 ≤ x.toNat) : l.any special = false := by
  rw [List.any_eq_false]
  intro x hx
  have := h x hx
  unfold special
  simp
  refine ⟨⟨?_, ?_⟩, ?_⟩ <;> (rintro rfl; exact absurd this (by decide))
/-- A character from 128 on has no byte that wants quotes. -/
theorem any_step {s : ByteArray} {pos r m : Nat} (h : pos < s.size) (hd : Utf8.decode s pos = (r, m)) :
    (r < 128 → (at8 s pos).toNat = r ∧ m = 1) ∧ (128 ≤ r → ((fr s pos).take m).any special = false) := by
  have hl : Lib.decodeL (fr s pos) = (r, m) := by rw [← hd]; exact Lib.decodeL_drop s pos
  rw [fr_cons h] at hl ⊢
  by_cases hb : (at8 s pos).toNat < 128
  · rw [Lib.decodeL_ascii _ _ hb] at hl
    injection hl with h1 h2
    subst h1 h2
    exact ⟨fun _ => ⟨rfl, rfl⟩, fun h => by omega⟩
  · by_cases hv : vch (at8 s pos :: fr s (pos + 1))
    · have hh : 128 ≤ (Lib.decodeL (at8 s pos :: fr s (pos + 1))).1 := by
        rw [Lib.decodeL_N]
        exact decodeN_high _ _ _ _ _ (by simp; omega)
      have hy := high_bytes (by simp) hv hh
      rw [hl] at hy hh
      exact ⟨fun h => by simp only at hh; omega, fun _ => any_high hy⟩
    · have hv' : (Lib.decodeL (at8 s pos :: fr s (pos + 1))).1 = 65533 ∧ (Lib.decodeL (at8 s pos :: fr s (pos + 1))).2 = 1 := Classical.not_not.1 hv
      rw [hl] at hv'
      obtain ⟨h1, h2⟩ := hv'
      simp only at h1 h2
      subst h1 h2
      refine ⟨fun h => by omega, fun _ => any_high fun x hx => ?_⟩
      simp at hx
      subst hx
      omega

set_option maxRecDepth 20000 in
set_option maxHeartbeats 4000000 in
theorem indexAny_short (s : ByteArray) (w : World) (hs : s.size ≤ 8) :
    Calls Tryd.prog 53 #[.string s, .string ⟨#[32, 34, 92]⟩] w (Ret w fun _ v => ∃ z : Int, v = .int .i64 z ∧ decide (0 ≤ z) = s.data.toList.any special) := by
  obtain ⟨n, HN⟩ : ∃ n, Hid (s.size = n) := ⟨_, rfl⟩
  obtain ⟨b, HB⟩ : ∃ b, Hid (s.data.toList.any special = b) := ⟨_, rfl⟩
  rw [HB.out]
  have hn := hs
  rw [HN.out] at hn
  have h8 : decide ((8 : Int) < (s.size : Int)) = false := decide_eq_false (by omega)
  clear hs
  go_enter Tryd.func53, Tryd.ntmps53
  go_wp2_with (go_at_call 58; refine (Tryd.strings_shouldUseASCIISet _ _).mono ?_; rintro e w1 ⟨rfl, rfl⟩; rw [h8])
  go_loopw [9, 10] (fun _ _ wr => ∃ pos : Nat, pos ≤ n ∧ wr.heap[w1.heap.size]? = some (.stringIter s pos) ∧ Ext w1 wr ∧ Hid ((fr s pos).any special = b)) (fun _ _ wr => n - wr.iterPos w1.heap.size)
  case atStart => exact ⟨0, Nat.zero_le _, World.iter_heap w1 s 0, Ext.alloc _ _, HB⟩
  case round =>
    obtain ⟨pos, hpn, hg, hx, HR⟩ := hrel
    have hmeas : wr.iterPos w1.heap.size = pos := by simp [World.iterPos, hg]
    have hlt := (Array.getElem?_eq_some_iff.1 hg).1
    by_cases hp : pos < n
    · have hps : pos < s.size := by rw [HN.out]; exact hp
      obtain ⟨r, m, hd⟩ : ∃ r m, Utf8.decode s pos = (r, m) := ⟨_, _, rfl⟩
      have hnx := fun ty => run_next_at (P := Tryd.prog) wr w1.heap.size s pos ty hg hps
      rw [hd] at hnx
      have hw := width_at s pos r m hps hd
      have hr := rune_at s pos r m hd
      obtain ⟨ha, hh⟩ := any_step hps hd
      have hg2 := itAt_heap s (pos + m) hlt
      have hx2 := itAt_ext s (pos + m) hx (Nat.le_refl _)
      have hm2 : (itAt wr w1.heap.size s (pos + m)).iterPos w1.heap.size = pos + m := by simp [World.iterPos, hg2]
      rw [HN.out] at hw
      have hsp : (fr s pos).any special = (((fr s pos).take m).any special || (fr s (pos + m)).any special) := by rw [← fr_drop, ← List.any_append, List.take_append_drop]
      have HSP := hide hsp
      have HG2 := hide hg2
      have HM2 := hide hm2
      have HMS := hide hmeas
      clear hsp hd hg2 hm2 hmeas hg
      by_cases hr128 : r < 128
      · obtain ⟨h8a, rfl⟩ := ha hr128
        have ht1 : ((fr s pos).take 1).any special = special (at8 s pos) := by rw [fr_cons hps]; simp
        have hz : decide (0 ≤ Lib.indexByte (⟨#[32, 34, 92]⟩ : ByteArray).data.toList ((r : Int).toNat.toUInt8)) = special (at8 s pos) := by
          have e : ((r : Int).toNat.toUInt8) = at8 s pos := by rw [← h8a]; simp
          rw [e, special_iff, Lib.contains_iff_indexByte]
        obtain ⟨z, HZ⟩ : ∃ z, Hid (Lib.indexByte (⟨#[32, 34, 92]⟩ : ByteArray).data.toList ((r : Int).toNat.toUInt8) = z) := ⟨_, rfl⟩
        rw [HZ.out] at hz
        have KA := hide fun V => Tryd.strings_IndexRune_ascii ⟨#[32, 34, 92]⟩ (r : Int) V (by omega) (by omega)
        rw [HZ.out] at KA
        have HT1 := hide ht1
        clear hh ha ht1 hr h8a hr128
        cases hb : special (at8 s pos) with
        | true =>
          rw [hb] at hz
          have hz0 : (0 : Int) ≤ z := of_decide_eq_true hz
          have HL : Hid (b = true) := hide (by rw [← HR.out, HSP.out, HT1.out, hb]; rfl)
          clear hz hb hps
          go_wp2_with (go_at_call 57; refine (KA.out _).mono ?_; rintro e w2 ⟨rfl, rfl⟩)
          go_ret
          refine Ret.mk hx2 ⟨_, rfl, ?_⟩
          rw [HL.out]
          exact decide_eq_true (by omega)
        | false =>
          rw [hb] at hz
          have hz0 : ¬ (0 : Int) ≤ z := of_decide_eq_false hz
          have HL : Hid ((fr s (pos + 1)).any special = b) := hide (by rw [← HR.out, HSP.out, HT1.out, hb]; rfl)
          clear hz hb hps
          go_wp2_with (go_at_call 57; refine (KA.out _).mono ?_; rintro e w2 ⟨rfl, rfl⟩)
          exact ⟨⟨pos + 1, by omega, HG2.out, hx2, HL⟩, by rw [HM2.out, HMS.out]; omega⟩
      · have ht := hh (by omega)
        have KN := hide fun V => runeNone_any r V (by omega) hr
        have HL : Hid ((fr s (pos + m)).any special = b) := hide (by rw [← HR.out, HSP.out, ht]; rfl)
        clear hh ha ht hr hps hr128
        have hlt2 : w1.heap.size < (itAt wr w1.heap.size s (pos + m)).heap.size := (Array.getElem?_eq_some_iff.1 HG2.out).1
        go_wp2_with (go_at_call 57; refine (KN.out _).mono ?_; rintro e w2 ⟨v2, rfl, hx3, rfl⟩)
        have hg3 : w2.heap[w1.heap.size]? = some (.stringIter s (pos + m)) := (Below.block hx3 _ hlt2).trans HG2.out
        have hm3 : w2.iterPos w1.heap.size = pos + m := by simp [World.iterPos, hg3]
        exact ⟨⟨pos + m, by omega, hg3, hx2.trans hx3, HL⟩, by rw [hm3, HMS.out]; omega⟩
    · have hps : ¬ pos < s.size := by rw [HN.out]; exact hp
      have hnx := fun ty => run_next_out (P := Tryd.prog) wr w1.heap.size s pos ty hg hps
      have HL : Hid (b = false) := hide (by rw [← HR.out, fr_end (by omega)]; rfl)
      clear hps hp hmeas hg
      go_wp2
      go_ret
      refine Ret.mk hx ⟨_, rfl, ?_⟩
      rw [HL.out]
      rfl

theorem any_index (cs l : List UInt8) : decide (0 ≤ Lib.indexAny l cs) = l.any fun b => cs.contains b := by
  induction l with
  | nil => rfl
  | cons b l ih =>
    have hge := Lib.indexAny_ge cs l
    unfold Lib.indexAny
    rw [List.any_cons, ← ih]
    cases hc : cs.contains b with
    | true => simp
    | false =>
      by_cases h1 : Lib.indexAny l cs = -1
      · simp [h1]
      · have h2 : 0 ≤ Lib.indexAny l cs := by omega
        simp [h1, h2]
        omega
theorem zero256 : (Tryd.prog.info? 98).map (fun i => (i.zero, i.size)) = some (some (.agg (Array.replicate 256 (.bool false))), 256) := by kernel_rfl
theorem indexAny_any (s : ByteArray) (w : World) (hs : s.size < 4294967281) :
    Calls Tryd.prog 53 #[.string s, .string ⟨#[32, 34, 92]⟩] w (Ret w fun _ v => ∃ z : Int, v = .int .i64 z ∧ decide (0 ≤ z) = s.data.toList.any special) := by
  by_cases h8 : s.size ≤ 8
  · exact indexAny_short s w h8
  · refine (Tryd.strings_IndexAny_long (zero_of_info zero256).1 s ⟨#[32, 34, 92]⟩ w (by decide) (by omega) hs (by decide) ?_).mono fun e w' ⟨he, hw⟩ => ⟨_, he, by rw [hw]; exact (Ext.alloc _ _).trans (Ext.alloc _ _), _, rfl, ?_⟩
    · intro j b hb
      match j, hb with
      | 0, hb | 1, hb | 2, hb => injection hb with hb; subst hb; decide
      | j + 3, hb => simp at hb
    · rw [any_index]
      congr 1
      funext b
      rw [special_iff]
set_option maxRecDepth 20000 in
theorem containsAny_any (s : ByteArray) (w : World) (hs : s.size < 4294967281) :
    Calls Tryd.prog 42 #[.string s, .string ⟨#[32, 34, 92]⟩] w (Ret w (Is (.bool (s.data.toList.any special)))) := by
  obtain ⟨b, HB⟩ : ∃ b, Hid (s.data.toList.any special = b) := ⟨_, rfl⟩
  have K := hide fun V => indexAny_any s V hs
  rw [HB.out] at K ⊢
  clear hs
  go_enter Tryd.func42, Tryd.ntmps42
  go_wp2_with (go_at_call 53; refine (K.out _).mono ?_; rintro e w1 ⟨v1, rfl, hx1, z, rfl, hz⟩)
  go_ret
  exact Ret.mk hx1 rfl
end Go.Proofs.YtmanflfanoddgabDoor
