/-
  What is above all that begin with some bytes: the call, and the document's own.
-/
import Derived.Test.YtakmkcfljhfkdaaDoorBlk
import Derived.Test.YtakmkcfljhfkdaaDoorOctP
namespace Go.Proofs.YtakmkcfljhfkdaaDoor
open Go.RowKit

/-- How many bytes are left without the ffs at the end, of the first n. -/
def cutFrom (l : List UInt8) : Nat → Nat
  | 0 => 0
  | n + 1 => if l[n]? = some 255 then cutFrom l n else n + 1
theorem cutFrom_le (l : List UInt8) (n : Nat) : cutFrom l n ≤ n := by
  induction n with
  | zero => exact Nat.le_refl _
  | succ n ih => unfold cutFrom; split <;> omega
def above (l : List UInt8) : List UInt8 :=
  if cutFrom l l.length = 0 then [] else l.take (cutFrom l l.length - 1) ++ [(l[cutFrom l l.length - 1]?).getD 0 + 1]
theorem cutFrom_step (l : List UInt8) (n : Nat) (h : l[n]? = some 255) : cutFrom l (n + 1) = cutFrom l n := by rw [cutFrom, if_pos h]
theorem cutFrom_stop (l : List UInt8) (n : Nat) (x : UInt8) (h : l[n]? = some x) (hx : x ≠ 255) : cutFrom l (n + 1) = n + 1 := by
  rw [cutFrom, if_neg]; rw [h]; intro e; injection e with e; exact hx e
theorem above_nil (l : List UInt8) (h : cutFrom l l.length = 0) : above l = [] := by unfold above; rw [if_pos h]
theorem above_is (l : List UInt8) (n : Nat) (x : UInt8) (h : cutFrom l l.length = n + 1) (hx : l[n]? = some x) : above l = l.take n ++ [x + 1] := by
  unfold above; rw [if_neg (by omega), h, Nat.add_sub_cancel, hx]; rfl
theorem above_set (l : List UInt8) (n : Nat) (x : UInt8) (h : cutFrom l l.length = n + 1) (hx : l[n]? = some x) : (l.take (n + 1)).set n (x + 1) = above l := by
  rw [above_is l n x h hx, List.take_add_one, hx]
  have hn : n ≤ l.length := by have := cutFrom_le l l.length; omega
  have e : (l.take n).length = n := by rw [List.length_take]; omega
  rw [List.set_append, if_neg (by omega), e]
  simp
theorem byte_up (x : UInt8) (h : x ≠ 255) : b8 ((x.toNat : Int) + 1) = x + 1 ∧ (x.toNat : Int) + 1 < 256 := by
  have h1 := x.toNat_lt
  have h2 : x.toNat ≠ 255 := fun e => h (UInt8.toNat_inj.1 e)
  refine ⟨UInt8.toNat_inj.1 ?_, by omega⟩
  have := b8_toNat (n := (x.toNat : Int) + 1) (by omega) (by omega)
  have h3 : (x + 1).toNat = x.toNat + 1 := by rw [UInt8.toNat_add]; simp; omega
  omega

def Pair (l : List UInt8) (b : Bool) (w : World) (v : Value) : Prop := ∃ q, v = .tuple #[q, .bool b] ∧ Bytes l w q

theorem above_blk {w : World} {g n : Nat} {l : List UInt8} {x : UInt8} (h : Blk w g (over (List.replicate (n + 1) 0) 0 (l.take (n + 1)))) (hx : l[n]? = some x) (hn : n + 1 ≤ l.length) :
    Blk w g (l.take (n + 1)) ∧ w.cell? ⟨g, n, none⟩ = some (.int .u8 (x.toNat : Int)) ∧ w.frozen? ⟨g, n, none⟩ = false := by
  have e : over (List.replicate (n + 1) 0) 0 (l.take (n + 1)) = l.take (n + 1) := by
    unfold over
    rw [List.take_zero, List.nil_append, List.drop_of_length_le (by simp; omega), List.append_nil]
  rw [e] at h
  exact ⟨h, h.cell (by rw [List.getElem?_take_of_lt (by omega)]; exact hx), h.frozen n⟩

theorem above_some {n : Nat} {x : UInt8} (l : List UInt8) (h : (l.take (n + 1)).set n x = above l) (hn : n < l.length) : (above l != []) = true := by
  rw [← h]
  have : ((l.take (n + 1)).set n x).length ≠ 0 := by rw [List.length_set, List.length_take]; omega
  simp only [bne_iff_ne, ne_eq]
  intro e
  rw [e] at this
  exact this rfl

set_option maxRecDepth 20000 in
set_option maxHeartbeats 800000 in
theorem above_any (A : Option Addr) (c : Nat) (l : List UInt8) (w : World) (hr : Rd w A l) (hl : l.length ≤ 140737488355328) :
    Calls Tryd.prog 24 #[.slice A l.length c] w (Ret w (Pair (above l) (above l != []))) := by
  go_enter Tryd.func24, Tryd.ntmps24
  go_wp2
  go_loop [4] (fun c => ∃ n : Nat, n ≤ l.length ∧ c = .int .i64 n ∧ cutFrom l l.length = cutFrom l n) (fun c => (intOf c).toNat)
  case atStart => exact ⟨l.length, Nat.le_refl _, rfl, rfl⟩
  case round =>
    obtain ⟨n, hn, rfl, hcut⟩ := hrel
    cases n with
    | zero =>
      have hz := hide (above_nil l hcut)
      clear hcut
      go_wp2
      go_ret2
      refine Ret.mk (Ext.refl _) ⟨.slice none 0 0, ?_, ?_⟩
      · rw [hz.out]; rfl
      · rw [hz.out]; exact ⟨none, 0, rfl, Nat.le_refl _, Rd.nil _ _⟩
    | succ n =>
      obtain ⟨b, off, x, rfl, hx, hc⟩ := hr.at (k := n) (by omega)
      have hx2 := x.toNat_lt
      by_cases h255 : x = 255
      · subst h255
        have hb : ((((255 : UInt8).toNat : Int)) == 255) = true := by decide
        have HG := hide (hcut.trans (cutFrom_step l n hx))
        clear hcut
        go_wp2
        exact ⟨⟨n, by omega, by go_num, HG.out⟩, by simp [intOf]⟩
      · have hb : (((x.toNat : Int)) == 255) = false := by
          have : x.toNat ≠ 255 := fun e => h255 (UInt8.toNat_inj.1 e)
          simp; omega
        have hcut' := hcut.trans (cutFrom_stop l n x hx h255)
        have HA := hide (above_set l n x hcut' hx)
        have HU := hide (byte_up x h255)
        have hub := (byte_up x h255).2
        have HX := hide hx
        clear hcut hcut' h255 hx
        have hmk := fun W => run_make_bytes (n + 1) (by omega) W
        rw [show ((n + 1 : Nat) : Int) = (n : Int) + 1 from by omega] at hmk
        go_wp2_with (refine wpList_copy rfl (.tmp 24) (.tmp 25) rfl w.heap.size 0 (n + 1) (n + 1) _ l.length c rfl rfl (List.replicate (n + 1) 0) l rfl (Blk.made w (n + 1)) (hr.ext (Ext.alloc w _)) ?_ w.heap.size (Nat.le_refl _) ?_; simp; omega; intro w1 hg1 hb1; have HB := hide (above_blk hg1 HX.out (by omega)).1; obtain ⟨-, hcx, hfx⟩ := above_blk hg1 HX.out (by omega); clear hg1)
        go_ret2
        refine Ret.mk (Below.setCell (Below.trans (Ext.alloc w _) hb1) (Nat.le_refl _) _) ⟨.slice (some ⟨w.heap.size, 0, none⟩) (n + 1) (n + 1), ?_, ?_⟩
        · rw [above_some l HA.out (by omega)]; rfl
        · have h := (HB.out).set n ((x.toNat : Int) + 1) (by omega) hub
          rw [(HU.out).1, HA.out] at h
          exact h.bytes (by rw [← HA.out]; simp; omega) (Nat.le_refl _)

set_option maxRecDepth 20000 in
set_option maxHeartbeats 800000 in
theorem rabove_any (A : Option Addr) (c : Nat) (l : List UInt8) (w : World) (hr : Rd w A l) (hl : l.length ≤ 140737488355328) (hlc : l.length ≤ c) :
    Calls Tryd.prog 25 #[.slice A l.length c] w (Ret w (Bytes (above l))) := by
  go_enter Tryd.func25, Tryd.ntmps25
  go_wp2
  go_loop [3] (fun c => ∃ n : Nat, n ≤ l.length ∧ c = .int .i64 n ∧ cutFrom l l.length = cutFrom l n) (fun c => (intOf c).toNat)
  case atStart => exact ⟨l.length, Nat.le_refl _, rfl, rfl⟩
  case round =>
    obtain ⟨n, hn, rfl, hcut⟩ := hrel
    cases n with
    | zero =>
      have hz := hide (above_nil l hcut)
      clear hcut
      go_wp2
      go_ret
      refine Ret.mk (Ext.refl _) ?_
      rw [hz.out]; exact ⟨none, 0, rfl, Nat.le_refl _, Rd.nil _ _⟩
    | succ n =>
      obtain ⟨b, off, x, rfl, hx, hc⟩ := hr.at (k := n) (by omega)
      have hx2 := x.toNat_lt
      by_cases h255 : x = 255
      · subst h255
        have hb : ¬ ((((255 : UInt8).toNat : Int)) < 255) := by decide
        have HG := hide (hcut.trans (cutFrom_step l n hx))
        clear hcut
        go_wp2
        exact ⟨⟨n, by omega, by go_num, HG.out⟩, by simp [intOf]⟩
      · have hb : (x.toNat : Int) < 255 := by
          have : x.toNat ≠ 255 := fun e => h255 (UInt8.toNat_inj.1 e)
          omega
        have hcut' := hcut.trans (cutFrom_stop l n x hx h255)
        have HA := hide (above_set l n x hcut' hx)
        have HU := hide (byte_up x h255)
        have hub := (byte_up x h255).2
        have HX := hide hx
        clear hcut hcut' h255 hx
        go_wp2_with (at_builtin; refine wpList_cat rfl (.tmp 17) (.tmp 20) rfl w.heap.size _ _ (l.take (n + 1)) _ _ _ rfl rfl ?_ (Own.nil _ _) (hr.take _) ?_ ?_ ?_; simp; omega; exact Nat.le_refl _; simp; omega; intro v1 w1 hown1 hb1; obtain ⟨g, cap, rfl, hbg, hcx, hfx, hset⟩ := Own.at hown1 (i := n) (x := x) (by rw [List.nil_append, List.getElem?_take_of_lt (by omega)]; exact HX.out); have hll : ([] ++ List.take (n + 1) l).length = n + 1 := by simp; omega)
        go_ret
        refine Ret.mk (Below.setCell hb1 hbg _) ?_
        have h := (hset.out) ((x.toNat : Int) + 1) (by omega) hub
        rw [(HU.out).1, List.nil_append, HA.out, show (l.take (n + 1)).length = n + 1 from by rw [List.length_take]; omega] at h
        exact h.bytes
end Go.Proofs.YtakmkcfljhfkdaaDoor
