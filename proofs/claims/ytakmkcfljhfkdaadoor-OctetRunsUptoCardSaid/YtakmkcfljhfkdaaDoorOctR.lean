/-
  Reading a text: the call, and the document's own.
-/
import Derived.Test.YtakmkcfljhfkdaaDoorOctT
namespace Go.Proofs.YtakmkcfljhfkdaaDoor
open Go.RowKit

/-- The text that stands at a list's beginning, and how many bytes it takes. -/
def parse : List UInt8 → Option (List UInt8 × Nat)
  | [] => none
  | [_] => none
  | b :: c :: l => if b ≠ 0 then (parse (c :: l)).map (fun x => (b :: x.1, x.2 + 1)) else if c = 255 then (parse l).map (fun x => (0 :: x.1, x.2 + 2)) else if c = 1 then some ([], 2) else none
theorem drop_at (l : List UInt8) (i : Nat) (b : UInt8) (h : l[i]? = some b) : l.drop i = b :: l.drop (i + 1) := by
  obtain ⟨hi, hb⟩ := List.getElem?_eq_some_iff.1 h
  rw [List.drop_eq_getElem_cons hi, hb]
theorem parse_plain (l : List UInt8) (i : Nat) (b : UInt8) (h : l[i]? = some b) (hb : b ≠ 0) : parse (l.drop i) = (parse (l.drop (i + 1))).map (fun x => (b :: x.1, x.2 + 1)) := by
  rw [drop_at l i b h]
  cases l.drop (i + 1) with
  | nil => rfl
  | cons c r => simp [parse, hb]
theorem parse_last (l : List UInt8) (i : Nat) (h : l[i]? = some 0) (he : i + 1 = l.length) : parse (l.drop i) = none := by
  rw [drop_at l i 0 h, List.drop_of_length_le (by omega)]
  rfl
theorem parse_esc (l : List UInt8) (i : Nat) (h : l[i]? = some 0) (h2 : l[i + 1]? = some 255) : parse (l.drop i) = (parse (l.drop (i + 2))).map (fun x => (0 :: x.1, x.2 + 2)) := by
  rw [drop_at l i 0 h, drop_at l (i + 1) 255 h2]
  simp [parse]
theorem parse_end (l : List UInt8) (i : Nat) (h : l[i]? = some 0) (h2 : l[i + 1]? = some 1) : parse (l.drop i) = some ([], 2) := by
  rw [drop_at l i 0 h, drop_at l (i + 1) 1 h2]
  simp [parse]
theorem parse_bad (l : List UInt8) (i : Nat) (c : UInt8) (h : l[i]? = some 0) (h2 : l[i + 1]? = some c) (h3 : c ≠ 255) (h4 : c ≠ 1) : parse (l.drop i) = none := by
  rw [drop_at l i 0 h, drop_at l (i + 1) c h2]
  simp [parse, h3, h4]

/-- What has been gathered so far, and what is to come. -/
def Goes (l : List UInt8) (k i : Nat) (acc : List UInt8) : Prop := parse (l.drop k) = (parse (l.drop i)).map fun x => (acc ++ x.1, i - k + x.2)
theorem Goes.start (l : List UInt8) (k : Nat) : Goes l k k [] := by unfold Goes; simp
theorem Goes.plain {l : List UInt8} {k i : Nat} {acc : List UInt8} (h : Goes l k i acc) (hk : k ≤ i) {b : UInt8} (hb : l[i]? = some b) (h0 : b ≠ 0) : Goes l k (i + 1) (acc ++ [b]) := by
  unfold Goes at *
  rw [h, parse_plain l i b hb h0, Option.map_map]
  congr 1
  funext x
  simp only [Function.comp, List.append_assoc, List.singleton_append]
  rw [show i - k + (x.2 + 1) = i + 1 - k + x.2 from by omega]
theorem Goes.esc {l : List UInt8} {k i : Nat} {acc : List UInt8} (h : Goes l k i acc) (hk : k ≤ i) (hb : l[i]? = some 0) (h2 : l[i + 1]? = some 255) : Goes l k (i + 2) (acc ++ [0]) := by
  unfold Goes at *
  rw [h, parse_esc l i hb h2, Option.map_map]
  congr 1
  funext x
  simp only [Function.comp, List.append_assoc, List.singleton_append]
  rw [show i - k + (x.2 + 2) = i + 2 - k + x.2 from by omega]

/-- What reading a text gives: the text, the place behind it, the error's number. -/
def rdTxt (l : List UInt8) (at_ : Int) : List UInt8 × Int × Int :=
  if at_ < 0 ∨ (l.length : Int) < at_ then ([], 0, 1) else match parse (l.drop at_.toNat) with | some x => (x.1, at_ + x.2, 0) | none => ([], 0, 3)
theorem rdTxt_out (l : List UInt8) (at_ : Int) (h : at_ < 0 ∨ (l.length : Int) < at_) : rdTxt l at_ = ([], 0, 1) := by unfold rdTxt; rw [if_pos h]
theorem rdTxt_none (l : List UInt8) (k : Nat) (hk : k ≤ l.length) (h : parse (l.drop k) = none) : rdTxt l (k : Int) = ([], 0, 3) := by
  unfold rdTxt; rw [if_neg (by omega), Int.toNat_natCast, h]
theorem rdTxt_some (l : List UInt8) (k : Nat) (hk : k ≤ l.length) (t : List UInt8) (n : Nat) (h : parse (l.drop k) = some (t, n)) : rdTxt l (k : Int) = (t, (k : Int) + n, 0) := by
  unfold rdTxt; rw [if_neg (by omega), Int.toNat_natCast, h]
def Txt (x : List UInt8 × Int × Int) : Value := .tuple #[.string ⟨x.1.toArray⟩, .int .i64 x.2.1, .int .i64 x.2.2]

set_option maxHeartbeats 800000 in
theorem readText_any (A : Option Addr) (c : Nat) (l : List UInt8) (at_ : Int) (w : World) (hr : Rd w A l) (hl : l.length ≤ 140737488355328) (ha : at_ ≤ 9223372036854775807) :
    Calls Tryd.prog 20 #[.slice A l.length c, .int .i64 at_] w (Ret w (Is (Txt (rdTxt l at_)))) := by
  by_cases h1 : at_ < 0 ∨ (l.length : Int) < at_
  · rw [rdTxt_out l at_ h1]
    rcases h1 with h1 | h1
    · go_enter Tryd.func20, Tryd.ntmps20
      go_wp2
      go_ret3
      exact Ret.mk (Ext.refl _) rfl
    · have h0 : 0 ≤ at_ := by omega
      go_enter Tryd.func20, Tryd.ntmps20
      go_wp2
      go_ret3
      exact Ret.mk (Ext.refl _) rfl
  · obtain ⟨k, rfl⟩ := Int.eq_ofNat_of_zero_le (show 0 ≤ at_ by omega)
    have hk : k ≤ l.length := by omega
    clear h1
    have h0 : ¬ (l.length : Int) < (k : Int) := by omega
    go_enter Tryd.func20, Tryd.ntmps20
    go_wp2
    go_loopw [7, 8] (fun v c wr => ∃ (i : Nat) (acc : List UInt8), k ≤ i ∧ i ≤ l.length ∧ acc.length ≤ i ∧ c = .int .i64 i ∧ Goes l k i acc ∧ Own wr w.heap.size v acc ∧ Below w.heap.size w wr) (fun _ c _ => l.length - (intOf c).toNat)
    case atStart => exact ⟨k, [], Nat.le_refl _, hk, Nat.zero_le _, rfl, Goes.start l k, Own.nil _ _, Below.refl _ _⟩
    case round =>
      obtain ⟨i, acc, hki, hil, hacc, rfl, hg, hown, hb⟩ := hrel
      by_cases hlt : i < l.length
      · obtain ⟨b, off, x, rfl, hx, hc⟩ := hr.at (k := i) hlt
        have hc1 := (Below.cell hb (World.block_lt_of_cell? w _ hc)).trans hc
        have hx2 := x.toNat_lt
        by_cases hz : x = 0
        · subst hz
          have hzb : ((((0 : UInt8).toNat : Int)) != 0) = false := by decide
          by_cases hlast : i + 1 = l.length
          · have hb1 : (((i : Int) + 1) == (l.length : Int)) = true := by simp; omega
            have hp := parse_last l i hx hlast
            have hfin : rdTxt l (k : Int) = ([], 0, 3) := rdTxt_none l k hk (by rw [hg, hp]; rfl)
            have HF := hide hfin
            clear hfin hg hlast hp
            go_wp2
            go_ret3
            exact ⟨_, rfl, hb, by rw [HF.out]; rfl⟩
          · have hb1 : (((i : Int) + 1) == (l.length : Int)) = false := by simp; omega
            obtain ⟨b', off', y, hA, hy, hd⟩ := hr.at (k := i + 1) (by omega)
            obtain ⟨rfl, rfl⟩ : b' = b ∧ off' = off := by
              injection hA with hA; injection hA with h1 h2; exact ⟨h1.symm, h2.symm⟩
            clear hA
            have hd1 := (Below.cell hb (World.block_lt_of_cell? w _ hd)).trans hd
            have hy2 := y.toNat_lt
            by_cases h255 : y = 255
            · subst h255
              have hyb : ((((255 : UInt8).toNat : Int)) == 255) = true := by decide
              have HG := hide (hg.esc hki hx hy)
              clear hg
              go_wp2_with (at_builtin; refine wpList_push rfl (.tmp 48) (.tmp 49) rfl w.heap.size _ _ rfl rfl hown (by omega) (by omega) (Below.size hb) (by omega) ?_; intro v1 w1 hown1 hb1)
              refine ⟨⟨i + 2, acc ++ [0], by omega, by omega, by simp; omega, by go_num, HG.out, hown1, Below.trans hb hb1⟩, by simp [intOf]; omega⟩
            · have hyb : (((y.toNat : Int)) == 255) = false := by
                have : y.toNat ≠ 255 := fun e => h255 (UInt8.toNat_inj.1 e)
                simp; omega
              by_cases h1 : y = 1
              · subst h1
                have hyc : ((((1 : UInt8).toNat : Int)) == 1) = true := by decide
                have hp := parse_end l i hx hy
                have hfin : rdTxt l (k : Int) = (acc, (i : Int) + 2, 0) := by
                  rw [rdTxt_some l k hk (acc ++ []) (i - k + 2) (by rw [hg, hp]; rfl)]
                  simp; omega
                have HF := hide hfin
                clear hfin hg hp
                go_wp2_with (refine wpList_str rfl (.tmp 53) rfl acc hown.bytes ?_)
                go_ret3
                refine ⟨_, rfl, hb, ?_⟩
                rw [HF.out]
                unfold Is Txt
                congr 4
              · have hyc : (((y.toNat : Int)) == 1) = false := by
                  have : y.toNat ≠ 1 := fun e => h1 (UInt8.toNat_inj.1 e)
                  simp; omega
                have hp := parse_bad l i y hx hy h255 h1
                have hfin : rdTxt l (k : Int) = ([], 0, 3) := rdTxt_none l k hk (by rw [hg, hp]; rfl)
                have HF := hide hfin
                clear hfin hg hp
                go_wp2
                go_ret3
                exact ⟨_, rfl, hb, by rw [HF.out]; rfl⟩
        · have hzb : (((x.toNat : Int)) != 0) = true := by
            have : x.toNat ≠ 0 := fun e => hz (UInt8.toNat_inj.1 e)
            simp; omega
          have HG := hide (hg.plain hki hx hz)
          clear hg
          go_wp2_with (at_builtin; refine wpList_push rfl (.tmp 29) (.tmp 34) rfl w.heap.size _ _ rfl rfl hown (by omega) (by omega) (Below.size hb) (by omega) ?_; intro v1 w1 hown1 hb1)
          rw [b8_byte] at hown1
          refine ⟨⟨i + 1, acc ++ [x], by omega, by omega, by simp; omega, by go_num, HG.out, hown1, Below.trans hb hb1⟩, by simp [intOf]; omega⟩
      · obtain rfl : i = l.length := by omega
        have hfin : rdTxt l (k : Int) = ([], 0, 3) := rdTxt_none l k hk (by rw [hg, List.drop_of_length_le (Nat.le_refl _)]; rfl)
        have HF := hide hfin
        clear hfin hg
        go_wp2
        go_ret3
        exact ⟨_, rfl, hb, by rw [HF.out]; rfl⟩

set_option maxHeartbeats 800000 in
theorem rreadText_any (A : Option Addr) (c : Nat) (l : List UInt8) (at_ : Int) (w : World) (hr : Rd w A l) (hl : l.length ≤ 140737488355328) (ha : at_ ≤ 9223372036854775807) :
    Calls Tryd.prog 21 #[.slice A l.length c, .int .i64 at_] w (Ret w (Is (Txt (rdTxt l at_)))) := by
  by_cases h1 : at_ < 0 ∨ (l.length : Int) < at_
  · rw [rdTxt_out l at_ h1]
    rcases h1 with h1 | h1
    · go_enter Tryd.func21, Tryd.ntmps21
      go_wp2
      go_ret3
      exact Ret.mk (Ext.refl _) rfl
    · have h0 : 0 ≤ at_ := by omega
      go_enter Tryd.func21, Tryd.ntmps21
      go_wp2
      go_ret3
      exact Ret.mk (Ext.refl _) rfl
  · obtain ⟨k, rfl⟩ := Int.eq_ofNat_of_zero_le (show 0 ≤ at_ by omega)
    have hk : k ≤ l.length := by omega
    clear h1
    have h0 : ¬ (l.length : Int) < (k : Int) := by omega
    go_enter Tryd.func21, Tryd.ntmps21
    go_wp2
    go_loopw [7, 8] (fun v c wr => ∃ (i : Nat) (acc : List UInt8), k ≤ i ∧ i ≤ l.length ∧ acc.length ≤ i ∧ c = .int .i64 i ∧ Goes l k i acc ∧ Own wr w.heap.size v acc ∧ Below w.heap.size w wr) (fun _ c _ => l.length - (intOf c).toNat)
    case atStart => exact ⟨k, [], Nat.le_refl _, hk, Nat.zero_le _, rfl, Goes.start l k, Own.nil _ _, Below.refl _ _⟩
    case round =>
      obtain ⟨i, acc, hki, hil, hacc, rfl, hg, hown, hb⟩ := hrel
      by_cases hlt : i < l.length
      · obtain ⟨b, off, x, rfl, hx, hc⟩ := hr.at (k := i) hlt
        have hc1 := (Below.cell hb (World.block_lt_of_cell? w _ hc)).trans hc
        have hx2 := x.toNat_lt
        by_cases hz : x = 0
        · subst hz
          have hzb : ((((0 : UInt8).toNat : Int)) == 0) = true := by decide
          by_cases hlast : i + 1 = l.length
          · have hb1 : (l.length : Int) ≤ (i : Int) + 1 := by omega
            have hp := parse_last l i hx hlast
            have hfin : rdTxt l (k : Int) = ([], 0, 3) := rdTxt_none l k hk (by rw [hg, hp]; rfl)
            have HF := hide hfin
            clear hfin hg hlast hp
            go_wp2
            go_ret3
            exact ⟨_, rfl, hb, by rw [HF.out]; rfl⟩
          · have hb1 : (i : Int) + 1 < (l.length : Int) := by omega
            obtain ⟨b', off', y, hA, hy, hd⟩ := hr.at (k := i + 1) (by omega)
            obtain ⟨rfl, rfl⟩ : b' = b ∧ off' = off := by
              injection hA with hA; injection hA with h1 h2; exact ⟨h1.symm, h2.symm⟩
            clear hA
            have hd1 := (Below.cell hb (World.block_lt_of_cell? w _ hd)).trans hd
            have hy2 := y.toNat_lt
            by_cases h1 : y = 1
            · subst h1
              have hyc : ((((1 : UInt8).toNat : Int)) == 1) = true := by decide
              have hp := parse_end l i hx hy
              have hfin : rdTxt l (k : Int) = (acc, (i : Int) + 2, 0) := by
                rw [rdTxt_some l k hk (acc ++ []) (i - k + 2) (by rw [hg, hp]; rfl)]
                simp; omega
              have HF := hide hfin
              clear hfin hg hp
              go_wp2_with (refine wpList_str rfl (.tmp 38) rfl acc hown.bytes ?_)
              go_ret3
              refine ⟨_, rfl, hb, ?_⟩
              rw [HF.out]
              rfl
            · have hyc : (((y.toNat : Int)) == 1) = false := by
                have : y.toNat ≠ 1 := fun e => h1 (UInt8.toNat_inj.1 e)
                simp; omega
              by_cases h255 : y = 255
              · subst h255
                have hyb : ((((255 : UInt8).toNat : Int)) != 255) = false := by decide
                have HG := hide (hg.esc hki hx hy)
                clear hg
                go_wp2_with (at_builtin; refine wpList_push rfl (.tmp 50) (.tmp 51) rfl w.heap.size _ _ rfl rfl hown (by omega) (by omega) (Below.size hb) (by omega) ?_; intro v1 w1 hown1 hb1)
                refine ⟨⟨i + 2, acc ++ [0], by omega, by omega, by simp; omega, by go_num, HG.out, hown1, Below.trans hb hb1⟩, by simp [intOf]; omega⟩
              · have hyb : (((y.toNat : Int)) != 255) = true := by
                  have : y.toNat ≠ 255 := fun e => h255 (UInt8.toNat_inj.1 e)
                  simp; omega
                have hp := parse_bad l i y hx hy h255 h1
                have hfin : rdTxt l (k : Int) = ([], 0, 3) := rdTxt_none l k hk (by rw [hg, hp]; rfl)
                have HF := hide hfin
                clear hfin hg hp
                go_wp2
                go_ret3
                exact ⟨_, rfl, hb, by rw [HF.out]; rfl⟩
        · have hzb : (((x.toNat : Int)) == 0) = false := by
            have : x.toNat ≠ 0 := fun e => hz (UInt8.toNat_inj.1 e)
            simp; omega
          have HG := hide (hg.plain hki hx hz)
          clear hg
          go_wp2_with (at_builtin; refine wpList_push rfl (.tmp 53) (.tmp 58) rfl w.heap.size _ _ rfl rfl hown (by omega) (by omega) (Below.size hb) (by omega) ?_; intro v1 w1 hown1 hb1)
          rw [b8_byte] at hown1
          refine ⟨⟨i + 1, acc ++ [x], by omega, by omega, by simp; omega, by go_num, HG.out, hown1, Below.trans hb hb1⟩, by simp [intOf]; omega⟩
      · obtain rfl : i = l.length := by omega
        have hfin : rdTxt l (k : Int) = ([], 0, 3) := rdTxt_none l k hk (by rw [hg, List.drop_of_length_le (Nat.le_refl _)]; rfl)
        have HF := hide hfin
        clear hfin hg
        go_wp2
        go_ret3
        exact ⟨_, rfl, hb, by rw [HF.out]; rfl⟩
end Go.Proofs.YtakmkcfljhfkdaaDoor
