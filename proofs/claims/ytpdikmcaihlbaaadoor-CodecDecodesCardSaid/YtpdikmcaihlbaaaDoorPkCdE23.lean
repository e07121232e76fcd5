/-
  Reading a text: the call, and the document's own.
  The reader of the codec: keyText.
  The reader of the codec: rowText; Form.
  The reader of the codec: rowText reads.
  The reader of the codec: value.
-/
import Derived.Test.YtpdikmcaihlbaaaDoorPkCdE21
import Derived.Test.YtpdikmcaihlbaaaDoorPkCdE22
set_option linter.unusedVariables false
set_option linter.unusedSimpArgs false

namespace Go.Proofs.YtpdikmcaihlbaaaDoor
open Go.RowKit

/-- The text that stands at a list's beginning, and how many bytes it takes. -/
def parse : List UInt8 → Option (List UInt8 × Nat)
  | [] => none
  | [_] => none
  | b :: c :: l => if b ≠ 0 then (parse (c :: l)).map (fun x => (b :: x.1, x.2 + 1)) else if c = 255 then (parse l).map (fun x => (0 :: x.1, x.2 + 2)) else if c = 1 then some ([], 2) else none
theorem drop_at (l : List UInt8) (i : Nat) (b : UInt8) (h : l[i]? = some b) : l.drop i = b :: l.drop (i + 1) := by
  obtain ⟨hi, hb⟩ := List.getElem?_eq_some_iff.1 h
  rw [List.drop_eq_getElem_cons hi, hb]
theorem parse_plain (l : List UInt8) (i : Nat) (b : UInt8) (h : l[i]? = some b) (hb : b ≠ 0) : parse (l.drop i) = (parse (l.drop (i + 1))).map (fun x => (b :: x.1, x.2 + 1)) := by
  rw [drop_at l i b h]
  cases l.drop (i + 1) with
  | nil => rfl
  | cons c r => simp [parse, hb]
theorem parse_last (l : List UInt8) (i : Nat) (h : l[i]? = some 0) (he : i + 1 = l.length) : parse (l.drop i) = none := by
  rw [drop_at l i 0 h, List.drop_of_length_le (by omega)]
  rfl
theorem parse_esc (l : List UInt8) (i : Nat) (h : l[i]? = some 0) (h2 : l[i + 1]? = some 255) : parse (l.drop i) = (parse (l.drop (i + 2))).map (fun x => (0 :: x.1, x.2 + 2)) := by
  rw [drop_at l i 0 h, drop_at l (i + 1) 255 h2]
  simp [parse]
theorem parse_end (l : List UInt8) (i : Nat) (h : l[i]? = some 0) (h2 : l[i + 1]? = some 1) : parse (l.drop i) = some ([], 2) := by
  rw [drop_at l i 0 h, drop_at l (i + 1) 1 h2]
  simp [parse]
theorem parse_bad (l : List UInt8) (i : Nat) (c : UInt8) (h : l[i]? = some 0) (h2 : l[i + 1]? = some c) (h3 : c ≠ 255) (h4 : c ≠ 1) : parse (l.drop i) = none := by
  rw [drop_at l i 0 h, drop_at l (i + 1) c h2]
  simp [parse, h3, h4]

/-- What has been gathered so far, and what is to come. -/
def Goes (l : List UInt8) (k i : Nat) (acc : List UInt8) : Prop := parse (l.drop k) = (parse (l.drop i)).map fun x => (acc ++ x.1, i - k + x.2)
theorem Goes.start (l : List UInt8) (k : Nat) : Goes l k k [] := by unfold Goes; simp
theorem Goes.plain {l : List UInt8} {k i : Nat} {acc : List UInt8} (h : Goes l k i acc) (hk : k ≤ i) {b : UInt8} (hb : l[i]? = some b) (h0 : b ≠ 0) : Goes l k (i + 1) (acc ++ [b]) := by
  unfold Goes at *
  rw [h, parse_plain l i b hb h0, Option.map_map]
  congr 1
  funext x
  simp only [Function.comp, List.append_assoc, List.singleton_append]
  rw [show i - k + (x.2 + 1) = i + 1 - k + x.2 from by omega]
theorem Goes.esc {l : List UInt8} {k i : Nat} {acc : List UInt8} (h : Goes l k i acc) (hk : k ≤ i) (hb : l[i]? = some 0) (h2 : l[i + 1]? = some 255) : Goes l k (i + 2) (acc ++ [0]) := by
  unfold Goes at *
  rw [h, parse_esc l i hb h2, Option.map_map]
  congr 1
  funext x
  simp only [Function.comp, List.append_assoc, List.singleton_append]
  rw [show i - k + (x.2 + 2) = i + 2 - k + x.2 from by omega]

/-- What reading a text gives: the text, the place behind it, the error's number. -/
def rdTxt (l : List UInt8) (at_ : Int) : List UInt8 × Int × Int :=
  if at_ < 0 ∨ (l.length : Int) < at_ then ([], 0, 1) else match parse (l.drop at_.toNat) with | some x => (x.1, at_ + x.2, 0) | none => ([], 0, 3)
theorem rdTxt_out (l : List UInt8) (at_ : Int) (h : at_ < 0 ∨ (l.length : Int) < at_) : rdTxt l at_ = ([], 0, 1) := by unfold rdTxt; rw [if_pos h]
theorem rdTxt_none (l : List UInt8) (k : Nat) (hk : k ≤ l.length) (h : parse (l.drop k) = none) : rdTxt l (k : Int) = ([], 0, 3) := by
  unfold rdTxt; rw [if_neg (by omega), Int.toNat_natCast, h]
theorem rdTxt_some (l : List UInt8) (k : Nat) (hk : k ≤ l.length) (t : List UInt8) (n : Nat) (h : parse (l.drop k) = some (t, n)) : rdTxt l (k : Int) = (t, (k : Int) + n, 0) := by
  unfold rdTxt; rw [if_neg (by omega), Int.toNat_natCast, h]
def Txt (x : List UInt8 × Int × Int) : Value := .tuple #[.string ⟨x.1.toArray⟩, .int .i64 x.2.1, .int .i64 x.2.2]

set_option maxHeartbeats 800000 in
theorem readText_any (A : Option Addr) (c : Nat) (l : List UInt8) (at_ : Int) (w : World) (hr : Rd w A l) (hl : l.length ≤ 140737488355328) (ha : at_ ≤ 9223372036854775807) :
    Calls Tryd.prog 54 #[.slice A l.length c, .int .i64 at_] w (Ret w (Is (Txt (rdTxt l at_)))) := by
  by_cases h1 : at_ < 0 ∨ (l.length : Int) < at_
  · rw [rdTxt_out l at_ h1]
    rcases h1 with h1 | h1
    · go_enter Tryd.func54, Tryd.ntmps54
      go_wp2
      go_ret3
      exact Ret.mk (Ext.refl _) rfl
    · have h0 : 0 ≤ at_ := by omega
      go_enter Tryd.func54, Tryd.ntmps54
      go_wp2
      go_ret3
      exact Ret.mk (Ext.refl _) rfl
  · obtain ⟨k, rfl⟩ := Int.eq_ofNat_of_zero_le (show 0 ≤ at_ by omega)
    have hk : k ≤ l.length := by omega
    clear h1
    have h0 : ¬ (l.length : Int) < (k : Int) := by omega
    go_enter Tryd.func54, Tryd.ntmps54
    go_wp2
    go_loopw [7, 8] (fun v c wr => ∃ (i : Nat) (acc : List UInt8), k ≤ i ∧ i ≤ l.length ∧ acc.length ≤ i ∧ c = .int .i64 i ∧ Goes l k i acc ∧ Own wr w.heap.size v acc ∧ Below w.heap.size w wr) (fun _ c _ => l.length - (intOf c).toNat)
    case atStart => exact ⟨k, [], Nat.le_refl _, hk, Nat.zero_le _, rfl, Goes.start l k, Own.nil _ _, Below.refl _ _⟩
    case round =>
      obtain ⟨i, acc, hki, hil, hacc, rfl, hg, hown, hb⟩ := hrel
      by_cases hlt : i < l.length
      · obtain ⟨b, off, x, rfl, hx, hc⟩ := hr.at (k := i) hlt
        have hc1 := (Below.cell hb (World.block_lt_of_cell? w _ hc)).trans hc
        have hx2 := x.toNat_lt
        by_cases hz : x = 0
        · subst hz
          have hzb : ((((0 : UInt8).toNat : Int)) != 0) = false := by decide
          by_cases hlast : i + 1 = l.length
          · have hb1 : (((i : Int) + 1) == (l.length : Int)) = true := by simp; omega
            have hp := parse_last l i hx hlast
            have hfin : rdTxt l (k : Int) = ([], 0, 3) := rdTxt_none l k hk (by rw [hg, hp]; rfl)
            have HF := hide hfin
            clear hfin hg hlast hp
            go_wp2
            go_ret3
            exact ⟨_, rfl, hb, by rw [HF.out]; rfl⟩
          · have hb1 : (((i : Int) + 1) == (l.length : Int)) = false := by simp; omega
            obtain ⟨b', off', y, hA, hy, hd⟩ := hr.at (k := i + 1) (by omega)
            obtain ⟨rfl, rfl⟩ : b' = b ∧ off' = off := by
              injection hA with hA; injection hA with h1 h2; exact ⟨h1.symm, h2.symm⟩
            clear hA
            have hd1 := (Below.cell hb (World.block_lt_of_cell? w _ hd)).trans hd
            have hy2 := y.toNat_lt
            by_cases h255 : y = 255
            · subst h255
              have hyb : ((((255 : UInt8).toNat : Int)) == 255) = true := by decide
              have HG := hide (hg.esc hki hx hy)
              clear hg
              go_wp2_with (at_builtin; refine wpList_push rfl (.tmp 48) (.tmp 49) rfl w.heap.size _ _ rfl rfl hown (by omega) (by omega) (Below.size hb) (by omega) ?_; intro v1 w1 hown1 hb1)
              refine ⟨⟨i + 2, acc ++ [0], by omega, by omega, by simp; omega, by go_num, HG.out, hown1, Below.trans hb hb1⟩, by simp [intOf]; omega⟩
            · have hyb : (((y.toNat : Int)) == 255) = false := by
                have : y.toNat ≠ 255 := fun e => h255 (UInt8.toNat_inj.1 e)
                simp; omega
              by_cases h1 : y = 1
              · subst h1
                have hyc : ((((1 : UInt8).toNat : Int)) == 1) = true := by decide
                have hp := parse_end l i hx hy
                have hfin : rdTxt l (k : Int) = (acc, (i : Int) + 2, 0) := by
                  rw [rdTxt_some l k hk (acc ++ []) (i - k + 2) (by rw [hg, hp]; rfl)]
                  simp; omega
                have HF := hide hfin
                clear hfin hg hp
                go_wp2_with (refine wpList_str rfl (.tmp 53) rfl acc hown.bytes ?_)
                go_ret3
                refine ⟨_, rfl, hb, ?_⟩
                rw [HF.out]
                unfold Is Txt
                congr 4
              · have hyc : (((y.toNat : Int)) == 1) = false := by
                  have : y.toNat ≠ 1 := fun e => h1 (UInt8.toNat_inj.1 e)
                  simp; omega
                have hp := parse_bad l i y hx hy h255 h1
                have hfin : rdTxt l (k : Int) = ([], 0, 3) := rdTxt_none l k hk (by rw [hg, hp]; rfl)
                have HF := hide hfin
                clear hfin hg hp
                go_wp2
                go_ret3
                exact ⟨_, rfl, hb, by rw [HF.out]; rfl⟩
        · have hzb : (((x.toNat : Int)) != 0) = true := by
            have : x.toNat ≠ 0 := fun e => hz (UInt8.toNat_inj.1 e)
            simp; omega
          have HG := hide (hg.plain hki hx hz)
          clear hg
          go_wp2_with (at_builtin; refine wpList_push rfl (.tmp 29) (.tmp 34) rfl w.heap.size _ _ rfl rfl hown (by omega) (by omega) (Below.size hb) (by omega) ?_; intro v1 w1 hown1 hb1)
          rw [b8_byte] at hown1
          refine ⟨⟨i + 1, acc ++ [x], by omega, by omega, by simp; omega, by go_num, HG.out, hown1, Below.trans hb hb1⟩, by simp [intOf]; omega⟩
      · obtain rfl : i = l.length := by omega
        have hfin : rdTxt l (k : Int) = ([], 0, 3) := rdTxt_none l k hk (by rw [hg, List.drop_of_length_le (Nat.le_refl _)]; rfl)
        have HF := hide hfin
        clear hfin hg
        go_wp2
        go_ret3
        exact ⟨_, rfl, hb, by rw [HF.out]; rfl⟩

set_option maxHeartbeats 800000 in
theorem rreadText_any (A : Option Addr) (c : Nat) (l : List UInt8) (at_ : Int) (w : World) (hr : Rd w A l) (hl : l.length ≤ 140737488355328) (ha : at_ ≤ 9223372036854775807) :
    Calls Tryd.prog 41 #[.slice A l.length c, .int .i64 at_] w (Ret w (Is (Txt (rdTxt l at_)))) := by
  by_cases h1 : at_ < 0 ∨ (l.length : Int) < at_
  · rw [rdTxt_out l at_ h1]
    rcases h1 with h1 | h1
    · go_enter Tryd.func41, Tryd.ntmps41
      go_wp2
      go_ret3
      exact Ret.mk (Ext.refl _) rfl
    · have h0 : 0 ≤ at_ := by omega
      go_enter Tryd.func41, Tryd.ntmps41
      go_wp2
      go_ret3
      exact Ret.mk (Ext.refl _) rfl
  · obtain ⟨k, rfl⟩ := Int.eq_ofNat_of_zero_le (show 0 ≤ at_ by omega)
    have hk : k ≤ l.length := by omega
    clear h1
    have h0 : ¬ (l.length : Int) < (k : Int) := by omega
    go_enter Tryd.func41, Tryd.ntmps41
    go_wp2
    go_loopw [7, 8] (fun v c wr => ∃ (i : Nat) (acc : List UInt8), k ≤ i ∧ i ≤ l.length ∧ acc.length ≤ i ∧ c = .int .i64 i ∧ Goes l k i acc ∧ Own wr w.heap.size v acc ∧ Below w.heap.size w wr) (fun _ c _ => l.length - (intOf c).toNat)
    case atStart => exact ⟨k, [], Nat.le_refl _, hk, Nat.zero_le _, rfl, Goes.start l k, Own.nil _ _, Below.refl _ _⟩
    case round =>
      obtain ⟨i, acc, hki, hil, hacc, rfl, hg, hown, hb⟩ := hrel
      by_cases hlt : i < l.length
      · obtain ⟨b, off, x, rfl, hx, hc⟩ := hr.at (k := i) hlt
        have hc1 := (Below.cell hb (World.block_lt_of_cell? w _ hc)).trans hc
        have hx2 := x.toNat_lt
        by_cases hz : x = 0
        · subst hz
          have hzb : ((((0 : UInt8).toNat : Int)) == 0) = true := by decide
          by_cases hlast : i + 1 = l.length
          · have hb1 : (l.length : Int) ≤ (i : Int) + 1 := by omega
            have hp := parse_last l i hx hlast
            have hfin : rdTxt l (k : Int) = ([], 0, 3) := rdTxt_none l k hk (by rw [hg, hp]; rfl)
            have HF := hide hfin
            clear hfin hg hlast hp
            go_wp2
            go_ret3
            exact ⟨_, rfl, hb, by rw [HF.out]; rfl⟩
          · have hb1 : (i : Int) + 1 < (l.length : Int) := by omega
            obtain ⟨b', off', y, hA, hy, hd⟩ := hr.at (k := i + 1) (by omega)
            obtain ⟨rfl, rfl⟩ : b' = b ∧ off' = off := by
              injection hA with hA; injection hA with h1 h2; exact ⟨h1.symm, h2.symm⟩
            clear hA
            have hd1 := (Below.cell hb (World.block_lt_of_cell? w _ hd)).trans hd
            have hy2 := y.toNat_lt
            by_cases h1 : y = 1
            · subst h1
              have hyc : ((((1 : UInt8).toNat : Int)) == 1) = true := by decide
              have hp := parse_end l i hx hy
              have hfin : rdTxt l (k : Int) = (acc, (i : Int) + 2, 0) := by
                rw [rdTxt_some l k hk (acc ++ []) (i - k + 2) (by rw [hg, hp]; rfl)]
                simp; omega
              have HF := hide hfin
              clear hfin hg hp
              go_wp2_with (refine wpList_str rfl (.tmp 38) rfl acc hown.bytes ?_)
              go_ret3
              refine ⟨_, rfl, hb, ?_⟩
              rw [HF.out]
              rfl
            · have hyc : (((y.toNat : Int)) == 1) = false := by
                have : y.toNat ≠ 1 := fun e => h1 (UInt8.toNat_inj.1 e)
                simp; omega
              by_cases h255 : y = 255
              · subst h255
                have hyb : ((((255 : UInt8).toNat : Int)) != 255) = false := by decide
                have HG := hide (hg.esc hki hx hy)
                clear hg
                go_wp2_with (at_builtin; refine wpList_push rfl (.tmp 50) (.tmp 51) rfl w.heap.size _ _ rfl rfl hown (by omega) (by omega) (Below.size hb) (by omega) ?_; intro v1 w1 hown1 hb1)
                refine ⟨⟨i + 2, acc ++ [0], by omega, by omega, by simp; omega, by go_num, HG.out, hown1, Below.trans hb hb1⟩, by simp [intOf]; omega⟩
              · have hyb : (((y.toNat : Int)) != 255) = true := by
                  have : y.toNat ≠ 255 := fun e => h255 (UInt8.toNat_inj.1 e)
                  simp; omega
                have hp := parse_bad l i y hx hy h255 h1
                have hfin : rdTxt l (k : Int) = ([], 0, 3) := rdTxt_none l k hk (by rw [hg, hp]; rfl)
                have HF := hide hfin
                clear hfin hg hp
                go_wp2
                go_ret3
                exact ⟨_, rfl, hb, by rw [HF.out]; rfl⟩
        · have hzb : (((x.toNat : Int)) == 0) = false := by
            have : x.toNat ≠ 0 := fun e => hz (UInt8.toNat_inj.1 e)
            simp; omega
          have HG := hide (hg.plain hki hx hz)
          clear hg
          go_wp2_with (at_builtin; refine wpList_push rfl (.tmp 53) (.tmp 58) rfl w.heap.size _ _ rfl rfl hown (by omega) (by omega) (Below.size hb) (by omega) ?_; intro v1 w1 hown1 hb1)
          rw [b8_byte] at hown1
          refine ⟨⟨i + 1, acc ++ [x], by omega, by omega, by simp; omega, by go_num, HG.out, hown1, Below.trans hb hb1⟩, by simp [intOf]; omega⟩
      · obtain rfl : i = l.length := by omega
        have hfin : rdTxt l (k : Int) = ([], 0, 3) := rdTxt_none l k hk (by rw [hg, List.drop_of_length_le (Nat.le_refl _)]; rfl)
        have HF := hide hfin
        clear hfin hg
        go_wp2
        go_ret3
        exact ⟨_, rfl, hb, by rw [HF.out]; rfl⟩
end Go.Proofs.YtpdikmcaihlbaaaDoor
namespace Go.Proofs.YtpdikmcaihlbaaaDoor
open Go.RowKit

set_option maxRecDepth 20000 in
set_option maxHeartbeats 1600000 in
theorem keyText_any (g : Nat) (A : Option Addr) (l : List UInt8) (n c a : Nat) (w0 w : World) (hr0 : Rd w0 A l) (hx : Ext w0 w) (hn : l.length = n) (hnc : n ≤ c) (hl : n ≤ 140737488351232) (han : a ≤ n) (hR : RdrC w g A n c a) :
    Calls Tryd.prog 39 #[.pointer (some ⟨g, 0, none⟩)] w (OneC w g A n c (match parse (l.drop a) with | some r => some (.string ⟨r.1.toArray⟩, a + r.2) | none => none)) := by
  have hR : Rw w g 62 [.slice A n c, .int .i64 (a : Int)] := hR
  have RG := hide hR
  have hnI : (n : Int) ≤ 140737488351232 := by omega
  have haI : (a : Int) ≤ 140737488351232 := by omega
  obtain ⟨x, hxr⟩ : ∃ x, rdTxt l (a : Int) = x := ⟨_, rfl⟩
  have KR := hide (fun (W : World) (hW : Ext w0 W) => (show Calls Tryd.prog 54 #[.slice A n c, .int .i64 (a : Int)] W (Ret W (Is (Txt x))) from by
    have h := readText_any A c l (a : Int) W (hr0.ext hW) (by omega) (by omega)
    rw [hn, hxr] at h
    exact h))
  have c0 := hR.cell (i := 0) rfl
  have c1 := hR.cell (i := 1) rfl
  have HX0 := hide (hx.trans (Ext.drew w))
  cases hp : parse (l.drop a) with
  | some q =>
    obtain ⟨tx, k⟩ := q
    rw [rdTxt_some l a (by omega) tx k hp] at hxr
    subst hxr
    simp only [Txt] at KR
    show Calls _ _ _ _ (OneC w g A n c (some (.string ⟨tx.toArray⟩, a + k)))
    have KM := hide (fun (W : World) => must_any true W)
    clear hR hr0
    go_enter Tryd.func39, Tryd.ntmps39
    go_upto_region 1 with fail
    go_cut [3, 4, 5] from 6 to 18 (fun p q r wx => p = .string ⟨tx.toArray⟩ ∧ q = .int .i64 ((a : Int) + (k : Int)) ∧ r = .int .i64 0 ∧ Ext w wx)
    case first =>
      go_region_law (go_simp; go_at_call 54; (with_reducible refine (KR.out _ HX0.out).mono ?_); rintro e x ⟨vx, rfl, hxx, rfl⟩)
      all_goals (go_wp2_with fail; go_meet; exact ⟨rfl, rfl, rfl, (Ext.drew w).trans hxx⟩)
    case rest =>
      obtain ⟨rfl, rfl, rfl, hxc⟩ := hcut
      clear c0 c1
      have RD := hide (RG.out.ext hxc)
      have df := RD.out.frozen 1
      have d1 := RD.out.cell (i := 1) rfl
      go_wp2_with (go_at_call 49; (with_reducible refine (KM.out _).mono ?_); rintro e x ⟨rfl, hx2⟩; have hx2 := hx2.symm; subst hx2)
      go_ret
      refine ⟨⟨hxc.os, hxc.tape, hxc.output, Nat.le_trans hxc.size (by simp [World.setCell]), fun k hk hne => (Below.heap_setCell wc ⟨g, 1, none⟩ _ k (fun e => hne (by simp only at e; rw [e]))).trans (hxc.block k hk)⟩, rfl, ?_⟩
      unfold RdrC
      rw [show ((a + k : Nat) : Int) = (a : Int) + (k : Int) from by omega]
      exact RD.out.set 1 _
  | none =>
    rw [rdTxt_none l a (by omega) hp] at hxr
    subst hxr
    simp only [Txt] at KR
    show Calls _ _ _ _ (OneC w g A n c none)
    have KM := hide (fun (W : World) => must_any false W)
    clear hR hr0
    go_enter Tryd.func39, Tryd.ntmps39
    go_upto_region 1 with fail
    go_cut [3, 4, 5] from 6 to 18 (fun p q r wx => p = .string ⟨#[]⟩ ∧ q = .int .i64 0 ∧ r = .int .i64 3 ∧ Ext w wx)
    case first =>
      go_region_law (go_simp; go_at_call 54; (with_reducible refine (KR.out _ HX0.out).mono ?_); rintro e x ⟨vx, rfl, hxx, rfl⟩)
      all_goals (go_wp2_with fail; go_meet; exact ⟨rfl, rfl, rfl, (Ext.drew w).trans hxx⟩)
    case rest =>
      obtain ⟨rfl, rfl, rfl, hxc⟩ := hcut
      clear c0 c1
      go_wp2_with (go_at_call 49; (with_reducible refine (KM.out _).mono ?_); rintro e x ⟨rfl, hx2⟩; have hx2 := hx2.symm; subst hx2)
      exact ⟨rfl, grown_ext (World.grownBy.refl w _) hxc, rfl⟩
end Go.Proofs.YtpdikmcaihlbaaaDoor
namespace Go.Proofs.YtpdikmcaihlbaaaDoor
open Go.RowKit

set_option maxRecDepth 20000 in
set_option maxHeartbeats 1600000 in
theorem form_any (x : Vl) (w : World) (hb : VlIn x) (hT : Tabs w) : Calls Tryd.prog 12 #[.agg #[.int .u8 x.1, .int .i64 x.2.1, .string x.2.2]] w (fun e w' => e = .returned (.bool (vOk x)) ∧ Ext w w') := by
  cases hv : vOk x with
  | false =>
    have KM := hide (fun (W : World) (hW : Ext w W) => meant_any x.1 x.2.1 x.2.2 W hb.s (hT.ext hW))
    rw [meant_no x hv] at KM
    go_enter Tryd.func12, Tryd.ntmps12
    go_wp2_with (go_at_call 28; (with_reducible refine (KM.out _ (by first | exact Ext.refl _ | exact Ext.alloc _ _)).mono ?_); rintro e w1 ⟨rfl, hx1⟩)
    go_ret
    exact ⟨rfl, by first | exact hx1 | exact (Ext.alloc _ _).trans hx1⟩
  | true =>
    obtain ⟨t, v, hm, -, -⟩ := meant_yes x hb hv
    have KM := hide (fun (W : World) (hW : Ext w W) => meant_any x.1 x.2.1 x.2.2 W hb.s (hT.ext hW))
    rw [hm] at KM
    go_enter Tryd.func12, Tryd.ntmps12
    go_wp2_with (go_at_call 28; (with_reducible refine (KM.out _ (by first | exact Ext.refl _ | exact Ext.alloc _ _)).mono ?_); rintro e w1 ⟨rfl, hx1⟩)
    go_ret
    exact ⟨rfl, by first | exact hx1 | exact (Ext.alloc _ _).trans hx1⟩
/-- A text behind its length. -/
def txtAt (l : List UInt8) (a : Nat) : Option (List UInt8 × Nat) := match l[a]? with
  | none => none
  | some x => if a + 1 + x.toNat ≤ l.length then some ((l.drop (a + 1)).take x.toNat, a + 1 + x.toNat) else none
set_option maxRecDepth 20000 in
set_option maxHeartbeats 3200000 in
theorem rowText_no (g : Nat) (A : Option Addr) (l : List UInt8) (n c a : Nat) (w0 w : World) (hr0 : Rd w0 A l) (hx : Ext w0 w) (hg : w0.heap.size ≤ g) (hn : l.length = n) (hnc : n ≤ c) (hl : n ≤ 140737488351232) (han : a ≤ n) (hR : RdrC w g A n c a) (ht : txtAt l a = none) :
    Calls Tryd.prog 50 #[.pointer (some ⟨g, 0, none⟩)] w (OneC w g A n c none) := by
  have KO := hide (one_any g A l n c a w0 w hr0 hx hg hn hnc hl han hR)
  have hnI : (n : Int) ≤ 140737488351232 := by omega
  cases hxa : l[a]? with
  | none =>
    rw [hxa] at KO
    go_enter Tryd.func50, Tryd.ntmps50
    go_wp2_with (go_at_call 48; (with_reducible refine KO.out.mono ?_); rintro e w2 ⟨hg2, rfl⟩)
    exact ⟨rfl, hg2, rfl⟩
  | some x =>
    rw [hxa] at KO
    have hxl := x.toNat_lt
    have hz : ¬ a + 1 + x.toNat ≤ n := by
      intro h
      unfold txtAt at ht
      rw [hxa] at ht
      simp only at ht
      rw [if_pos (by omega)] at ht
      cases ht
    obtain ⟨z, HZ⟩ : ∃ z, Hid (x.toNat = z) := ⟨_, hide rfl⟩
    obtain ⟨a1, HA1⟩ : ∃ a1, Hid (a + 1 = a1) := ⟨_, hide rfl⟩
    have KO2 := hide (show Calls Tryd.prog 48 #[.pointer (some ⟨g, 0, none⟩)] w (OneC w g A n c (some (.int .u8 (z : Int), a1))) from by rw [← HZ.out, ← HA1.out]; exact KO.out)
    have hz256 : z < 256 := by have := HZ.out; omega
    have ha1 : a1 ≤ n := by
      have := HA1.out
      have h2 := (List.getElem?_eq_some_iff.1 hxa).1
      omega
    have hleq : ¬ (z : Int) ≤ (n : Int) - (a1 : Int) := by have := HZ.out; have := HA1.out; omega
    have hsubw : IntKind.i64.wrap ((n : Int) - (a1 : Int)) = (n : Int) - (a1 : Int) := by rw [IntKind.wrap_i64]; omega
    have hwz : IntKind.i64.wrap (z : Int) = (z : Int) := by rw [IntKind.wrap_i64]; omega
    have KM := hide (fun (W : World) => must_any false W)
    clear KO hR hr0
    go_enter Tryd.func50, Tryd.ntmps50
    go_upto_region 2 with (go_at_call 48; (with_reducible refine KO2.out.mono ?_); rintro e w2 ⟨hg2, rfl, hr2⟩; have G2 := hide hg2; have R2 := hide (show Rw w2 g 62 [.slice A n c, .int .i64 (a1 : Int)] from hr2))
    have d0 := R2.out.cell (i := 0) rfl
    have d1 := R2.out.cell (i := 1) rfl
    rename_i hK
    refine wp_region_spE (Nat.le_refl _) [Sp.is (.int .i64 (z : Int)), Sp.is (.pointer (some ⟨g, 0, none⟩)), Sp.is (.pointer (some ⟨g, 0, none⟩)), Sp.is (.pointer (some ⟨g, 0, none⟩)), Sp.is (.slice A n c), Sp.is (.int .i64 (n : Int)), Sp.is (.pointer (some ⟨g, 0, none⟩)), Sp.is (.pointer (some ⟨g, 0, none⟩)), Sp.is (.pointer (some ⟨g, 1, none⟩)), Sp.is (.int .i64 (a1 : Int)), Sp.is (.int .i64 ((n : Int) - (a1 : Int))), Sp.is (.bool false), Sp.never] (by kernel_rfl) (by kernel_rfl) ?_ ?_
    · refine ⟨?_, ?_, ?_, ?_, ?_, ?_, ?_, ?_, ?_, ?_, ?_, ?_, ?_, trivial⟩
      · intro az wz hx hB hk H
        refine .inl ⟨wanted_none rfl, ?_⟩
        refine gives_move rfl ?_
        rw [(ev (show az.tmps[3]? = some (.int .i64 (z : Int)) from hk 3 rfl))]
        exact ⟨Grw.refl _ _, rfl⟩
      · intro az wz hx hB hk H
        refine .inl ⟨wanted_none rfl, ?_⟩
        refine gives_move rfl ?_
        rw [(ev (show az.tmps[0]? = some (.pointer (some ⟨g, 0, none⟩)) from hk 0 rfl))]
        exact ⟨Grw.refl _ _, rfl⟩
      · intro az wz hx hB hk H
        obtain ⟨v8, h8, s8⟩ := H 1 rfl _ rfl 8 rfl
        obtain rfl : v8 = .pointer (some ⟨g, 0, none⟩) := s8
        refine .inl ⟨wanted_none rfl, ?_⟩
        refine gives_of_run (w' := wz) (v := .pointer (some ⟨g, 0, none⟩)) ?_ ⟨Grw.refl _ _, rfl⟩
        simp [execOp, go_sem, h8]
      · intro az wz hx hB hk H
        obtain ⟨v9, h9, s9⟩ := H 2 rfl _ rfl 9 rfl
        obtain rfl : v9 = .pointer (some ⟨g, 0, none⟩) := s9
        refine .inl ⟨wanted_none rfl, ?_⟩
        refine gives_of_run (w' := wz) (v := .pointer (some ⟨g, 0, none⟩)) ?_ ⟨Grw.refl _ _, rfl⟩
        simp [execOp, go_sem, h9]
      · intro az wz hx hB hk H
        obtain ⟨v10, h10, s10⟩ := H 3 rfl _ rfl 10 rfl
        obtain rfl : v10 = .pointer (some ⟨g, 0, none⟩) := s10
        have hcc := hx.keeps.cell d0
        refine .inl ⟨wanted_none rfl, ?_⟩
        refine gives_of_run (w' := wz) (v := .slice A n c) ?_ ⟨Grw.refl _ _, rfl⟩
        simp [execOp, go_sem, h10, hcc]
      · intro az wz hx hB hk H
        obtain ⟨v11, h11, s11⟩ := H 4 rfl _ rfl 11 rfl
        obtain rfl : v11 = .slice A n c := s11
        refine .inl ⟨wanted_none rfl, ?_⟩
        refine gives_of_run (w' := wz) (v := .int .i64 (n : Int)) ?_ ⟨Grw.refl _ _, rfl⟩
        simp [execOp, go_sem, h11]
      · intro az wz hx hB hk H
        refine .inl ⟨wanted_none rfl, ?_⟩
        refine gives_move rfl ?_
        rw [(ev (show az.tmps[0]? = some (.pointer (some ⟨g, 0, none⟩)) from hk 0 rfl))]
        exact ⟨Grw.refl _ _, rfl⟩
      · intro az wz hx hB hk H
        obtain ⟨v13, h13, s13⟩ := H 6 rfl _ rfl 13 rfl
        obtain rfl : v13 = .pointer (some ⟨g, 0, none⟩) := s13
        refine .inl ⟨wanted_none rfl, ?_⟩
        refine gives_of_run (w' := wz) (v := .pointer (some ⟨g, 0, none⟩)) ?_ ⟨Grw.refl _ _, rfl⟩
        simp [execOp, go_sem, h13]
      · intro az wz hx hB hk H
        obtain ⟨v14, h14, s14⟩ := H 7 rfl _ rfl 14 rfl
        obtain rfl : v14 = .pointer (some ⟨g, 0, none⟩) := s14
        refine .inl ⟨wanted_none rfl, ?_⟩
        refine gives_of_run (w' := wz) (v := .pointer (some ⟨g, 1, none⟩)) ?_ ⟨Grw.refl _ _, rfl⟩
        simp [execOp, go_sem, h14]
      · intro az wz hx hB hk H
        obtain ⟨v15, h15, s15⟩ := H 8 rfl _ rfl 15 rfl
        obtain rfl : v15 = .pointer (some ⟨g, 1, none⟩) := s15
        have hcc := hx.keeps.cell d1
        refine .inl ⟨wanted_none rfl, ?_⟩
        refine gives_of_run (w' := wz) (v := .int .i64 (a1 : Int)) ?_ ⟨Grw.refl _ _, rfl⟩
        simp [execOp, go_sem, h15, hcc]
      · intro az wz hx hB hk H
        obtain ⟨v12, h12, s12⟩ := H 5 rfl _ rfl 12 rfl
        obtain rfl : v12 = .int .i64 (n : Int) := s12
        obtain ⟨v16, h16, s16⟩ := H 9 rfl _ rfl 16 rfl
        obtain rfl : v16 = .int .i64 (a1 : Int) := s16
        refine .inl ⟨wanted_none rfl, ?_⟩
        refine gives_of_run (w' := wz) (v := .int .i64 ((n : Int) - (a1 : Int))) ?_ ⟨Grw.refl _ _, rfl⟩
        simp [execOp, go_sem, h12, h16, hsubw]
      · intro az wz hx hB hk H
        obtain ⟨v7, h7, s7⟩ := H 0 rfl _ rfl 7 rfl
        obtain rfl : v7 = .int .i64 (z : Int) := s7
        obtain ⟨v17, h17, s17⟩ := H 10 rfl _ rfl 17 rfl
        obtain rfl : v17 = .int .i64 ((n : Int) - (a1 : Int)) := s17
        refine .inl ⟨wanted_none rfl, ?_⟩
        refine gives_of_run (w' := wz) (v := .bool false) ?_ ⟨Grw.refl _ _, rfl⟩
        simp [execOp, go_sem, h7, h17, hleq]
      · intro az wz hx hB hk H
        obtain ⟨v18, h18, s18⟩ := H 11 rfl _ rfl 18 rfl
        obtain rfl : v18 = .bool false := s18
        refine .inr (.inr ⟨wanted_none rfl, fun K hdf => ?_⟩)
        refine wp_call_ends rfl Tryd.call49 (by simp only [List.map_toArray, List.map_cons, List.map_nil, ev h18]) ((KM.out wz).mono ?_)
        rintro e w9 ⟨rfl, rfl⟩
        exact ⟨_, rfl, hdf, ⟨grown_ext G2.out ((Ext.refl _).grw hx), rfl⟩⟩
    · intro az wz hx hd hs hv hsame
      obtain ⟨v, _, hf⟩ := hv 12 _ 19 rfl rfl
      exact hf.elim
end Go.Proofs.YtpdikmcaihlbaaaDoor
namespace Go.Proofs.YtpdikmcaihlbaaaDoor
open Go.RowKit

set_option maxRecDepth 20000 in
set_option maxHeartbeats 3200000 in
theorem rowText_yes (g : Nat) (A : Option Addr) (l : List UInt8) (n c a : Nat) (w0 w : World) (hr0 : Rd w0 A l) (hx : Ext w0 w) (hg : w0.heap.size ≤ g) (hn : l.length = n) (hnc : n ≤ c) (hl : n ≤ 140737488351232) (han : a ≤ n) (hR : RdrC w g A n c a) (tx : List UInt8) (k : Nat) (ht : txtAt l a = some (tx, k)) :
    Calls Tryd.prog 50 #[.pointer (some ⟨g, 0, none⟩)] w (OneC w g A n c (some (.string ⟨tx.toArray⟩, k))) := by
  have KO := hide (one_any g A l n c a w0 w hr0 hx hg hn hnc hl han hR)
  have hnI : (n : Int) ≤ 140737488351232 := by omega
  cases hxa : l[a]? with
  | none => unfold txtAt at ht; rw [hxa] at ht; cases ht
  | some x =>
    rw [hxa] at KO
    have hxl := x.toNat_lt
    obtain ⟨z, HZ⟩ : ∃ z, Hid (x.toNat = z) := ⟨_, hide rfl⟩
    obtain ⟨a1, HA1⟩ : ∃ a1, Hid (a + 1 = a1) := ⟨_, hide rfl⟩
    have hfit : a1 + z ≤ n ∧ tx = (l.drop a1).take z ∧ k = a1 + z := by
      unfold txtAt at ht
      rw [hxa] at ht
      simp only [HZ.out, HA1.out] at ht
      by_cases h : a1 + z ≤ l.length
      · rw [if_pos h] at ht
        injection ht with ht
        injection ht with h1 h2
        exact ⟨by omega, h1.symm, h2.symm⟩
      · rw [if_neg h] at ht; cases ht
    obtain ⟨hfit, htx, rfl⟩ := hfit
    obtain ⟨b, off, hA, hc⟩ := hr0 (by intro h; rw [h] at hxa; cases hxa)
    subst hA
    have hbw : b < w0.heap.size := by
      have h0 := hc a x hxa
      rcases Nat.lt_or_ge b w0.heap.size with h | h
      · exact h
      · have h2 : w0.heap[b]? = none := Array.getElem?_eq_none h
        simp [World.cell?, h2] at h0
    have KO2 := hide (show Calls Tryd.prog 48 #[.pointer (some ⟨g, 0, none⟩)] w (OneC w g (some ⟨b, off, none⟩) n c (some (.int .u8 (z : Int), a1))) from by rw [← HZ.out, ← HA1.out]; exact KO.out)
    have hz256 : z < 256 := by have := HZ.out; omega
    have hleq : (z : Int) ≤ (n : Int) - (a1 : Int) := by omega
    have hwz : IntKind.i64.wrap (z : Int) = (z : Int) := by rw [IntKind.wrap_i64]; omega
    have hsubw : IntKind.i64.wrap ((n : Int) - (a1 : Int)) = (n : Int) - (a1 : Int) := by rw [IntKind.wrap_i64]; omega
    have hsubw2 : IntKind.i64.wrap ((a1 : Int) + (z : Int) - (z : Int)) = (a1 : Int) := by rw [IntKind.wrap_i64]; omega
    have hdec : decide ((z : Int) ≤ (n : Int) - (a1 : Int)) = true := decide_eq_true hleq
    have KM := hide (fun (W : World) => must_any true W)
    have RB : Hid (Rd w0 (some ⟨b, off, none⟩) l) := hide (fun hne => ⟨b, off, rfl, hc⟩)
    have HTX : Hid (tx.length = z) := hide (by rw [htx, List.length_take, List.length_drop]; omega)
    have HW0 := hide hx
    have HGB : Hid (b ≠ g ∧ w0.heap.size ≤ g) := hide ⟨by omega, hg⟩
    clear KO hR hc
    go_enter Tryd.func50, Tryd.ntmps50
    go_upto_region 2 with (go_at_call 48; (with_reducible refine KO2.out.mono ?_); rintro e w2 ⟨hg2, rfl, hr2⟩; have G2 := hide hg2; have R2 := hide (show Rw w2 g 62 [.slice (some ⟨b, off, none⟩) n c, .int .i64 (a1 : Int)] from hr2))
    have d0 := R2.out.cell (i := 0) rfl
    have d1 := R2.out.cell (i := 1) rfl
    go_cut [19] from 7 to 19 (fun _ wx => Ext w2 wx)
    case first =>
      go_region_law (go_simp; go_at_call 49; (with_reducible refine (KM.out _).mono ?_); rintro e x ⟨rfl, rfl⟩)
      all_goals (go_wp2_with fail; go_meet; exact Ext.drew w2)
    case rest =>
      have hxc : Ext w2 wc := hcut
      clear hcut d0 d1
      have RD := hide (R2.out.ext hxc)
      have df := RD.out.frozen 1
      have d1 := RD.out.cell (i := 1) rfl
      go_upto_region 4 with fail
      have hG3 : w.grownBy wc (some g) := grown_ext G2.out hxc
      obtain ⟨w3, hR3, hG4, hgg⟩ : ∃ W, Rw W g 62 [.slice (some ⟨b, off, none⟩) n c, .int .i64 ((a1 : Int) + (z : Int))] ∧ w.grownBy W (some g) ∧ wc.setCell ⟨g, 1, none⟩ (.int .i64 ((a1 : Int) + (z : Int))) = W := ⟨wc.setCell ⟨g, 1, none⟩ (.int .i64 ((a1 : Int) + (z : Int))), RD.out.set 1 _, ⟨hG3.os, hG3.tape, hG3.output, Nat.le_trans hG3.size (by simp [World.setCell]), fun k hk hne => (Below.heap_setCell wc ⟨g, 1, none⟩ _ k (fun e => hne (by simp only at e; rw [e]))).trans (hG3.block k hk hne)⟩, rfl⟩
      rw [hgg]
      have R3 := hide hR3
      have G4 := hide hG4
      have hx3 : Ext w0 w3 := ⟨hG4.os.trans HW0.out.os, hG4.tape.trans HW0.out.tape, hG4.output.trans HW0.out.output, Nat.le_trans HW0.out.size hG4.size, fun j hj => (hG4.block j (Nat.lt_of_lt_of_le hj HW0.out.size) (fun e => by injection e with e; have := HGB.out.2; omega)).trans (HW0.out.block j hj)⟩
      have hrs : Rd w3.drew (some ⟨b, off + a1, none⟩) tx := by
        rw [htx]
        have h := (Rd.drop (RB.out.ext hx3) a1).take z
        rw [add_flat] at h
        exact h
      have hstr := fun c' => (show (convert 27 9 (.slice (some ⟨b, off + a1, none⟩) z c')).run Tryd.prog w3.drew = .ok (.string ⟨tx.toArray⟩) w3.drew from by
        have h := Rd.str (P := Tryd.prog) (w := w3.drew) hrs 27 9 5 c' Tryd.underlying27 Tryd.underlying5 Tryd.underlying9
        rw [HTX.out] at h
        exact h)
      have e0 := (R3.out.ext (Ext.drew w3)).cell (i := 0) rfl
      have e1 := (R3.out.ext (Ext.drew w3)).cell (i := 1) rfl
      have hsub : (a1 : Int) + (z : Int) - (z : Int) = (a1 : Int) := by omega
      have hle1 : (a1 : Int) ≤ (a1 : Int) + (z : Int) := by omega
      have hle2 : (a1 : Int) + (z : Int) ≤ (c : Int) := by omega
      clear hgg hR3 df d1 RD
      have hz2 : a1 + z - a1 = z := by omega
      have fin : ∀ (w4 : World), Ext w3 w4 → OneC w g (some ⟨b, off, none⟩) n c (some (.string ⟨tx.toArray⟩, a1 + z)) (.returned (.string ⟨tx.toArray⟩)) w4 := fun w4 h4 => ⟨grown_ext G4.out h4, rfl, by
        unfold RdrC
        rw [show ((a1 + z : Nat) : Int) = (a1 : Int) + (z : Int) from by omega]
        exact R3.out.ext h4⟩
      by_cases hca : c = a1
      · have hz0 : z = 0 := by omega
        have htn : tx = [] := List.eq_nil_of_length_eq_zero (by rw [HTX.out, hz0])
        have hstr0 : (convert 27 9 (.slice (some ⟨b, off, none⟩) 0 0)).run Tryd.prog w3.drew = .ok (.string ⟨tx.toArray⟩) w3.drew := by
          have h := Rd.str (P := Tryd.prog) (w := w3.drew) (A := some ⟨b, off, none⟩) (l := tx) (fun hne => absurd htn hne) 27 9 5 0 Tryd.underlying27 Tryd.underlying5 Tryd.underlying9
          rw [HTX.out, hz0] at h
          exact h
        clear htx htn
        go_region
        all_goals
          go_wp2
          go_ret
          exact fin _ (Ext.drew _)
      · have hstr1 := fun c' => (show (convert 27 9 (.slice (some ⟨b, off + a1, none⟩) (a1 + z - a1) c')).run Tryd.prog w3.drew = .ok (.string ⟨tx.toArray⟩) w3.drew from by
          rw [hz2]
          exact hstr c')
        clear htx
        go_region
        all_goals
          go_wp2
          go_ret
          exact fin _ (Ext.drew _)
end Go.Proofs.YtpdikmcaihlbaaaDoor
namespace Go.Proofs.YtpdikmcaihlbaaaDoor
open Go.RowKit

theorem grown_below {w w1 w2 : World} {g : Nat} (h : w.grownBy w1 (some g)) {b i : Nat} {v : Value} (hb : w.heap.size ≤ b) (e : w2 = w1.setCell ⟨b, i, none⟩ v) : w.grownBy w2 (some g) := by
  subst e
  exact ⟨h.os, h.tape, h.output, Nat.le_trans h.size (by simp [World.setCell]), fun k hk hne => (Below.heap_setCell w1 ⟨b, i, none⟩ v k (fun e => by simp only at e; omega)).trans (h.block k hk hne)⟩
set_option maxRecDepth 20000 in
set_option maxHeartbeats 3200000 in
theorem value_none (g : Nat) (A : Option Addr) (l : List UInt8) (n c a : Nat) (F : Value) (w0 w : World) (hr0 : Rd w0 A l) (hx : Ext w0 w) (hg : w0.heap.size ≤ g) (hgw : g < w.heap.size) (hn : l.length = n) (hnc : n ≤ c) (hl : n ≤ 140737488351232) (han : a ≤ n) (hR : RdrC w g A n c a) (hT : Tabs w0) (h0 : l[a]? = none) :
    Calls Tryd.prog 38 #[.pointer (some ⟨g, 0, none⟩), F] w (OneC w g A n c none) := by
  have hnI : (n : Int) ≤ 140737488351232 := by omega
  have HG := hide (show w0.heap.size ≤ g ∧ g < w.heap.size from ⟨hg, hgw⟩)
  have HT := hide hT
  have HX := hide hx
  have KO := hide (one_any g A l n c a w0 (w.alloc (.cells #[.int .u8 0, .int .i64 0, .string ⟨#[]⟩] 26)) hr0 (hx.trans (Ext.alloc _ _)) hg hn hnc hl han (Rw.ext hR (Ext.alloc _ _)))
  have BZ := hide (Rw.new w 26 [.int .u8 0, .int .i64 0, .string ⟨#[]⟩])
  rw [h0] at KO
  go_enter Tryd.func38, Tryd.ntmps38
  go_wp2_with (go_at_call 48; (with_reducible refine KO.out.mono ?_); rintro e w2 ⟨hg2, rfl⟩)
  exact ⟨rfl, ⟨hg2.os, hg2.tape, hg2.output, Nat.le_trans (Ext.alloc w _).size hg2.size, fun k hk hne => (hg2.block k (Nat.lt_of_lt_of_le hk (Ext.alloc w _).size) hne).trans ((Ext.alloc w _).block k hk)⟩, rfl⟩
set_option maxRecDepth 20000 in
set_option maxHeartbeats 3200000 in
theorem value_else (g : Nat) (A : Option Addr) (l : List UInt8) (n c a : Nat) (F : Value) (w0 w : World) (hr0 : Rd w0 A l) (hx : Ext w0 w) (hg : w0.heap.size ≤ g) (hgw : g < w.heap.size) (hn : l.length = n) (hnc : n ≤ c) (hl : n ≤ 140737488351232) (han : a ≤ n) (hR : RdrC w g A n c a) (hT : Tabs w0) (x : UInt8) (h0 : l[a]? = some x) (h1 : x.toNat ≠ 1) (h2 : x.toNat ≠ 2) (h3 : x.toNat ≠ 3) :
    Calls Tryd.prog 38 #[.pointer (some ⟨g, 0, none⟩), F] w (OneC w g A n c (if vOk ((x.toNat : Int), 0, noS) = true then some (.agg #[.int .u8 (x.toNat : Int), .int .i64 0, .string noS], a + 1) else none)) := by
  have hnI : (n : Int) ≤ 140737488351232 := by omega
  have HG := hide (show w0.heap.size ≤ g ∧ g < w.heap.size from ⟨hg, hgw⟩)
  have HT := hide hT
  have HX := hide hx
  have KO := hide (one_any g A l n c a w0 (w.alloc (.cells #[.int .u8 0, .int .i64 0, .string ⟨#[]⟩] 26)) hr0 (hx.trans (Ext.alloc _ _)) hg hn hnc hl han (Rw.ext hR (Ext.alloc _ _)))
  have BZ := hide (Rw.new w 26 [.int .u8 0, .int .i64 0, .string ⟨#[]⟩])
  rw [h0] at KO
  obtain ⟨k, HK⟩ : ∃ k, Hid (x.toNat = k) := ⟨_, hide rfl⟩
  have hxl := x.toNat_lt
  rw [HK.out] at h1 h2 h3 hxl
  have hb1 : ((k : Int) == 1) = false := by simp; omega
  have hb2 : ((k : Int) == 2) = false := by simp; omega
  have hb3 : ((k : Int) == 3) = false := by simp; omega
  rw [HK.out]
  have KO2 := hide (show Calls Tryd.prog 48 #[.pointer (some ⟨g, 0, none⟩)] (w.alloc (.cells #[.int .u8 0, .int .i64 0, .string ⟨#[]⟩] 26)) (OneC (w.alloc (.cells #[.int .u8 0, .int .i64 0, .string ⟨#[]⟩] 26)) g A n c (some (.int .u8 (k : Int), a + 1))) from by rw [← HK.out]; exact KO.out)
  clear KO hR hr0 hx hg hgw
  go_enter Tryd.func38, Tryd.ntmps38
  go_upto_region 2 with (go_at_call 48; (with_reducible refine KO2.out.mono ?_); rintro e w2 ⟨hg2, rfl, hr2⟩; have G2 := hide hg2; have R2 := hide hr2)
  obtain ⟨W3, hX3, hV3, hgg⟩ : ∃ W, Ext w2 W ∧ Rw W w2.heap.size 26 [.int .u8 (k : Int), .int .i64 0, .string ⟨#[]⟩] ∧ w2.alloc (.cells #[.int .u8 (k : Int), .int .i64 0, .string ⟨#[]⟩] 26) = W := ⟨_, Ext.alloc _ _, Rw.new _ _ _, rfl⟩
  rw [hgg]
  obtain ⟨hv, HHV⟩ : ∃ h, Hid (w2.heap.size = h) := ⟨_, hide rfl⟩
  rw [HHV.out] at hV3 ⊢
  have Z2 := hide (show Rw w2 w.heap.size 26 [.int .u8 0, .int .i64 0, .string ⟨#[]⟩] from (G2.out.block w.heap.size BZ.out.lt (fun e => by injection e with e; have := HG.out.2; omega)).trans BZ.out)
  have V3 := hide hV3
  have Z3 := hide (Z2.out.ext hX3)
  have R3 := hide (Rw.ext R2.out hX3)
  have G3 := hide (show w.grownBy W3 (some g) from grown_ext ⟨G2.out.os, G2.out.tape, G2.out.output, Nat.le_trans (Ext.alloc w _).size G2.out.size, fun k hk hne => (G2.out.block k (Nat.lt_of_lt_of_le hk (Ext.alloc w _).size) hne).trans ((Ext.alloc w _).block k hk)⟩ hX3)
  have X03 := hide (show Ext w0 W3 from ⟨G3.out.os.trans HX.out.os, G3.out.tape.trans HX.out.tape, G3.out.output.trans HX.out.output, Nat.le_trans HX.out.size G3.out.size, fun j hj => (G3.out.block j (Nat.lt_of_lt_of_le hj HX.out.size) (fun e => by injection e with e; have := HG.out.1; omega)).trans (HX.out.block j hj)⟩)
  have HNE := hide (show g ≠ w.heap.size ∧ hv ≠ w.heap.size from ⟨by have := HG.out.2; omega, by have h1 := Z2.out.lt; have := HHV.out; omega⟩)
  clear hgg hX3 hV3 G2 R2 Z2 KO2
  have d0 := V3.out.cell (i := 0) rfl
  have d1 := V3.out.cell (i := 1) rfl
  have d2 := V3.out.cell (i := 2) rfl
  have KF := hide (form_any ((k : Int), 0, noS) W3 ⟨⟨by simp only; omega, by simp only; omega⟩, ⟨by simp only; omega, by simp only; omega⟩, by show (0 : Nat) ≤ _; omega⟩ (HT.out.ext X03.out))
  cases hvo : vOk ((k : Int), 0, noS) with
  | false =>
    rw [hvo] at KF
    have KM := hide (fun (W : World) => must_any false W)
    rw [if_neg (by decide)]
    unfold noS at KF
    go_wp2_with (first
      | (go_at_call 12; (with_reducible refine KF.out.mono ?_); rintro e w4 ⟨rfl, hx4⟩)
      | (go_at_call 49; (with_reducible refine (KM.out _).mono ?_); rintro e x ⟨rfl, hx5⟩; have hx5 := hx5.symm; subst hx5))
    exact ⟨rfl, grown_ext G3.out hx4, rfl⟩
  | true =>
    rw [hvo] at KF
    have KM := hide (fun (W : World) => must_any true W)
    rw [if_pos rfl]
    unfold noS at KF
    go_upto_region 10 with (first
      | (go_at_call 12; (with_reducible refine KF.out.mono ?_); rintro e w4 ⟨rfl, hx4⟩; have V4 := hide (V3.out.ext hx4); have Z4 := hide (Z3.out.ext hx4); have R4 := hide (R3.out.ext hx4); have G4 := hide (grown_ext G3.out hx4))
      | (go_at_call 49; (with_reducible refine (KM.out _).mono ?_); rintro e x ⟨rfl, hx5⟩; have hx5 := hx5.symm; subst hx5))
    clear d0 d1 d2
    have e0 := V4.out.cell (i := 0) rfl
    have e1 := V4.out.cell (i := 1) rfl
    have e2 := V4.out.cell (i := 2) rfl
    have f0 := Z4.out.cell (i := 0) rfl
    have f1 := Z4.out.cell (i := 1) rfl
    have f2 := Z4.out.cell (i := 2) rfl
    have g0 := Z4.out.frozen 0
    have g1 := Z4.out.frozen 1
    have g2 := Z4.out.frozen 2
    go_wp2
    have ZS := ((Z4.out.set 0 (.int .u8 (k : Int))).set 1 (.int .i64 0)).set 2 (.string ⟨#[]⟩)
    have RS := ((R4.out.far (p := ⟨w.heap.size, 0, none⟩) HNE.out.1 (.int .u8 (k : Int))).far (p := ⟨w.heap.size, 1, none⟩) HNE.out.1 (.int .i64 0)).far (p := ⟨w.heap.size, 2, none⟩) HNE.out.1 (.string ⟨#[]⟩)
    have GS := grown_below (grown_below (grown_below G4.out (Nat.le_refl _) (i := 0) (v := .int .u8 (k : Int)) rfl) (Nat.le_refl _) (i := 1) (v := .int .i64 0) rfl) (Nat.le_refl _) (i := 2) (v := .string ⟨#[]⟩) rfl
    obtain ⟨wz, hwz⟩ : ∃ wz, ((w4.setCell ⟨w.heap.size, 0, none⟩ (.int .u8 (k : Int))).setCell ⟨w.heap.size, 1, none⟩ (.int .i64 0)).setCell ⟨w.heap.size, 2, none⟩ (.string ⟨#[]⟩) = wz := ⟨_, rfl⟩
    rw [hwz] at ZS RS GS ⊢
    have y0 := ZS.cell (i := 0) rfl
    have y1 := ZS.cell (i := 1) rfl
    have y2 := ZS.cell (i := 2) rfl
    refine bodyPost_ret (v := .agg #[.int .u8 (k : Int), .int .i64 0, .string ⟨#[]⟩]) (by simp [results, Tryd.results38, go_sem, y0, y1, y2]; try rfl) rfl ?_
    exact ⟨GS, rfl, RS⟩
end Go.Proofs.YtpdikmcaihlbaaaDoor
