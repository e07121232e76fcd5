/-
  The words of roles: contracts of the program's functions and of the document's own; the law's walk.
-/
import Derived.Test.YtakibimkkgcneaaDoorRolL0
import Derived.Test.YtakibimkkgcneaaDoorByt
namespace Go.Proofs.YtakibimkkgcneaaDoor
open Go.RowKit

/-- 'roles.words' holds what the program's text lays. -/
structure Tab (w : World) : Prop where
  c0 : w.cell? ⟨0, 0, none⟩ = some (.int .u8 1)
  c1 : w.cell? ⟨0, 1, none⟩ = some (.string ⟨#[117, 115, 101, 114]⟩)
  c2 : w.cell? ⟨0, 2, none⟩ = some (.int .u8 2)
  c3 : w.cell? ⟨0, 3, none⟩ = some (.string ⟨#[99, 108, 101, 114, 107]⟩)
  c4 : w.cell? ⟨0, 4, none⟩ = some (.int .u8 3)
  c5 : w.cell? ⟨0, 5, none⟩ = some (.string ⟨#[97, 100, 109, 105, 110]⟩)
theorem Tab.ext {w w' : World} (h : Tab w) (hx : Ext w w') : Tab w' := ⟨(Ext.keeps hx).cell h.c0, (Ext.keeps hx).cell h.c1, (Ext.keeps hx).cell h.c2, (Ext.keeps hx).cell h.c3, (Ext.keeps hx).cell h.c4, (Ext.keeps hx).cell h.c5⟩
def wordB (r : Int) : ByteArray := if r = 1 then ⟨#[117, 115, 101, 114]⟩ else if r = 2 then ⟨#[99, 108, 101, 114, 107]⟩ else if r = 3 then ⟨#[97, 100, 109, 105, 110]⟩ else ⟨#[]⟩
def Ret0 (w : World) (v : Value) (e : Ending) (w' : World) : Prop := e = .returned v ∧ Ext w w'

theorem idx0 (W : World) : (Instr.index 31 (.agg #[.int .u8 1, .string ⟨#[117, 115, 101, 114]⟩, .int .u8 2, .string ⟨#[99, 108, 101, 114, 107]⟩, .int .u8 3, .string ⟨#[97, 100, 109, 105, 110]⟩]) (.int .i64 0)).run Tryd.prog W = .ok (.agg #[.int .u8 1, .string ⟨#[117, 115, 101, 114]⟩]) W := by kernel_rfl
theorem idx1 (W : World) : (Instr.index 31 (.agg #[.int .u8 1, .string ⟨#[117, 115, 101, 114]⟩, .int .u8 2, .string ⟨#[99, 108, 101, 114, 107]⟩, .int .u8 3, .string ⟨#[97, 100, 109, 105, 110]⟩]) (.int .i64 1)).run Tryd.prog W = .ok (.agg #[.int .u8 2, .string ⟨#[99, 108, 101, 114, 107]⟩]) W := by kernel_rfl
theorem idx2 (W : World) : (Instr.index 31 (.agg #[.int .u8 1, .string ⟨#[117, 115, 101, 114]⟩, .int .u8 2, .string ⟨#[99, 108, 101, 114, 107]⟩, .int .u8 3, .string ⟨#[97, 100, 109, 105, 110]⟩]) (.int .i64 2)).run Tryd.prog W = .ok (.agg #[.int .u8 3, .string ⟨#[97, 100, 109, 105, 110]⟩]) W := by kernel_rfl
set_option maxRecDepth 20000 in
set_option maxHeartbeats 2000000 in
theorem pword_any (r : Int) (w : World) (hT : Tab w) : Calls Tryd.prog 5 #[.int .u8 r] w (Ret0 w (.string (wordB r))) := by
  obtain ⟨W, HW⟩ : ∃ W, Hid (wordB r = W) := ⟨_, rfl⟩
  rw [HW.out]
  have i0 := idx0
  have i1 := idx1
  have i2 := idx2
  have c0 := hT.c0
  have c1 := hT.c1
  have c2 := hT.c2
  have c3 := hT.c3
  have c4 := hT.c4
  have c5 := hT.c5
  go_enter Tryd.func5, Tryd.ntmps5
  go_wp2
  go_loopw [6] (fun i wr => ((i = .int .i64 0) ∨ (i = .int .i64 1 ∧ ¬ r = 1) ∨ (i = .int .i64 2 ∧ ¬ r = 1 ∧ ¬ r = 2) ∨ (i = .int .i64 3 ∧ ¬ r = 1 ∧ ¬ r = 2 ∧ ¬ r = 3)) ∧ Ext w wr) (fun i _ => 3 - (intOf i).toNat)
  case atStart => exact ⟨.inl rfl, Ext.refl _⟩
  case round =>
    obtain ⟨rfl | ⟨rfl, h1⟩ | ⟨rfl, h1, h2⟩ | ⟨rfl, h1, h2, h3⟩, hx⟩ := hrel
    · skip
      by_cases h1 : r = 1
      · have hb : ((1 : Int) == r) = true := by rw [h1]; rfl
        have HL : Hid (W = ⟨#[117, 115, 101, 114]⟩) := hide (by have := HW.out; unfold wordB at this; rw [if_pos h1] at this; exact this.symm)
        clear h1
        go_wp2
        go_ret
        rw [HL.out]
        exact ⟨rfl, hx.trans (Ext.alloc _ _)⟩
      · have hb : ((1 : Int) == r) = false := beq_eq_false_iff_ne.2 fun e => h1 e.symm
        have H := hide h1
        clear h1
        go_wp2
        have h1 := H.out
        refine ⟨⟨?_, hx.trans (Ext.alloc _ _)⟩, by simp [intOf]⟩
        exact .inr (.inl ⟨rfl, h1⟩)
    · skip
      by_cases h2 : r = 2
      · have hb : ((2 : Int) == r) = true := by rw [h2]; rfl
        have HL : Hid (W = ⟨#[99, 108, 101, 114, 107]⟩) := hide (by have := HW.out; unfold wordB at this; rw [if_neg h1] at this; rw [if_pos h2] at this; exact this.symm)
        clear h2
        go_wp2
        go_ret
        rw [HL.out]
        exact ⟨rfl, hx.trans (Ext.alloc _ _)⟩
      · have hb : ((2 : Int) == r) = false := beq_eq_false_iff_ne.2 fun e => h2 e.symm
        have H := hide h2
        clear h2
        go_wp2
        have h2 := H.out
        refine ⟨⟨?_, hx.trans (Ext.alloc _ _)⟩, by simp [intOf]⟩
        exact .inr (.inr (.inl ⟨rfl, h1, h2⟩))
    · skip
      by_cases h3 : r = 3
      · have hb : ((3 : Int) == r) = true := by rw [h3]; rfl
        have HL : Hid (W = ⟨#[97, 100, 109, 105, 110]⟩) := hide (by have := HW.out; unfold wordB at this; rw [if_neg h1] at this; rw [if_neg h2] at this; rw [if_pos h3] at this; exact this.symm)
        clear h3
        go_wp2
        go_ret
        rw [HL.out]
        exact ⟨rfl, hx.trans (Ext.alloc _ _)⟩
      · have hb : ((3 : Int) == r) = false := beq_eq_false_iff_ne.2 fun e => h3 e.symm
        have H := hide h3
        clear h3
        go_wp2
        have h3 := H.out
        refine ⟨⟨?_, hx.trans (Ext.alloc _ _)⟩, by simp [intOf]⟩
        exact .inr (.inr (.inr ⟨rfl, h1, h2, h3⟩))
    · have HL : Hid (W = ⟨#[]⟩) := hide (by have := HW.out; unfold wordB at this; rw [if_neg h1, if_neg h2, if_neg h3] at this; exact this.symm)
      clear h1 h2 h3
      go_wp2
      go_ret
      rw [HL.out]
      exact ⟨rfl, hx⟩

theorem str_ne {l : List UInt8} {s : ByteArray} (h : ¬ s = ⟨l.toArray⟩) : (l == s.toList) = false := by
  rw [beq_eq_false_iff_ne]
  intro e
  apply h
  rw [e, ByteArray.toList_eq]
theorem str_ne2 {l : List UInt8} {s : ByteArray} (h : ¬ s = ⟨l.toArray⟩) : (l == s.toList) = false := str_ne h
/-- The role of a word, the error. -/
def roleS (s : ByteArray) : Int × Int := if s = ⟨#[117, 115, 101, 114]⟩ then (1, 0) else if s = ⟨#[99, 108, 101, 114, 107]⟩ then (2, 0) else if s = ⟨#[97, 100, 109, 105, 110]⟩ then (3, 0) else (0, 4)
set_option maxRecDepth 20000 in
set_option maxHeartbeats 2000000 in
theorem parse_any (s : ByteArray) (w : World) (hT : Tab w) : Calls Tryd.prog 7 #[.string s] w (Ret0 w (.tuple #[.int .u8 (roleS s).1, .int .i64 (roleS s).2])) := by
  obtain ⟨W, V, HW⟩ : ∃ W V, Hid (roleS s = (W, V)) := ⟨_, _, hide rfl⟩
  rw [HW.out]
  have i0 := idx0
  have i1 := idx1
  have i2 := idx2
  have c0 := hT.c0
  have c1 := hT.c1
  have c2 := hT.c2
  have c3 := hT.c3
  have c4 := hT.c4
  have c5 := hT.c5
  go_enter Tryd.func7, Tryd.ntmps7
  go_wp2
  go_loopw [7] (fun i wr => ((i = .int .i64 0) ∨ (i = .int .i64 1 ∧ ¬ s = ⟨#[117, 115, 101, 114]⟩) ∨ (i = .int .i64 2 ∧ ¬ s = ⟨#[117, 115, 101, 114]⟩ ∧ ¬ s = ⟨#[99, 108, 101, 114, 107]⟩) ∨ (i = .int .i64 3 ∧ ¬ s = ⟨#[117, 115, 101, 114]⟩ ∧ ¬ s = ⟨#[99, 108, 101, 114, 107]⟩ ∧ ¬ s = ⟨#[97, 100, 109, 105, 110]⟩)) ∧ Ext w wr) (fun i _ => 3 - (intOf i).toNat)
  case atStart => exact ⟨.inl rfl, Ext.refl _⟩
  case round =>
    obtain ⟨rfl | ⟨rfl, h1⟩ | ⟨rfl, h1, h2⟩ | ⟨rfl, h1, h2, h3⟩, hx⟩ := hrel
    · by_cases h1 : s = ⟨#[117, 115, 101, 114]⟩
      · have HL : Hid ((W, V) = ((1 : Int), (0 : Int))) := hide (by have := HW.out; unfold roleS at this; rw [if_pos h1] at this; exact this.symm)
        obtain ⟨e1, e2⟩ := Prod.mk.inj HL.out
        have HE1 := hide e1
        have HE2 := hide e2
        clear HL HW
        clear e1 e2
        subst h1
        go_wp2
        go_ret2
        rw [HE1.out, HE2.out]
        exact ⟨rfl, hx.trans (Ext.alloc _ _)⟩
      · have hb := str_ne (l := [117, 115, 101, 114]) h1
        have H := hide h1
        clear h1
        go_wp2
        have h1 := H.out
        exact ⟨⟨.inr (.inl ⟨rfl, h1⟩), hx.trans (Ext.alloc _ _)⟩, by simp [intOf]⟩
    · by_cases h2 : s = ⟨#[99, 108, 101, 114, 107]⟩
      · have HL : Hid ((W, V) = ((2 : Int), (0 : Int))) := hide (by have := HW.out; unfold roleS at this; rw [if_neg h1] at this; rw [if_pos h2] at this; exact this.symm)
        obtain ⟨e1, e2⟩ := Prod.mk.inj HL.out
        have HE1 := hide e1
        have HE2 := hide e2
        clear HL HW h1 
        clear e1 e2
        subst h2
        go_wp2
        go_ret2
        rw [HE1.out, HE2.out]
        exact ⟨rfl, hx.trans (Ext.alloc _ _)⟩
      · have hb := str_ne (l := [99, 108, 101, 114, 107]) h2
        have H := hide h2
        clear h2
        go_wp2
        have h2 := H.out
        exact ⟨⟨.inr (.inr (.inl ⟨rfl, h1, h2⟩)), hx.trans (Ext.alloc _ _)⟩, by simp [intOf]⟩
    · by_cases h3 : s = ⟨#[97, 100, 109, 105, 110]⟩
      · have HL : Hid ((W, V) = ((3 : Int), (0 : Int))) := hide (by have := HW.out; unfold roleS at this; rw [if_neg h1] at this; rw [if_neg h2] at this; rw [if_pos h3] at this; exact this.symm)
        obtain ⟨e1, e2⟩ := Prod.mk.inj HL.out
        have HE1 := hide e1
        have HE2 := hide e2
        clear HL HW h1 h2
        clear e1 e2
        subst h3
        go_wp2
        go_ret2
        rw [HE1.out, HE2.out]
        exact ⟨rfl, hx.trans (Ext.alloc _ _)⟩
      · have hb := str_ne (l := [97, 100, 109, 105, 110]) h3
        have H := hide h3
        clear h3
        go_wp2
        have h3 := H.out
        exact ⟨⟨.inr (.inr (.inr ⟨rfl, h1, h2, h3⟩)), hx.trans (Ext.alloc _ _)⟩, by simp [intOf]⟩
    · have HL : Hid ((W, V) = ((0 : Int), (4 : Int))) := hide (by have := HW.out; unfold roleS at this; rw [if_neg h1, if_neg h2, if_neg h3] at this; exact this.symm)
      obtain ⟨e1, e2⟩ := Prod.mk.inj HL.out
      have HE1 := hide e1
      have HE2 := hide e2
      clear HL HW h1 h2 h3 e1 e2
      go_wp2
      go_ret2
      rw [HE1.out, HE2.out]
      exact ⟨rfl, hx⟩

theorem rword_any (r : Int) (w : World) : Calls Tryd.prog 6 #[.int .u8 r] w fun e w' => e = .returned (.string (wordB r)) ∧ w = w' := by
  unfold wordB
  go_enter Tryd.func6, Tryd.ntmps6
  go_wp2
  all_goals
    go_ret
    simp only [beq_iff_eq, beq_eq_false_iff_ne, ne_eq] at *
    (try subst r)
    simp_all
theorem word_lits : wordB 1 = ⟨#[117, 115, 101, 114]⟩ ∧ wordB 2 = ⟨#[99, 108, 101, 114, 107]⟩ ∧ wordB 3 = ⟨#[97, 100, 109, 105, 110]⟩ := by decide
set_option maxRecDepth 20000 in
set_option maxHeartbeats 4000000 in
theorem rolesWords_walk (r : Int) (s : ByteArray) (w : World) (hT : Tab w) : Calls Tryd.prog 3 #[.int .u8 r, .string s] w (Ret w (Is (.bool true))) := by
  obtain ⟨x, HX⟩ : ∃ x, Hid (wordB r = x) := ⟨_, rfl⟩
  have KW := hide fun V (h : Ext w V) => pword_any r V (hT.ext h)
  have KR := hide fun V => rword_any r V
  rw [HX.out] at KW KR
  have KP := hide fun V (h : Ext w V) => parse_any s V (hT.ext h)
  have K1 := hide fun V => rword_any 1 V
  have K2 := hide fun V => rword_any 2 V
  have K3 := hide fun V => rword_any 3 V
  rw [word_lits.1] at K1
  rw [word_lits.2.1] at K2
  rw [word_lits.2.2] at K3
  obtain ⟨Q, V, HQ⟩ : ∃ Q V, Hid (roleS s = (Q, V)) := ⟨_, _, hide rfl⟩
  rw [HQ.out] at KP
  go_enter Tryd.func3, Tryd.ntmps3
  go_wp2_with (first
    | (go_at_call 4; refine (awake_any _).mono ?_; rintro e w1 ⟨rfl, rfl⟩)
    | (go_at_call 5; refine (KW.out _ (Ext.refl _)).mono ?_; rintro e w2 ⟨rfl, hx2⟩)
    | (go_at_call 6; (with_reducible refine (KR.out _).mono ?_); rintro e w3 ⟨rfl, rfl⟩)
    | (go_at_call 7; refine (KP.out _ hx2).mono ?_; rintro e w4 ⟨rfl, hx4⟩))
  go_loopw [7] (fun i wr => ((i = .int .i64 1) ∨ (i = .int .i64 2 ∧ ¬ s = ⟨#[117, 115, 101, 114]⟩) ∨ (i = .int .i64 3 ∧ ¬ s = ⟨#[117, 115, 101, 114]⟩ ∧ ¬ s = ⟨#[99, 108, 101, 114, 107]⟩) ∨ (i = .int .i64 4 ∧ ¬ s = ⟨#[117, 115, 101, 114]⟩ ∧ ¬ s = ⟨#[99, 108, 101, 114, 107]⟩ ∧ ¬ s = ⟨#[97, 100, 109, 105, 110]⟩)) ∧ Ext w wr) (fun i _ => 4 - (intOf i).toNat)
  case atStart => exact ⟨.inl rfl, hx2.trans hx4⟩
  case round =>
    obtain ⟨rfl | ⟨rfl, h1⟩ | ⟨rfl, h1, h2⟩ | ⟨rfl, h1, h2, h3⟩, hx⟩ := hrel
    · by_cases h1 : s = ⟨#[117, 115, 101, 114]⟩
      · have HL : Hid ((Q, V) = ((1 : Int), (0 : Int))) := hide (by have := HQ.out; unfold roleS at this; rw [if_pos h1] at this; exact this.symm)
        obtain ⟨rfl, rfl⟩ := Prod.mk.inj HL.out
        clear HL HQ KP
        subst h1
        go_wp2_with (go_at_call 6; (with_reducible refine (K1.out _).mono ?_); rintro e w5 ⟨rfl, rfl⟩)
        go_ret
        exact Ret.mk hx rfl
      · have hb := str_ne (l := [117, 115, 101, 114]) h1
        have H := hide h1
        clear h1
        go_wp2_with (go_at_call 6; (with_reducible refine (K1.out _).mono ?_); rintro e w5 ⟨rfl, rfl⟩)
        have h1 := H.out
        exact ⟨⟨.inr (.inl ⟨rfl, h1⟩), hx⟩, by simp [intOf]⟩
    · by_cases h2 : s = ⟨#[99, 108, 101, 114, 107]⟩
      · have HL : Hid ((Q, V) = ((2 : Int), (0 : Int))) := hide (by have := HQ.out; unfold roleS at this; rw [if_neg h1] at this; rw [if_pos h2] at this; exact this.symm)
        obtain ⟨rfl, rfl⟩ := Prod.mk.inj HL.out
        clear HL HQ KP h1
        subst h2
        go_wp2_with (go_at_call 6; (with_reducible refine (K2.out _).mono ?_); rintro e w5 ⟨rfl, rfl⟩)
        go_ret
        exact Ret.mk hx rfl
      · have hb := str_ne (l := [99, 108, 101, 114, 107]) h2
        have H := hide h2
        clear h2
        go_wp2_with (go_at_call 6; (with_reducible refine (K2.out _).mono ?_); rintro e w5 ⟨rfl, rfl⟩)
        have h2 := H.out
        exact ⟨⟨.inr (.inr (.inl ⟨rfl, h1, h2⟩)), hx⟩, by simp [intOf]⟩
    · by_cases h3 : s = ⟨#[97, 100, 109, 105, 110]⟩
      · have HL : Hid ((Q, V) = ((3 : Int), (0 : Int))) := hide (by have := HQ.out; unfold roleS at this; rw [if_neg h1] at this; rw [if_neg h2] at this; rw [if_pos h3] at this; exact this.symm)
        obtain ⟨rfl, rfl⟩ := Prod.mk.inj HL.out
        clear HL HQ KP h1 h2
        subst h3
        go_wp2_with (go_at_call 6; (with_reducible refine (K3.out _).mono ?_); rintro e w5 ⟨rfl, rfl⟩)
        go_ret
        exact Ret.mk hx rfl
      · have hb := str_ne (l := [97, 100, 109, 105, 110]) h3
        have H := hide h3
        clear h3
        go_wp2_with (go_at_call 6; (with_reducible refine (K3.out _).mono ?_); rintro e w5 ⟨rfl, rfl⟩)
        have h3 := H.out
        exact ⟨⟨.inr (.inr (.inr ⟨rfl, h1, h2, h3⟩)), hx⟩, by simp [intOf]⟩
    · have HL : Hid ((Q, V) = ((0 : Int), (4 : Int))) := hide (by have := HQ.out; unfold roleS at this; rw [if_neg h1, if_neg h2, if_neg h3] at this; exact this.symm)
      obtain ⟨rfl, rfl⟩ := Prod.mk.inj HL.out
      clear HL HQ KP h1 h2 h3
      go_wp2
      go_ret
      exact Ret.mk hx rfl
end Go.Proofs.YtakibimkkgcneaaDoor
