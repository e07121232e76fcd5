/-
  The pool's calls beside the law's model.
  The model's put.
  The model's do: a call.
  The law's model of a pool while it is laid: four slices that grow by append.
  The model laid, and how the law starts (no walk).
-/
import Derived.StillTailTactics
import Derived.Maps.AppendAt
import Derived.Test.YtnkcneccolbbdaaGreatDoorPkPlAl11
import Derived.Test.YtnkcneccolbbdaaGreatDoorPkPlAl12
set_option linter.unusedVariables false
set_option linter.unusedSimpArgs false

namespace Go.Proofs.YtnkcneccolbbdaaGreatDoor
open Go.RowKit

section
variable {w0 w w' : World} {b g q p c c' : Nat} {m : Mb} {n fr most : Nat} {l : Nat → List UInt8 × Nat} {pins : Nat → Nat} {S S1 : St} {i : Nat}
theorem Pv.mono (h : Pv S n fr l pins c) (hc : c ≤ c') : Pv S n fr l pins c' := ⟨h.good, h.way, h.fit.mono hc, h.pages, h.frames, h.at_, h.dur, h.lcn, h.lst, h.held, h.sure480, h.cont, h.pins, h.cnt, h.dW, h.dF⟩
theorem Pv.page_out (h : Pv S n fr l pins c) : pageR S (n : Int) = (1, S) := by
  unfold pageR
  rw [if_pos (.inr (by rw [h.pages]; exact Int.le_refl _))]
theorem unpE_is (h : Pv S n fr l pins c) (hi : i < n) : unpE S.P i = if pins i = 0 then 10 else 0 := by
  rw [h.pins i hi]
  unfold unpE pinOf
  cases S.P.H i with
  | none => rfl
  | some f => rfl
theorem Pv.unpin (h : Pv S n fr l pins c) (hi : i < n) (hp : pins i < 1000000) : if pins i = 0 then unpS S i = S else (unpS S i).L = S.L ∧ Pv (unpS S i) n fr l (fun j => if j = i then pins i - 1 else pins j) c := by
  have h0 := h.pins i hi
  unfold pinOf at h0
  cases hH : S.P.H i with
  | none =>
    rw [hH] at h0
    have h0 : pins i = 0 := h0
    rw [if_pos h0]
    unfold unpS
    rw [hH]
  | some f =>
    rw [hH] at h0
    have h0 : pins i = f.pins := h0
    by_cases e : pins i = 0
    · rw [if_pos e]
      unfold unpS
      rw [hH]
      show (if f.pins = 0 then S else _) = S
      rw [if_pos (by omega)]
    · rw [if_neg e]
      have hS : unpS S i = setS S i { f with pins := f.pins - 1 } := by
        unfold unpS
        rw [hH]
        show (if f.pins = 0 then S else _) = _
        rw [if_neg (by omega)]
      rw [hS, h0]
      exact ⟨rfl, h.setPins hi hH (f.pins - 1) (by omega)⟩
theorem ml_flush (h : Ml w0 w b g q p m n most l pins S) (pv : Pv S n fr l pins c) (hc : c ≤ 90000) (hf : fr ≤ 5) (hT : Tab w0) : Calls Tryz.prog 11 #[.pointer (some ⟨p, 0, none⟩)] w (fun e w' => e = .returned (.int .i64 0) ∧ ∃ S', Ml w0 w' b g q p m n most l pins S' ∧ Pv S' n fr l pins (c + 216) ∧ endOf S'.L = endOf S.L ∧ Clean S' ∧ S'.D.pen = []) := by
  obtain ⟨K, h1, h2, h3⟩ := h
  have hn : S.P.n ≤ 5 := by have := pv.fit.pool.cnt; rw [pv.frames] at this; omega
  have hm : S.P.n * (S.L.hd.cn + 3) ≤ 5 * (40 + 3) := by rw [pv.lcn]; exact Nat.mul_le_mul_right _ hn
  refine (wk_flush h1 pv.fit (by omega) hT pv.good.awk.1).mono fun e w' hh => ?_
  obtain ⟨zs, hz, hzn, he, hw⟩ := hh
  have hzl : zs.length * 43 ≤ 5 * 43 := Nat.mul_le_mul_right _ (by omega)
  obtain ⟨f1, f2, f3, f4, f5⟩ := pv.flush hz (by omega)
  rw [f1] at he
  exact ⟨he, _, Ml.of h2 h3 hw, f2.mono (by omega), f3, f4, f5⟩
theorem ml_lflush (h : Ml w0 w b g q p m n most l pins S) (pv : Pv S n fr l pins c) (hc : c ≤ 90000) (hT : Tab w0) : Calls Tryz.prog 26 #[.pointer (some ⟨q, 0, none⟩)] w (fun e w' => e = .returned (.int .i64 0) ∧ ∃ S', Ml w0 w' b g q p m n most l pins S' ∧ Pv S' n fr l pins (c + 44) ∧ endOf S'.L = endOf S.L) := by
  obtain ⟨K, h1, h2, h3⟩ := h
  refine (wk_lflush h1 pv.fit (by omega) hT).mono fun e w' hh => ?_
  obtain ⟨he, hw⟩ := hh
  obtain ⟨f1, f2, f3⟩ := pv.lflush (by omega)
  rw [f1] at he
  exact ⟨he, _, Ml.of h2 h3 hw, f2, f3⟩
theorem ml_dirty (h : Ml w0 w b g q p m n most l pins S) (pv : Pv S n fr l pins c) (hc : c < 100000) (hcl : Clean S) : Calls Tryz.prog 12 #[.pointer (some ⟨p, 0, none⟩)] w (fun e w' => ∃ A cc, e = .returned (.slice A 0 cc) ∧ ∃ S', Ml w0 w' b g q p m n most l pins S' ∧ Pv S' n fr l pins c ∧ endOf S'.L = endOf S.L ∧ Clean S' ∧ S'.D = S.D) := by
  obtain ⟨K, h1, h2, h3⟩ := h
  refine (wk_dirty h1 pv.fit hc sortC).mono fun e w' hh => ?_
  obtain ⟨A, cc, zs, he, hz, hd, hw⟩ := hh
  have hzs := dil_clean (S := { S with P := settleP S.L S.P }) (clean_settle hcl) hz
  subst hzs
  exact ⟨A, cc, he, _, Ml.of h2 h3 hw, pv.settle, rfl, clean_settle hcl, rfl⟩
/-- May a page be had without going ahead of what is pinned? -/
def May (pins : Nat → Nat) (n most i : Nat) : Prop := 0 < pins i ∨ cP pins n < most
theorem page_way (pv : Pv S n fr l pins c) (hc : c ≤ 90000) (hi : i < n) : (∃ S1 f, pageR S (i : Int) = (0, S1) ∧ Pv S1 n fr l pins (c + 44) ∧ endOf S1.L = endOf S.L ∧ S1.P.H i = some f ∧ (f.by_, f.last) = l i ∧ f.pins = pins i) ∨ (¬ May pins n fr i ∧ pageR S (i : Int) = (9, S)) := by
  by_cases hh : Had S i
  · obtain ⟨a1, a2, a3, f, a4, a5, a6⟩ := pv.page (by omega) hi hh
    exact .inl ⟨_, f, Prod.ext a1 rfl, a2, a3, a4, a5, a6⟩
  · exact .inr ⟨fun hm => hh (pv.may hi hm), pv.not_had hi hh⟩
theorem ml_read (h : Ml w0 w b g q p m n most l pins S) (pv : Pv S n fr l pins c) (hc : c ≤ 90000) (hT : Tab w0) (hi : i < n) : Calls Tryz.prog 16 #[.pointer (some ⟨p, 0, none⟩), .int .i64 (i : Int)] w (fun e w' =>
    (∃ A cc S', e = .returned (.tuple #[.slice A 504 cc, .int .u64 ((l i).2 : Int), .int .i64 0]) ∧ Rd w' A (l i).1 ∧ Ml w0 w' b g q p m n most l pins S' ∧ Pv S' n fr l pins (c + 44) ∧ endOf S'.L = endOf S.L) ∨
    (¬ May pins n fr i ∧ e = .returned (.tuple #[.slice none 0 0, .int .u64 0, .int .i64 9]) ∧ Ml w0 w' b g q p m n most l pins S)) := by
  obtain ⟨K, h1, h2, h3⟩ := h
  rcases page_way pv hc hi with ⟨S1, f, a1, a2, a3, a4, a5, a6⟩ | ⟨a1, a2⟩
  · refine (wk_read h1 pv.fit (by omega) hT (i : Int) S1 a1).mono fun e w' hh => ?_
    obtain ⟨f', A, cc, hf, he, hr, hw⟩ := hh
    rw [Int.toNat_natCast, a4] at hf
    injection hf with hf
    subst hf
    have e1 : f.by_ = (l i).1 := congrArg Prod.fst a5
    have e2 : f.last = (l i).2 := congrArg Prod.snd a5
    rw [e1] at hr
    rw [e2] at he
    exact .inl ⟨A, cc, S1, he, hr, Ml.of h2 h3 hw, a2, a3⟩
  · refine (wk_read_not h1 pv.fit (by omega) hT (i : Int) 9 S a2 (by decide)).mono fun e w' hh => ?_
    exact .inr ⟨a1, hh.1, Ml.of h2 h3 hh.2⟩
theorem ml_read_out (h : Ml w0 w b g q p m n most l pins S) (pv : Pv S n fr l pins c) (hc : c ≤ 90000) (hT : Tab w0) : Calls Tryz.prog 16 #[.pointer (some ⟨p, 0, none⟩), .int .i64 (n : Int)] w (fun e w' => e = .returned (.tuple #[.slice none 0 0, .int .u64 0, .int .i64 1]) ∧ Ml w0 w' b g q p m n most l pins S) := by
  obtain ⟨K, h1, h2, h3⟩ := h
  refine (wk_read_not h1 pv.fit (by omega) hT (n : Int) 1 S pv.page_out (by decide)).mono fun e w' hh => ?_
  exact ⟨hh.1, Ml.of h2 h3 hh.2⟩
theorem ml_pin (h : Ml w0 w b g q p m n most l pins S) (pv : Pv S n fr l pins c) (hc : c ≤ 90000) (hT : Tab w0) (hi : i < n) (hp : pins i < 100000) : Calls Tryz.prog 17 #[.pointer (some ⟨p, 0, none⟩), .int .i64 (i : Int)] w (fun e w' =>
    (e = .returned (.int .i64 0) ∧ ∃ S', Ml w0 w' b g q p m n most l pins S' ∧ Pv S' n fr l (fun j => if j = i then pins i + 1 else pins j) (c + 44) ∧ endOf S'.L = endOf S.L) ∨
    (¬ May pins n fr i ∧ e = .returned (.int .i64 9) ∧ Ml w0 w' b g q p m n most l pins S)) := by
  obtain ⟨K, h1, h2, h3⟩ := h
  rcases page_way pv hc hi with ⟨S1, f, a1, a2, a3, a4, a5, a6⟩ | ⟨a1, a2⟩
  · refine (wk_pin h1 pv.fit (by omega) hT (i : Int) S1 a1).mono fun e w' hh => ?_
    obtain ⟨f', hf, he, hw⟩ := hh
    rw [Int.toNat_natCast] at hf hw
    rw [a4] at hf
    injection hf with hf
    subst hf
    have h5 := a2.setPins hi a4 (f.pins + 1) (by omega)
    rw [a6] at h5
    rw [a6] at hw
    exact .inl ⟨he, _, Ml.of h2 h3 hw, h5, a3⟩
  · refine (wk_pin_not h1 pv.fit (by omega) hT (i : Int) 9 S a2 (by decide)).mono fun e w' hh => ?_
    exact .inr ⟨a1, hh.1, Ml.of h2 h3 hh.2⟩
theorem ml_pin_out (h : Ml w0 w b g q p m n most l pins S) (pv : Pv S n fr l pins c) (hc : c ≤ 90000) (hT : Tab w0) : Calls Tryz.prog 17 #[.pointer (some ⟨p, 0, none⟩), .int .i64 (n : Int)] w (fun e w' => e = .returned (.int .i64 1) ∧ Ml w0 w' b g q p m n most l pins S) := by
  obtain ⟨K, h1, h2, h3⟩ := h
  refine (wk_pin_not h1 pv.fit (by omega) hT (n : Int) 1 S pv.page_out (by decide)).mono fun e w' hh => ?_
  exact ⟨hh.1, Ml.of h2 h3 hh.2⟩
theorem ml_unpin (h : Ml w0 w b g q p m n most l pins S) (pv : Pv S n fr l pins c) (hi : i < n) (hp : pins i < 100000) : Calls Tryz.prog 18 #[.pointer (some ⟨p, 0, none⟩), .int .i64 (i : Int)] w (fun e w' =>
    if pins i = 0 then e = .returned (.int .i64 10) ∧ Ml w0 w' b g q p m n most l pins S else e = .returned (.int .i64 0) ∧ ∃ S', Ml w0 w' b g q p m n most l pins S' ∧ Pv S' n fr l (fun j => if j = i then pins i - 1 else pins j) c ∧ endOf S'.L = endOf S.L) := by
  obtain ⟨K, h1, h2, h3⟩ := h
  refine (wk_unpin h1 pv.fit i (by rw [pv.pages]; exact hi)).mono fun e w' hh => ?_
  obtain ⟨he, hw⟩ := hh
  have hu := pv.unpin hi (by omega)
  rw [unpE_is pv hi] at he
  by_cases e0 : pins i = 0
  · rw [if_pos e0] at he hu ⊢
    rw [hu] at hw
    exact ⟨he, Ml.of h2 h3 hw⟩
  · rw [if_neg e0] at he hu ⊢
    exact ⟨he, _, Ml.of h2 h3 hw, hu.2, by rw [hu.1]⟩
set_option maxRecDepth 20000 in
set_option maxHeartbeats 1600000 in
theorem unpin_out {Z : Pk} {D : Dk} {L : Lg} {P : Pl} (h : PlAt w0 w Z D L P) (x : Int) (hx : (P.pages : Int) ≤ x) : Calls Tryz.prog 18 #[.pointer (some ⟨Z.q, 0, none⟩), .int .i64 x] w (Same w (.int .i64 1)) := by
  have KH := phas_any h x
  rw [show (decide ((0 : Int) ≤ x) && decide (x < (P.pages : Int))) = false by rw [decide_eq_true (by omega), decide_eq_false (by omega)]; rfl] at KH
  have KH := hide KH
  clear h hx
  go_enter Tryz.func18, Tryz.ntmps18
  go_wp2_with (go_at_call 42; (with_reducible refine KH.out.mono ?_); rintro e w2 ⟨rfl, hw2⟩; subst hw2)
  go_ret
  exact ⟨rfl, rfl⟩
theorem ml_unpin_out (h : Ml w0 w b g q p m n most l pins S) (pv : Pv S n fr l pins c) : Calls Tryz.prog 18 #[.pointer (some ⟨p, 0, none⟩), .int .i64 (n : Int)] w (fun e w' => e = .returned (.int .i64 1) ∧ Ml w0 w' b g q p m n most l pins S) := by
  have h0 := h
  obtain ⟨K, h1, h2, h3⟩ := h
  obtain ⟨Z, k1, k2, k3, k4, k5, k6⟩ := h1
  subst k4
  refine (unpin_out k1 (n : Int) (by rw [pv.pages]; exact Int.le_refl _)).mono fun e w' hh => ?_
  obtain ⟨he, rfl⟩ := hh
  exact ⟨he, h0⟩
/-- The page as it is behind a write. -/
def wrL (l : Nat → List UInt8 × Nat) (i off : Nat) (x : List UInt8) (lsn : Nat) : Nat → List UInt8 × Nat := fun j => if j = i then (over (l i).1 off x, lsn) else l j
theorem ml_write (h : Ml w0 w b g q p m n most l pins S) (pv : Pv S n fr l pins c) (hc : c ≤ 90000) (hT : Tab w0) (hi : i < n) (off : Nat) (A : Option Addr) (x : List UInt8) (k cc : Nat) (hr : Rd w0 A x) (hx : x.length = k) (hm : off + k ≤ 504) (lsn : Nat) (hl : lsn < endOf S.L) (hl2 : (l i).2 ≤ lsn) (hl3 : 0 < lsn) (hb : endOf S.L < 1000000000) :
    Calls Tryz.prog 15 #[.pointer (some ⟨p, 0, none⟩), .int .i64 (i : Int), .int .i64 (off : Int), .slice A k cc, .int .u64 (lsn : Int)] w (fun e w' =>
    (e = .returned (.int .i64 0) ∧ ∃ S', Ml w0 w' b g q p m n most l pins S' ∧ Pv S' n fr (wrL l i off x lsn) pins (c + 44) ∧ endOf S'.L = endOf S.L) ∨
    (¬ May pins n fr i ∧ e = .returned (.int .i64 9) ∧ Ml w0 w' b g q p m n most l pins S)) := by
  obtain ⟨K, h1, h2, h3⟩ := h
  rcases page_way pv hc hi with ⟨S1, f, a1, a2, a3, a4, a5, a6⟩ | ⟨a1, a2⟩
  · refine (wk_write_out h1 pv.fit (by omega) hT (i : Int) S1 a1 off A x k cc hr hx hm lsn).mono fun e w' hh => ?_
    obtain ⟨f', hf, he, hw⟩ := hh
    rw [Int.toNat_natCast] at hf hw
    rw [a4] at hf
    injection hf with hf
    subst hf
    have h5 := a2.write hi a4 off x lsn (by rw [hx]; exact hm) (by rw [a3]; exact hl) hl2 hl3 (by rw [a3]; exact hb)
    exact .inl ⟨he, _, Ml.of h2 h3 hw, h5, a3⟩
  · refine (wk_write_not h1 pv.fit (by omega) hT (i : Int) 9 S a2 (by decide) off A k cc hm lsn).mono fun e w' hh => ?_
    exact .inr ⟨a1, hh.1, Ml.of h2 h3 hh.2⟩
theorem ml_write_out (h : Ml w0 w b g q p m n most l pins S) (pv : Pv S n fr l pins c) (hc : c ≤ 90000) (hT : Tab w0) (off : Nat) (A : Option Addr) (k cc : Nat) (hm : off + k ≤ 504) (lsn : Int) :
    Calls Tryz.prog 15 #[.pointer (some ⟨p, 0, none⟩), .int .i64 (n : Int), .int .i64 (off : Int), .slice A k cc, .int .u64 lsn] w (fun e w' => e = .returned (.int .i64 1) ∧ Ml w0 w' b g q p m n most l pins S) := by
  obtain ⟨K, h1, h2, h3⟩ := h
  refine (wk_write_not h1 pv.fit (by omega) hT (n : Int) 1 S pv.page_out (by decide) off A k cc hm lsn).mono fun e w' hh => ?_
  exact ⟨hh.1, Ml.of h2 h3 hh.2⟩
theorem ml_append (h : Ml w0 w b g q p m n most l pins S) (pv : Pv S n fr l pins c) (o : Obj) (x : List UInt8) (k cc : Nat) (hr : Rd (w.alloc o) (some ⟨w.heap.size, 0, none⟩) x) (hx : x.length = k) (h1 : 0 < k) (h2 : k ≤ 1200) (he : endOf S.L + (k + 2) ≤ 480 + 480 * 40) :
    Calls Tryz.prog 19 #[.pointer (some ⟨q, 0, none⟩), .slice (some ⟨w.heap.size, 0, none⟩) k cc, .int .i64 0] (w.alloc o) (fun e w' => e = .returned (.tuple #[.int .u64 (endOf S.L : Int), .int .i64 0]) ∧ ∃ S', Ml w0 w' b g q p m n most l pins S' ∧ Pv S' n fr l pins c ∧ endOf S'.L = endOf S.L + (k + 2)) := by
  obtain ⟨K, k1, k2, k3⟩ := h
  obtain ⟨a1, a2⟩ := pv.append x (by rw [hx]; exact he)
  rw [hx] at a2
  refine (wk_append k1 pv.fit o x k cc hr hx h1 h2 (by rw [pv.lst]; decide) ?_).mono fun e w' hh => ?_
  · have e1 := pv.lst
    have e2 := pv.lcn
    have e3 := pv.held
    unfold roomOf
    rw [e1, e2, e3]
    omega
  · exact ⟨hh.1, _, Ml.of k2 k3 hh.2, a1, a2⟩
end
end Go.Proofs.YtnkcneccolbbdaaGreatDoor
namespace Go.Proofs.YtnkcneccolbbdaaGreatDoor
open Go.RowKit

section
variable {w0 w w' : World} {b g q p c c' : Nat} {m : Mb} {n fr most : Nat} {l : Nat → List UInt8 × Nat} {pins : Nat → Nat} {S S1 : St} {i : Nat} {x : List UInt8}
theorem pv_pos (pv : Pv S n fr l pins c) : 0 < endOf S.L := by
  have h1 := pv.good.pos
  have h2 := pv.good.sure
  omega
set_option maxRecDepth 20000 in
set_option maxHeartbeats 6400000 in
theorem mput_any (h : Ml w0 w b g q p m n most l pins S) (pv : Pv S n fr l pins c) (hc : c ≤ 80000) (hn : n ≤ 8) (hT : Tab w0) (he : endOf S.L ≤ 10000) (kd pg ov : Nat) (P : Option Addr) (k cp : Nat) (hov : ov < 65536) (hr : Rd w0 P x) (hx : x.length = k) (hk : k ≤ 140737488355328) (i : Nat) (inB : Bool) (wt : Int) (hw1 : inB = true → i < n ∧ (wt = 0 ∨ wt = 9) ∧ (¬ May pins n fr i → wt = 9)) (hw2 : inB = false → i = n ∧ wt = 1) :
    Calls Tryz.prog 25 #[.pointer (some ⟨m.gm, 0, none⟩), .pointer (some ⟨b, 0, none⟩), .agg #[.int .u8 (kd : Int), .int .u8 (pg : Int), .int .u16 (ov : Int), .slice P k cp], .int .i64 (i : Int), .bool inB, .int .i64 wt] w (fun e w' => e = .returned (.bool true) ∧ ∃ l' S', Ml w0 w' b g q p m n most l' pins S' ∧ Pv S' n fr l' pins (c + 44) ∧ endOf S'.L = endOf S.L + 3) := by
  obtain ⟨off, HOFF⟩ : ∃ off, Hid (ov % 510 = off) := ⟨_, hide rfl⟩
  have HOB : Hid (off < 510) := hide (by have := HOFF.out; omega)
  have hw : IntKind.i64.wrap (ov : Int) = (ov : Int) := by rw [IntKind.wrap_i64]; omega
  have hmo : (ov : Int) % 510 = (off : Int) := by have := HOFF.out; omega
  have hmw : IntKind.i64.wrap (off : Int) = (off : Int) := by rw [IntKind.wrap_i64]; have := HOB.out; omega
  obtain ⟨en, HEN⟩ : ∃ en, Hid (endOf S.L = en) := ⟨_, hide rfl⟩
  have HBR : Hid (∀ W : World, (Instr.buildSlice 32 1 #[(0, .int .u8 114)]).run Tryz.prog W = .ok (.slice (some ⟨W.heap.size, 0, none⟩) 1 1) (W.alloc (.cells #[.int .u8 114] 5))) := hide (fun W => by kernel_rfl)
  obtain ⟨gA, HGA⟩ : ∃ gA, Hid (w.heap.size = gA) := ⟨_, hide rfl⟩
  obtain ⟨w1, HW1⟩ : ∃ w1, Hid (w.alloc (.cells #[.int .u8 (kd : Int), .int .u8 (pg : Int), .int .u16 (ov : Int), .slice P k cp] 37) = w1) := ⟨_, hide rfl⟩
  have hmore := h.more 37 [.int .u8 (kd : Int), .int .u8 (pg : Int), .int .u16 (ov : Int), .slice P k cp]
  obtain ⟨m1, HM1⟩ : ∃ m1 : Mb, Hid ({ m with xs := (w.heap.size, 37, [.int .u8 (kd : Int), .int .u8 (pg : Int), .int .u16 (ov : Int), .slice P k cp]) :: m.xs } = m1) := ⟨_, hide rfl⟩
  have HGM : Hid (m1.gm = m.gm) := hide (by rw [← HM1.out])
  have HLS : Hid (∀ W l' S', Ml w0 W b g q p m1 n most l' pins S' → Ml w0 W b g q p m n most l' pins S') := hide (fun W l' S' hh => by rw [← HM1.out] at hh; exact hh.less (fun a ha => List.mem_cons_of_mem _ ha))
  have HXM : Hid ((gA, 37, [.int .u8 (kd : Int), .int .u8 (pg : Int), .int .u16 (ov : Int), .slice P k cp]) ∈ m1.xs) := hide (by rw [← HM1.out, ← HGA.out]; exact List.mem_cons_self ..)
  rw [HM1.out] at hmore
  have H1 : Hid (Ml w0 w1 b g q p m1 n most l pins S) := hide (by rw [← HW1.out]; exact hmore)
  have HCA : Hid (∀ W l' S', Ml w0 W b g q p m1 n most l' pins S' → W.cell? ⟨gA, 3, none⟩ = some (.slice P k cp)) := hide (fun W l' S' hh => hh.xcell (a := (gA, _, _)) HXM.out (j := 3) rfl)
  have HCA2 : Hid (w1.cell? ⟨gA, 2, none⟩ = some (.int .u16 (ov : Int))) := hide (H1.out.xcell (a := (gA, _, _)) HXM.out (j := 2) rfl)
  have KA : Hid (∀ W (fz : Nat × Nat), Ext w1 W → Calls Tryz.prog 19 #[.pointer (some ⟨q, 0, none⟩), .slice (some ⟨W.heap.size, 0, none⟩) 1 1, .int .i64 0] (W.alloc (.cells #[.int .u8 114] 5 fz)) (fun e w' => e = .returned (.tuple #[.int .u64 (en : Int), .int .i64 0]) ∧ ∃ S', Ml w0 w' b g q p m1 n most l pins S' ∧ Pv S' n fr l pins c ∧ endOf S'.L = en + 3)) := hide (fun W fz hW => by
    have k0 := ml_append (H1.out.ext_ hW) pv _ [114] 1 1 (frc_bytes 114 fz W) rfl (by decide) (by decide) (by omega)
    rw [HEN.out] at k0
    exact k0)
  have HLB : Hid (∀ j, j < n → (l j).2 < en) := hide (fun j hj => by rw [← HEN.out]; exact pv.last hj)
  have HPO : Hid (0 < en ∧ en ≤ 10000) := hide (by rw [← HEN.out]; exact ⟨pv_pos pv, he⟩)
  have KW : Hid (∀ W S', Ml w0 W b g q p m1 n most l pins S' → Pv S' n fr l pins c → endOf S'.L = en + 3 → off + k ≤ 504 → Calls Tryz.prog 15 #[.pointer (some ⟨p, 0, none⟩), .int .i64 (i : Int), .int .i64 (off : Int), .slice P k cp, .int .u64 (en : Int)] W (fun e w' =>
    (e = .returned (.int .i64 0) ∧ inB = true ∧ (wt = 0 ∨ wt = 9) ∧ i < n ∧ ∃ S'', Ml w0 w' b g q p m1 n most l pins S'' ∧ Pv S'' n fr (wrL l i off x en) pins (c + 44) ∧ endOf S''.L = en + 3) ∨
    (e = .returned (.int .i64 wt) ∧ (wt = 9 ∨ wt = 1) ∧ Ml w0 w' b g q p m1 n most l pins S'))) := hide (fun W S' hm pv' hen hok => by
    cases hb : inB with
    | true =>
      obtain ⟨a1, a2, a3⟩ := hw1 hb
      refine (ml_write hm pv' (by omega) hT a1 off P x k cp hr hx hok en (by omega) (by have := HLB.out i a1; omega) HPO.out.1 (by have := HPO.out; omega)).mono fun e w' hh => ?_
      rcases hh with ⟨h1, S2, h2, h3, h4⟩ | ⟨h1, h2, h3⟩
      · exact .inl ⟨h1, rfl, a2, a1, S2, h2, h3, by rw [h4, hen]⟩
      · rw [a3 h1]
        exact .inr ⟨h2, .inl rfl, h3⟩
    | false =>
      obtain ⟨a1, a2⟩ := hw2 hb
      subst a1 a2
      refine (ml_write_out hm pv' (by omega) hT off P k cp hok en).mono fun e w' hh => ?_
      exact .inr ⟨hh.1, .inr rfl, hh.2⟩)
  have KM : Hid (∀ W S'', Ml w0 W b g q p m1 n most l pins S'' → i < n → off + k ≤ 504 → Calls Tryz.prog 52 #[.pointer (some ⟨m.gm, 0, none⟩), .int .i64 (i : Int), .int .i64 (off : Int), .slice P k cp, .int .u64 (en : Int)] W (fun e w' => e = .returned (.tuple #[]) ∧ Ml w0 w' b g q p m1 n most (wrL l i off x en) pins S'')) := hide (fun W S'' hm hi ho => by
    have k0 := mwrite_any hm hn hi off P cp k (hr.ext hm.ext) hx ho en
    rw [HGM.out] at k0
    exact k0)
  have e1 := H1.out.v1
  have KB : Hid (∀ W, (off > 504 ∨ 504 - (k : Int) < (off : Int)) → Calls Tryz.prog 15 #[.pointer (some ⟨p, 0, none⟩), .int .i64 (i : Int), .int .i64 (off : Int), .slice P k cp, .int .u64 (en : Int)] W (Same W (.int .i64 1))) := hide (fun W ho => wd_write_arg (i : Int) (off : Int) P k cp hk (en : Int) (by omega))
  have HKL := hide hk
  have H := hide h
  have HPV := hide pv
  have HN := hide hn
  have HR := hide (hr.ext h.ext)
  have HX := hide hx
  have HR0 := hide hr
  have hcv := fun (w : World) (C : Array Value) (n c : Nat) => Lib.run_convert_bytes_const (P := Tryz.prog) w 32 5 C n c Tryz.underlying32 Tryz.underlying5
  rw [HEN.out]
  clear h pv hc hn hT he hov hr hx hk hw1 hw2
  have ca2 := HCA2.out
  have HX1 : Hid (Ext w w1) := hide (by rw [← HW1.out]; exact Ext.alloc _ _)
  go_enter Tryz.func25, Tryz.ntmps25
  go_upto_region 1 with fail
  rw [HGA.out, HW1.out]
  go_upto_region 5 with (first
    | ((with_reducible show wpList _ _ _ (⟨some 25, _, _, _, _, _⟩ :: _) _ _); refine wpList_gives (gives_buildSlice rfl [(0, .int .u8 114)] rfl (HBR.out w1) ⟨rfl, rfl⟩) rfl ?_)
    | (go_at_call 19; (with_reducible refine (KA.out w1 _ (Ext.refl _)).mono ?_); rintro e w2 ⟨rfl, S2, hm2, hp2, he2⟩; have HM2 := hide hm2; have HP2 := hide hp2; have HE2 := hide he2; clear hm2 hp2 he2 e1 ca2))
  have d2 := HM2.out.v2
  have ca3 := HCA.out _ _ _ HM2.out
  obtain ⟨wd, HWD⟩ : ∃ wd, Hid (w2.drew = wd) := ⟨_, hide rfl⟩
  have HXD : Hid (Ext w2 wd) := hide (by rw [← HWD.out]; exact Ext.drew _)
  have HMD := hide (HM2.out.ext_ HXD.out)
  have cad := HCA.out _ _ _ HMD.out
  by_cases hbad : off > 504 ∨ 504 - (k : Int) < (off : Int)
  · have HB := hide hbad
    go_still_tail 9, (by kernel_rfl)
    change wpList _ _ _ _ _ w2.drew
    rw [HWD.out]
    go_wp2_with (go_at_call 15; (with_reducible refine (KB.out wd HB.out).mono ?_); rintro e w3 ⟨rfl, hw3⟩; subst hw3)
    all_goals
      go_ret
      exact ⟨rfl, l, S2, HLS.out _ _ _ HMD.out, HP2.out.mono (by omega), HE2.out⟩
  · have hok : off + k ≤ 504 := by omega
    have HOK := hide hok
    have hb1 : ¬ (504 : Int) < (off : Int) := by omega
    have hb1n : ¬ 504 < off := by omega
    have hb2 : ¬ 504 - (off : Int) < (k : Int) := by omega
    have hb3 : IntKind.i64.wrap (504 - (off : Int)) = 504 - (off : Int) := by rw [IntKind.wrap_i64]; omega
    have KW2 := hide (KW.out wd S2 HMD.out HP2.out HE2.out HOK.out)
    clear hbad hok
    go_still_tail 9, (by kernel_rfl)
    change wpList _ _ _ _ _ w2.drew
    rw [HWD.out]
    clear d2 ca3
    cases inB with
    | true =>
      go_upto_region 8 with (go_at_call 15; (with_reducible refine KW2.out.mono ?_); rintro e w3 (⟨rfl, -, hwt, hi, S3, hm3, hp3, he3⟩ | ⟨rfl, hwt, hm3⟩) <;> (have HM3 := hide hm3; have cae := HCA.out _ _ _ hm3; clear hm3))
      · have HP3 := hide hp3
        have HE3 := hide he3
        have KM3 := hide (KM.out w3 S3 HM3.out hi HOK.out)
        clear hp3 he3 hi cad
        rcases hwt with rfl | rfl
        · go_wp2_with (go_at_call 52; (with_reducible refine KM3.out.mono ?_); rintro e w4 ⟨rfl, hm4⟩; have HM4 := hide hm4; clear hm4)
          go_ret
          exact ⟨rfl, _, S3, HLS.out _ _ _ HM4.out, HP3.out, HE3.out⟩
        · go_wp2_with (go_at_call 52; (with_reducible refine KM3.out.mono ?_); rintro e w4 ⟨rfl, hm4⟩; have HM4 := hide hm4; clear hm4)
          go_ret
          exact ⟨rfl, _, S3, HLS.out _ _ _ HM4.out, HP3.out, HE3.out⟩
      · rcases hwt with rfl | rfl
        · go_wp2
          go_ret
          exact ⟨rfl, l, S2, HLS.out _ _ _ HM3.out, HP2.out.mono (by omega), HE2.out⟩
        · go_wp2
          go_ret
          exact ⟨rfl, l, S2, HLS.out _ _ _ HM3.out, HP2.out.mono (by omega), HE2.out⟩
    | false =>
      go_upto_region 8 with (go_at_call 15; (with_reducible refine KW2.out.mono ?_); rintro e w3 (⟨rfl, hf, hwt, hi, S3, hm3, hp3, he3⟩ | ⟨rfl, hwt, hm3⟩); (exact absurd hf (by decide)); have HM3 := hide hm3; have cae := HCA.out _ _ _ hm3; clear hm3)
      rcases hwt with rfl | rfl
      · go_wp2
        go_ret
        exact ⟨rfl, l, S2, HLS.out _ _ _ HM3.out, HP2.out.mono (by omega), HE2.out⟩
      · go_wp2
        go_ret
        exact ⟨rfl, l, S2, HLS.out _ _ _ HM3.out, HP2.out.mono (by omega), HE2.out⟩
end
end Go.Proofs.YtnkcneccolbbdaaGreatDoor
namespace Go.Proofs.YtnkcneccolbbdaaGreatDoor
open Go.RowKit

section
variable {w0 w w' : World} {b g q p c c' : Nat} {m : Mb} {n most : Nat} {l : Nat → List UInt8 × Nat} {pins : Nat → Nat} {S S1 : St} {i : Nat} {x : List UInt8}
instance (pins : Nat → Nat) (n most i : Nat) : Decidable (May pins n most i) := inferInstanceAs (Decidable (0 < pins i ∨ cP pins n < most))
/-- What is wanted of a page call. -/
def Wt (pins : Nat → Nat) (n most i : Nat) (inB : Bool) (wt : Int) : Prop := inB = true ∧ i < n ∧ (wt = 0 ∨ wt = 9) ∧ (¬ May pins n most i → wt = 9) ∨ inB = false ∧ i = n ∧ wt = 1
theorem ml_read2 {inB : Bool} {wt : Int} (h : Ml w0 w b g q p m n most l pins S) (pv : Pv S n most l pins c) (hc : c ≤ 90000) (hT : Tab w0) (hw : Wt pins n most i inB wt) : Calls Tryz.prog 16 #[.pointer (some ⟨p, 0, none⟩), .int .i64 (i : Int)] w (fun e w' =>
    (∃ A cc S', e = .returned (.tuple #[.slice A 504 cc, .int .u64 ((l i).2 : Int), .int .i64 0]) ∧ inB = true ∧ i < n ∧ (wt = 0 ∨ wt = 9) ∧ Rd w' A (l i).1 ∧ Ml w0 w' b g q p m n most l pins S' ∧ Pv S' n most l pins (c + 44) ∧ endOf S'.L = endOf S.L) ∨
    (e = .returned (.tuple #[.slice none 0 0, .int .u64 0, .int .i64 wt]) ∧ (wt = 9 ∨ wt = 1) ∧ Ml w0 w' b g q p m n most l pins S)) := by
  rcases hw with ⟨h1, h2, h3, h4⟩ | ⟨h1, rfl, rfl⟩
  · refine (ml_read h pv hc hT h2).mono fun e w' hh => ?_
    rcases hh with ⟨A, cc, S', a1, a2, a3, a4, a5⟩ | ⟨a1, a2, a3⟩
    · exact .inl ⟨A, cc, S', a1, h1, h2, h3, a2, a3, a4, a5⟩
    · rw [h4 a1]
      exact .inr ⟨a2, .inl rfl, a3⟩
  · refine (ml_read_out h pv hc hT).mono fun e w' hh => ?_
    exact .inr ⟨hh.1, .inr rfl, hh.2⟩
theorem ml_pin2 {inB : Bool} {wt : Int} (h : Ml w0 w b g q p m n most l pins S) (pv : Pv S n most l pins c) (hc : c ≤ 90000) (hT : Tab w0) (hp : ∀ j, j < n → pins j < 50000) (hw : Wt pins n most i inB wt) : Calls Tryz.prog 17 #[.pointer (some ⟨p, 0, none⟩), .int .i64 (i : Int)] w (fun e w' =>
    (e = .returned (.int .i64 0) ∧ inB = true ∧ i < n ∧ (wt = 0 ∨ wt = 9) ∧ ∃ S', Ml w0 w' b g q p m n most l pins S' ∧ Pv S' n most l (fun j => if j = i then pins i + 1 else pins j) (c + 44) ∧ endOf S'.L = endOf S.L) ∨
    (e = .returned (.int .i64 wt) ∧ (wt = 9 ∨ wt = 1) ∧ Ml w0 w' b g q p m n most l pins S)) := by
  rcases hw with ⟨h1, h2, h3, h4⟩ | ⟨h1, rfl, rfl⟩
  · refine (ml_pin h pv hc hT h2 (by have := hp i h2; omega)).mono fun e w' hh => ?_
    rcases hh with ⟨a1, a2⟩ | ⟨a1, a2, a3⟩
    · exact .inl ⟨a1, h1, h2, h3, a2⟩
    · rw [h4 a1]
      exact .inr ⟨a2, .inl rfl, a3⟩
  · refine (ml_pin_out h pv hc hT).mono fun e w' hh => ?_
    exact .inr ⟨hh.1, .inr rfl, hh.2⟩
theorem ml_unpin2 {inB : Bool} {wt : Int} (h : Ml w0 w b g q p m n most l pins S) (pv : Pv S n most l pins c) (hp : ∀ j, j < n → pins j < 50000) (hw : Wt pins n most i inB wt) : Calls Tryz.prog 18 #[.pointer (some ⟨p, 0, none⟩), .int .i64 (i : Int)] w (fun e w' =>
    (e = .returned (.int .i64 10) ∧ inB = true ∧ i < n ∧ pins i = 0 ∧ Ml w0 w' b g q p m n most l pins S) ∨
    (e = .returned (.int .i64 0) ∧ inB = true ∧ i < n ∧ pins i ≠ 0 ∧ ∃ S', Ml w0 w' b g q p m n most l pins S' ∧ Pv S' n most l (fun j => if j = i then pins i - 1 else pins j) c ∧ endOf S'.L = endOf S.L) ∨
    (e = .returned (.int .i64 1) ∧ inB = false ∧ Ml w0 w' b g q p m n most l pins S)) := by
  rcases hw with ⟨h1, h2, h3, h4⟩ | ⟨h1, rfl, rfl⟩
  · refine (ml_unpin h pv h2 (by have := hp i h2; omega)).mono fun e w' hh => ?_
    by_cases e0 : pins i = 0
    · rw [if_pos e0] at hh
      exact .inl ⟨hh.1, h1, h2, e0, hh.2⟩
    · rw [if_neg e0] at hh
      exact .inr (.inl ⟨hh.1, h1, h2, e0, hh.2⟩)
  · refine (ml_unpin_out h pv).mono fun e w' hh => ?_
    exact .inr (.inr ⟨hh.1, h1, hh.2⟩)
/-- What a call leaves. -/
def Dn (w0 w' : World) (b g q p : Nat) (m : Mb) (n most c en : Nat) (pins : Nat → Nat) : Prop := ∃ l' pins' S', Ml w0 w' b g q p m n most l' pins' S' ∧ Pv S' n most l' pins' (c + 300) ∧ endOf S'.L ≤ en + 3 ∧ ∀ j, j < n → pins' j ≤ pins j + 1
set_option maxRecDepth 20000 in
set_option maxHeartbeats 12800000 in
theorem mdo_any (h : Ml w0 w b g q p m n most l pins S) (pv : Pv S n most l pins c) (hc : c ≤ 70000) (hn : n ≤ 8) (hmo : most ≤ 5) (hT : Tab w0) (he : endOf S.L ≤ 10000) (hpb : ∀ j, j < n → pins j < 50000) (kd pg ov : Nat) (P : Option Addr) (k cp : Nat) (hkd : kd < 256) (hpg : pg < 256) (hov : ov < 65536) (hr : Rd w0 P x) (hx : x.length = k) (hk : k ≤ 140737488355328) :
    Calls Tryz.prog 7 #[.pointer (some ⟨m.gm, 0, none⟩), .pointer (some ⟨b, 0, none⟩), .agg #[.int .u8 (kd : Int), .int .u8 (pg : Int), .int .u16 (ov : Int), .slice P k cp], .int .i64 (n : Int)] w (fun e w' => e = .returned (.bool true) ∧ Dn w0 w' b g q p m n most c (endOf S.L) pins) := by
  obtain ⟨en, HEN⟩ : ∃ en, Hid (endOf S.L = en) := ⟨_, hide rfl⟩
  obtain ⟨i, HI⟩ : ∃ i, Hid (pg % (n + 1) = i) := ⟨_, hide rfl⟩
  have HIN : Hid (i ≤ n) := hide (by have := HI.out; have := Nat.mod_lt pg (show 0 < n + 1 by omega); omega)
  have hw : IntKind.i64.wrap (pg : Int) = (pg : Int) := by rw [IntKind.wrap_i64]; omega
  have hn1 : IntKind.i64.wrap ((n : Int) + 1) = (n : Int) + 1 := by rw [IntKind.wrap_i64]; omega
  have hmo1 : (pg : Int) % ((n : Int) + 1) = (i : Int) := by rw [← HI.out]; simp
  have hmo2 : (pg : Int).tmod ((n : Int) + 1) = (i : Int) := by rw [Int.tmod_eq_emod_of_nonneg (by omega)]; exact hmo1
  have hmw : IntKind.i64.wrap (i : Int) = (i : Int) := by rw [IntKind.wrap_i64]; have := HIN.out; omega
  have hn0 : ¬ ((n : Int) + 1 = 0) := by omega
  obtain ⟨gA, HGA⟩ : ∃ gA, Hid (w.heap.size = gA) := ⟨_, hide rfl⟩
  obtain ⟨w1, HW1⟩ : ∃ w1, Hid (w.alloc (.cells #[.int .u8 (kd : Int), .int .u8 (pg : Int), .int .u16 (ov : Int), .slice P k cp] 37) = w1) := ⟨_, hide rfl⟩
  have hmore := h.more 37 [.int .u8 (kd : Int), .int .u8 (pg : Int), .int .u16 (ov : Int), .slice P k cp]
  obtain ⟨m1, HM1⟩ : ∃ m1 : Mb, Hid ({ m with xs := (w.heap.size, 37, [.int .u8 (kd : Int), .int .u8 (pg : Int), .int .u16 (ov : Int), .slice P k cp]) :: m.xs } = m1) := ⟨_, hide rfl⟩
  have HGM : Hid (m1.gm = m.gm ∧ m1.bp = m.bp ∧ m1.bz = m.bz) := hide (by rw [← HM1.out]; exact ⟨rfl, rfl, rfl⟩)
  have HLS : Hid (∀ W l' p' S', Ml w0 W b g q p m1 n most l' p' S' → Ml w0 W b g q p m n most l' p' S') := hide (fun W l' p' S' hh => by rw [← HM1.out] at hh; exact hh.less (fun a ha => List.mem_cons_of_mem _ ha))
  have HXM : Hid ((gA, 37, [.int .u8 (kd : Int), .int .u8 (pg : Int), .int .u16 (ov : Int), .slice P k cp]) ∈ m1.xs) := hide (by rw [← HM1.out, ← HGA.out]; exact List.mem_cons_self ..)
  rw [HM1.out] at hmore
  have H1 : Hid (Ml w0 w1 b g q p m1 n most l pins S) := hide (by rw [← HW1.out]; exact hmore)
  have HCA : Hid (∀ W l' p' S', Ml w0 W b g q p m1 n most l' p' S' → W.cell? ⟨gA, 0, none⟩ = some (.int .u8 (kd : Int)) ∧ W.cell? ⟨gA, 1, none⟩ = some (.int .u8 (pg : Int)) ∧ W.cell? ⟨gA, 2, none⟩ = some (.int .u16 (ov : Int)) ∧ W.cell? ⟨gA, 3, none⟩ = some (.slice P k cp)) := hide (fun W l' p' S' hh => ⟨hh.xcell (a := (gA, _, _)) HXM.out (j := 0) rfl, hh.xcell (a := (gA, _, _)) HXM.out (j := 1) rfl, hh.xcell (a := (gA, _, _)) HXM.out (j := 2) rfl, hh.xcell (a := (gA, _, _)) HXM.out (j := 3) rfl⟩)
  have KMY : Hid (∀ W, Ext w1 W → i < n → Calls Tryz.prog 24 #[.pointer (some ⟨m.gm, 0, none⟩), .int .i64 (i : Int)] W (DrK W (.bool (decide (May pins n most i))))) := hide (fun W hW hi => by
    obtain ⟨K, mo⟩ := (H1.out.ext_ hW).mo
    have k0 := may_any mo hn hi
    rw [HGM.out.1] at k0
    exact k0)
  have H := hide h
  have HPV := hide pv
  have HC := hide hc
  have HN := hide hn
  have HMO := hide hmo
  have HT := hide hT
  have HE := hide he
  have HPB := hide hpb
  have HKD := hide hkd
  have HOV := hide hov
  have HR := hide hr
  have HX := hide hx
  have HK := hide hk
  obtain ⟨ca0, ca1, -, -⟩ := HCA.out _ _ _ _ H1.out
  rw [HEN.out]
  clear h pv hc hn hmo hT he hpb hkd hpg hov hr hx hk hmore
  go_enter Tryz.func7, Tryz.ntmps7
  go_upto_region 1 with fail
  rw [HGA.out, HW1.out]
  go_upto_region 2 with fail
  go_cut [10] from 25 to 27 (fun vi wx => ∃ inB : Bool, vi = .bool inB ∧ Hid (inB = decide (i < n)) ∧ Hid (wx = w1))
  case first =>
    by_cases hi : i < n
    · have hii : (i : Int) < (n : Int) := by omega
      have HII := hide hi
      clear hi
      go_wp2
      go_meet
      exact ⟨true, rfl, hide (decide_eq_true HII.out).symm, hide rfl⟩
    · have hii : ¬ (i : Int) < (n : Int) := by omega
      have HII := hide hi
      clear hi
      go_wp2
      go_meet
      exact ⟨false, rfl, hide (decide_eq_false HII.out).symm, hide rfl⟩
  case rest =>
  obtain ⟨inB, rfl, HIB, HWC⟩ := hcut
  rw [HWC.out]
  clear HWC
  go_upto_region 3 with fail
  go_cut [11] from 28 to 33 (fun vo wx => ∃ ok : Bool, vo = .bool ok ∧ Hid (ok = (inB && decide (May pins n most i))) ∧ Hid (Ext w1 wx))
  case first =>
    cases inB with
    | true =>
      have hi : i < n := by
        have := HIB.out
        exact of_decide_eq_true this.symm
      have KM2 := hide (KMY.out w1 (Ext.refl _) hi)
      clear hi
      obtain ⟨my, HMY⟩ : ∃ my, Hid (decide (May pins n most i) = my) := ⟨_, hide rfl⟩
      rw [HMY.out] at KM2
      go_wp2_with (go_at_call 24; (with_reducible refine KM2.out.mono ?_); rintro e w2 hh; have HX2 := hide hh.ext; obtain ⟨rfl, -⟩ := hh)
      go_meet
      exact ⟨my, rfl, hide (by rw [HMY.out]; rfl), HX2⟩
    | false =>
      go_wp2
      go_meet
      exact ⟨false, rfl, hide rfl, hide (Ext.refl _)⟩
  case rest =>
  obtain ⟨ok, rfl, HOK, HXC⟩ := hcut
  obtain ⟨w2, HW2E⟩ : ∃ w2, w2 = wc := ⟨_, rfl⟩
  subst HW2E
  go_upto_if 35 with fail
  go_cut [12] from 36 to 37 (fun vw wx => ∃ wt : Int, vw = .int .i64 wt ∧ Hid (inB = true ∧ i < n ∧ (wt = 0 ∨ wt = 9) ∧ (¬ May pins n most i → wt = 9) ∨ inB = false ∧ i = n ∧ wt = 1) ∧ Hid (Ext w1 wx))
  case first =>
    cases inB with
    | false =>
      have hie : i = n := by
        have h1 := of_decide_eq_false HIB.out.symm
        have := HIN.out
        omega
      have HIE := hide hie
      clear hie
      go_wp2
      go_meet
      exact ⟨1, rfl, hide (.inr ⟨(by first | rfl | trivial), HIE.out, rfl⟩), HXC⟩
    | true =>
      have hi : i < n := of_decide_eq_true HIB.out.symm
      have HII := hide hi
      clear hi
      cases ok with
      | true =>
        have HM : Hid (May pins n most i) := hide (of_decide_eq_true HOK.out.symm)
        go_wp2
        go_meet
        exact ⟨0, rfl, hide (.inl ⟨(by first | rfl | trivial), HII.out, .inl rfl, fun hh => absurd HM.out hh⟩), HXC⟩
      | false =>
        go_wp2
        go_meet
        exact ⟨9, rfl, hide (.inl ⟨(by first | rfl | trivial), HII.out, .inr rfl, fun _ => rfl⟩), HXC⟩
  case rest =>
  obtain ⟨wt, rfl, HWT, HXD⟩ := hcut
  obtain ⟨w3, HW3E⟩ : ∃ w3, w3 = wc := ⟨_, rfl⟩
  subst HW3E
  have H3 := hide (H1.out.ext_ HXD.out)
  clear ca0 ca1
  obtain ⟨ca0, ca1, ca2, ca3⟩ := HCA.out _ _ _ _ H3.out
  have HWT2 : Hid (Wt pins n most i inB wt) := hide HWT.out
  have HSM : Hid (∀ W, Ml w0 W b g q p m1 n most l pins S → Dn w0 W b g q p m n most c en pins) := hide (fun W hm => ⟨l, pins, S, HLS.out _ _ _ _ hm, HPV.out.mono (by omega), by rw [HEN.out]; omega, fun j _ => Nat.le_succ _⟩)
  obtain ⟨kk, HKK⟩ : ∃ kk, Hid (kd % 7 = kk) := ⟨_, hide rfl⟩
  have hk1 : (kd : Int) % 7 = (kk : Int) := by have := HKK.out; omega
  have hk2 : (kd : Int).tmod 7 = (kk : Int) := by rw [Int.tmod_eq_emod_of_nonneg (by omega)]; exact hk1
  have hk3 : IntKind.u8.wrap (kk : Int) = (kk : Int) := by rw [IntKind.wrap_u8]; have := HKK.out; omega
  have HK7 : Hid (kk < 7) := hide (by have := HKK.out; omega)
  clear HWT HKK HOK HIB H1 HXC KMY
  go_upto_region 10 with fail
  have hkk : kk = 0 ∨ kk = 5 ∨ kk = 1 ∨ kk = 2 ∨ kk = 3 ∨ kk = 4 ∨ kk = 6 := by have := HK7.out; omega
  have KPT : Hid (Calls Tryz.prog 25 #[.pointer (some ⟨m.gm, 0, none⟩), .pointer (some ⟨b, 0, none⟩), .agg #[.int .u8 (kd : Int), .int .u8 (pg : Int), .int .u16 (ov : Int), .slice P k cp], .int .i64 (i : Int), .bool inB, .int .i64 wt] w3 (fun e w' => e = .returned (.bool true) ∧ Dn w0 w' b g q p m n most c en pins)) := hide (by
    have k0 := mput_any H3.out HPV.out (by have := HC.out; omega) HN.out HT.out HE.out kd pg ov P k cp HOV.out HR.out HX.out HK.out i inB wt (fun hb => by rcases HWT2.out with ⟨-, a1, a2, a3⟩ | ⟨a1, -⟩; exact ⟨a1, a2, a3⟩; rw [hb] at a1; cases a1) (fun hb => by rcases HWT2.out with ⟨a1, -⟩ | ⟨-, a1, a2⟩; rw [hb] at a1; cases a1; exact ⟨a1, a2⟩)
    rw [HGM.out.1, HEN.out] at k0
    refine k0.mono fun e w' hh => ?_
    obtain ⟨h1, l', S', h2, h3, h4⟩ := hh
    exact ⟨h1, l', pins, S', HLS.out _ _ _ _ h2, h3.mono (by omega), by omega, fun j _ => Nat.le_succ _⟩)
  have KLF : Hid (Calls Tryz.prog 26 #[.pointer (some ⟨q, 0, none⟩)] w3 (fun e w' => e = .returned (.int .i64 0) ∧ Dn w0 w' b g q p m n most c en pins)) := hide ((ml_lflush H3.out HPV.out (by have := HC.out; omega) HT.out).mono fun e w' hh => by
    obtain ⟨h1, S', h2, h3, h4⟩ := hh
    exact ⟨h1, l, pins, S', HLS.out _ _ _ _ h2, h3.mono (by omega), by rw [h4, HEN.out]; omega, fun j _ => Nat.le_succ _⟩)
  have d1 := H3.out.v1
  have d2 := H3.out.v2
  rcases hkk with rfl | rfl | rfl | rfl | rfl | rfl | rfl
  · go_wp2_with (go_at_call 25; (with_reducible refine KPT.out.mono ?_); rintro e w4 ⟨rfl, hd⟩; have HD := hide hd; clear hd)
    go_ret
    exact ⟨rfl, HD.out⟩
  · go_wp2_with (go_at_call 25; (with_reducible refine KPT.out.mono ?_); rintro e w4 ⟨rfl, hd⟩; have HD := hide hd; clear hd)
    go_ret
    exact ⟨rfl, HD.out⟩
  · have KRD := hide (ml_read2 H3.out HPV.out (by have := HC.out; omega) HT.out HWT2.out)
    rw [HEN.out] at KRD
    obtain ⟨y, HY⟩ : ∃ y, Hid ((l i).1 = y) := ⟨_, hide rfl⟩
    obtain ⟨ls, HLSN⟩ : ∃ ls, Hid ((l i).2 = ls) := ⟨_, hide rfl⟩
    rw [HY.out, HLSN.out] at KRD
    go_upto_region 15 with (go_at_call 16; (with_reducible refine KRD.out.mono ?_); rintro e w4 (⟨A, cc, S4, rfl, hin, hi, hwt, hrd, hm4, hp4, he4⟩ | ⟨rfl, hwt, hm4⟩))
    · have H4 := hide hm4
      have HP4 := hide hp4
      have HE4 := hide he4
      obtain ⟨K4, mo4⟩ := H4.out.mo
      have c0 := mo4.c0
      have c1 := mo4.c1
      obtain ⟨pg4, pc4, g0, hrp⟩ := mo4.pg hi
      have s1 := mo4.s hi
      have hl5 := mo4.len i hi
      rw [HGM.out.1] at c0 c1
      rw [HY.out] at hrp hl5
      rw [HLSN.out] at s1
      have hst1 := fun (q : Nat) => str_any (hrd.ext ((Ext.refl w4).drewN q)) 504 cc hl5
      have hst2 := fun (q : Nat) => str_any (hrp.ext ((Ext.refl w4).drewN q)) 504 pc4 hl5
      have hii : (i : Int) < (n : Int) := by omega
      have HDN : Hid (∀ W, Ml w0 W b g q p m1 n most l pins S4 → Dn w0 W b g q p m n most c en pins) := hide (fun W hm => ⟨l, pins, S4, HLS.out _ _ _ _ hm, HP4.out.mono (by omega), by rw [HE4.out]; omega, fun j hj => Nat.le_succ _⟩)
      clear mo4 hm4 hp4 he4 hi hin hrd hrp hl5 d1 d2 ca0 ca1 ca2 ca3
      rcases hwt with rfl | rfl
      · go_upto_region 17 with fail
        go_quiet (fail)
        go_wp2
        go_ret
        exact ⟨rfl, HDN.out _ (H4.out.ext_ ((Ext.refl _).drewN _))⟩
      · go_upto_region 17 with fail
        go_quiet (fail)
        go_wp2
        go_ret
        exact ⟨rfl, HDN.out _ (H4.out.ext_ ((Ext.refl _).drewN _))⟩
    · have H4 := hide hm4
      clear hm4 d1 d2 ca0 ca1 ca2 ca3
      rcases hwt with rfl | rfl
      · go_upto_region 17 with fail
        go_quiet (fail)
        go_wp2
        go_ret
        exact ⟨rfl, HSM.out _ (H4.out.ext_ ((Ext.refl _).drewN _))⟩
      · go_upto_region 17 with fail
        go_quiet (fail)
        go_wp2
        go_ret
        exact ⟨rfl, HSM.out _ (H4.out.ext_ ((Ext.refl _).drewN _))⟩
  · have KPN := hide (ml_pin2 H3.out HPV.out (by have := HC.out; omega) HT.out HPB.out HWT2.out)
    rw [HEN.out] at KPN
    go_upto_region 20 with (go_at_call 17; (with_reducible refine KPN.out.mono ?_); rintro e w4 (⟨rfl, hin, hi, hwt, S4, hm4, hp4, he4⟩ | ⟨rfl, hwt, hm4⟩))
    · subst hin
      have H4 := hide hm4
      have HP4 := hide hp4
      have HE4 := hide he4
      have HII := hide hi
      obtain ⟨pv0, HPI⟩ : ∃ pv0, Hid (pins i = pv0) := ⟨_, hide rfl⟩
      have HPU : Hid (pv0 < 50000) := hide (by rw [← HPI.out]; exact HPB.out i hi)
      obtain ⟨K4, mo4⟩ := H4.out.mo
      have c2 := mo4.c2
      have p2 := mo4.p hi
      have f2 := (mo4.fl i).2.2.1
      rw [HGM.out.1] at c2
      rw [HPI.out] at p2
      have hii : (i : Int) < (n : Int) := by omega
      have hwp : IntKind.i64.wrap ((pv0 : Int) + 1) = ((pv0 + 1 : Nat) : Int) := by rw [IntKind.wrap_i64]; have := HPU.out; omega
      have H5 := hide (H4.out.putP hi (pv0 + 1))
      obtain ⟨pv1, HP1⟩ : ∃ pv1, Hid (pv0 + 1 = pv1) := ⟨_, hide rfl⟩
      rw [HP1.out] at H5 hwp
      have HDN : Hid (∀ W, Ml w0 W b g q p m1 n most l (fun j => if j = i then pv1 else pins j) S4 → Dn w0 W b g q p m n most c en pins) := hide (fun W hm => ⟨l, _, S4, HLS.out _ _ _ _ hm, by
        have h0 := HP4.out
        rw [HPI.out, HP1.out] at h0
        exact h0.mono (by omega), by rw [HE4.out]; omega, fun j hj => by
        by_cases e : j = i
        · simp only [if_pos e]
          rw [e, HPI.out, ← HP1.out]
          omega
        · simp only [if_neg e]
          omega⟩)
      clear mo4 hm4 hp4 he4 hi d1 d2 ca0 ca1 ca2 ca3
      rcases hwt with rfl | rfl
      · go_wp2
        go_ret
        exact ⟨rfl, HDN.out _ H5.out⟩
      · go_wp2
        go_ret
        exact ⟨rfl, HDN.out _ H5.out⟩
    · have H4 := hide hm4
      clear hm4 d1 d2 ca0 ca1 ca2 ca3
      rcases hwt with rfl | rfl
      · go_wp2
        go_ret
        exact ⟨rfl, HSM.out _ H4.out⟩
      · go_wp2
        go_ret
        exact ⟨rfl, HSM.out _ H4.out⟩
  · have KUN := hide (ml_unpin2 H3.out HPV.out HPB.out HWT2.out)
    rw [HEN.out] at KUN
    go_upto_region 25 with (go_at_call 18; (with_reducible refine KUN.out.mono ?_); rintro e w4 (⟨rfl, hin, hi, hp0, hm4⟩ | ⟨rfl, hin, hi, hp0, S4, hm4, hp4, he4⟩ | ⟨rfl, hin, hm4⟩))
    · subst hin
      have H4 := hide hm4
      obtain ⟨K4, mo4⟩ := H4.out.mo
      have c2 := mo4.c2
      have p2 := mo4.p hi
      rw [HGM.out.1] at c2
      rw [hp0] at p2
      have hii : (i : Int) < (n : Int) := by omega
      clear mo4 hm4 hi hp0 d1 d2 ca0 ca1 ca2 ca3
      go_wp2
      go_ret
      exact ⟨rfl, HSM.out _ H4.out⟩
    · subst hin
      have H4 := hide hm4
      have HP4 := hide hp4
      have HE4 := hide he4
      have HII := hide hi
      obtain ⟨pv0, HPI⟩ : ∃ pv0, Hid (pins i = pv0) := ⟨_, hide rfl⟩
      have HPU : Hid (pv0 < 50000 ∧ pv0 ≠ 0) := hide (by rw [← HPI.out]; exact ⟨HPB.out i hi, hp0⟩)
      obtain ⟨K4, mo4⟩ := H4.out.mo
      have c2 := mo4.c2
      have p2 := mo4.p hi
      have f2 := (mo4.fl i).2.2.1
      rw [HGM.out.1] at c2
      rw [HPI.out] at p2
      have hii : (i : Int) < (n : Int) := by omega
      have hpn : ¬ (pv0 : Int) = 0 := by have := HPU.out; omega
      have hwp : IntKind.i64.wrap ((pv0 : Int) - 1) = ((pv0 - 1 : Nat) : Int) := by rw [IntKind.wrap_i64]; have := HPU.out; omega
      have H5 := hide (H4.out.putP hi (pv0 - 1))
      obtain ⟨pv1, HP1⟩ : ∃ pv1, Hid (pv0 - 1 = pv1) := ⟨_, hide rfl⟩
      rw [HP1.out] at H5 hwp
      have HDN : Hid (∀ W, Ml w0 W b g q p m1 n most l (fun j => if j = i then pv1 else pins j) S4 → Dn w0 W b g q p m n most c en pins) := hide (fun W hm => ⟨l, _, S4, HLS.out _ _ _ _ hm, by
        have h0 := HP4.out
        rw [HPI.out, HP1.out] at h0
        exact h0.mono (by omega), by rw [HE4.out]; omega, fun j hj => by
        by_cases e : j = i
        · simp only [if_pos e]
          rw [e, HPI.out, ← HP1.out]
          omega
        · simp only [if_neg e]
          omega⟩)
      clear mo4 hm4 hp4 he4 hi hp0 d1 d2 ca0 ca1 ca2 ca3
      go_wp2
      go_ret
      exact ⟨rfl, HDN.out _ H5.out⟩
    · subst hin
      have H4 := hide hm4
      clear hm4 d1 d2 ca0 ca1 ca2 ca3
      go_wp2
      go_ret
      exact ⟨rfl, HSM.out _ H4.out⟩
  · have KFL := hide (ml_flush H3.out HPV.out (by have := HC.out; omega) HMO.out HT.out)
    rw [HEN.out] at KFL
    go_upto_region 35 with (first
      | (go_at_call 11; (with_reducible refine KFL.out.mono ?_); rintro e w4 ⟨rfl, S4, hm4, hp4, he4, hcl4, -⟩; have H4 := hide hm4; have HP4 := hide hp4; have HE4 := hide he4; have KDI := hide (ml_dirty hm4 hp4 (by have := HC.out; omega) hcl4); clear hm4 hp4 he4 hcl4 d1 d2 ca0 ca1 ca2 ca3; have d2 := H4.out.v2)
      | (go_at_call 12; (with_reducible refine KDI.out.mono ?_); rintro e w5 ⟨A5, cc5, rfl, S5, hm5, hp5, he5, -, -⟩; have H5 := hide hm5; have HP5 := hide hp5; have HE5 := hide he5; clear hm5 hp5 he5 d2))
    go_loopw [18] (fun v wr => ∃ j : Nat, v = .int .i64 (j : Int) ∧ Hid (j ≤ n) ∧ Hid (Ml w0 wr b g q p m1 n most l pins S5)) (fun v _ => n - (intOf v).toNat)
    case atStart => exact ⟨0, rfl, hide (Nat.zero_le _), H5⟩
    case round =>
      obtain ⟨j, rfl, HJ, HM⟩ := hrel
      by_cases hj : j < n
      · have hji : (j : Int) < (n : Int) := by omega
        obtain ⟨j1, HJ1⟩ : ∃ j1, Hid (j + 1 = j1) := ⟨_, hide rfl⟩
        have hjw : IntKind.i64.wrap ((j : Int) + 1) = (j1 : Int) := by rw [IntKind.wrap_i64]; have := HJ1.out; have := HN.out; omega
        obtain ⟨K5, mo5⟩ := HM.out.mo
        have c3 := mo5.c3
        obtain ⟨z5, z0⟩ := mo5.z hj
        have f3 := (mo5.fl j).2.2.2
        rw [HGM.out.1] at c3
        have HM6 : Hid (Ml w0 (wr.setCell ⟨m1.bz, j, none⟩ (.int .u64 0)) b g q p m1 n most l pins S5) := hide (HM.out.putZ hj 0)
        have HJJ := hide hj
        clear mo5 hj
        go_wp2
        refine ⟨⟨j1, rfl, hide (by have := HJJ.out; have := HJ1.out; omega), HM6⟩, ?_⟩
        show n - ((j1 : Int)).toNat < n - ((j : Int)).toNat
        have := HJJ.out; have := HJ1.out; omega
      · obtain rfl : j = n := by have := HJ.out; omega
        clear hj
        go_wp2
        go_ret
        exact ⟨rfl, l, pins, S5, HLS.out _ _ _ _ HM.out, HP5.out.mono (by omega), by rw [HE5.out, HE4.out]; omega, fun j hj => Nat.le_succ _⟩
  · go_wp2_with (go_at_call 26; (with_reducible refine KLF.out.mono ?_); rintro e w4 ⟨rfl, hd⟩; have HD := hide hd; clear hd)
    go_ret
    exact ⟨rfl, HD.out⟩
end
end Go.Proofs.YtnkcneccolbbdaaGreatDoor
namespace Go.Proofs.YtnkcneccolbbdaaGreatDoor
open Go.RowKit

theorem own_keep {w w' : World} {B e k n : Nat} {v : Value} {xs : List Value} (h : w.ownsRow B e k v n xs) (hk : ∀ j, v.ownBlock = some j → w'.heap[j]? = w.heap[j]?) : w'.ownsRow B e k v n xs := by
  refine ⟨h.1, ?_⟩
  rcases h.2 with hn | ⟨g, cap, cur, rfl, hb, hg, rest⟩
  · exact .inl hn
  · exact .inr ⟨g, cap, cur, rfl, hb, (hk g rfl).trans hg, rest⟩
theorem own_blk {w : World} {B e k n : Nat} {v : Value} {xs : List Value} (h : w.ownsRow B e k v n xs) {j : Nat} (hj : v.ownBlock = some j) : ∃ cur, w.heap[j]? = some (.cells cur e (0, 0)) ∧ B ≤ j := by
  rcases h.2 with ⟨rfl, -⟩ | ⟨g, cap, cur, rfl, hb, hg, rest⟩
  · cases hj
  · have e : g = j := by simpa [Value.ownBlock] using hj
    subst e
    exact ⟨cur, hg, hb⟩
theorem mown_apart {w : World} {B B' e e' k k' n n' : Nat} {v v' : Value} {xs xs' : List Value} (h : w.ownsRow B e k v n xs) (h' : w.ownsRow B' e' k' v' n' xs') (ne : e ≠ e') : ∀ j, v.ownBlock = some j → v'.ownBlock ≠ some j := fun j h1 h2 => by
  obtain ⟨c1, a1, -⟩ := own_blk h h1
  obtain ⟨c2, a2, -⟩ := own_blk h' h2
  rw [a1] at a2
  injection a2 with a2
  injection a2 with _ a3 _
  exact ne a3
theorem own_rw {w : World} {B e k n g : Nat} {t : TypeId} {v : Value} {xs vs : List Value} (h : w.ownsRow B e k v n xs) (h' : Rw w g t vs) (ne : e ≠ t) : v.ownBlock ≠ some g := fun h1 => by
  obtain ⟨c1, a1, -⟩ := own_blk h h1
  unfold Rw at h'
  rw [a1] at h'
  injection h' with h'
  injection h' with _ a3 _
  exact ne a3
/-- One more. -/
theorem run_push1 {e t ty by_ : Nat} {z v1 : Value} (hu : Tryz.prog.underlying t = some (.slice e)) (hi : ∃ i0, Tryz.prog.info? e = some i0 ∧ i0.zero = some z ∧ i0.size = 1 ∧ i0.bytes = by_) (hby : by_ ≤ 24) (hz : z.cells.size = 1) {w : World} {B : Nat} {v : Value} {n : Nat} {xs : List Value} (h : w.ownsRow B e 1 v n xs) (hB : B ≤ w.heap.size) (hn : n ≤ 1000) (h1 : v1.oneCell' = true) :
    ∃ v' w', (Builtin.append_ #[t, t] ty #[v, .slice (some ⟨w.heap.size, 0, none⟩) 1 1]).run Tryz.prog (w.alloc (.cells #[v1] e)) = .ok v' w' ∧ w'.ownsRow B e 1 v' (n + 1) (xs ++ [v1]) ∧ w.grownBy w' v.ownBlock ∧ (v'.ownBlock = v.ownBlock ∨ ∀ k, v'.ownBlock = some k → w.heap.size ≤ k) := by
  obtain ⟨i0, hi0, hz0, hs0, hb0⟩ := hi
  have hX := Ext.alloc w (.cells #[v1] e)
  have R := Rw.new w e [v1]
  obtain ⟨v', w', hr, h2, h3, -, h5⟩ := run_append_own_at (P := Tryz.prog) (w.alloc (.cells #[v1] e)) B t ty e i0 z 1 by_ hu hi0 hz0 hs0 hb0 hz (by decide) v n xs (World.ownsRow.alloc h _) ⟨w.heap.size, 0, none⟩ 1 1 [v1] rfl (fun j u hu => by rw [add_flat, Nat.zero_add]; exact R.cell hu) (fun u hu => by rw [List.mem_singleton.1 hu]; exact h1) (by unfold maxLen; omega) (by have := Nat.mul_le_mul (show n + 1 ≤ 1001 by omega) hby; omega) (Nat.le_trans hB hX.size)
  refine ⟨v', w', hr, h2, ⟨h3.os.trans hX.os, h3.tape.trans hX.tape, h3.output.trans hX.output, Nat.le_trans hX.size h3.size, fun k hk hne => (h3.block k (Nat.lt_of_lt_of_le hk hX.size) hne).trans (hX.block k hk)⟩, ?_⟩
  rcases h5 with h5 | h5
  · exact .inl h5
  · refine .inr fun k hk => ?_
    rw [h5] at hk
    injection hk with hk
    have := hX.size
    omega
theorem info_slice8 : (Tryz.prog.info? 32).map (fun i => (i.zero, i.size, i.bytes)) = some (some (.slice none 0 0), 1, 24) := by kernel_rfl
theorem info_int64 : (Tryz.prog.info? 3).map (fun i => (i.zero, i.size, i.bytes)) = some (some (.int .i64 0), 1, 8) := by kernel_rfl
theorem info_out {e by_ : Nat} {z : Value} (h : (Tryz.prog.info? e).map (fun i => (i.zero, i.size, i.bytes)) = some (some z, 1, by_)) : ∃ i0, Tryz.prog.info? e = some i0 ∧ i0.zero = some z ∧ i0.size = 1 ∧ i0.bytes = by_ := by
  cases hq : Tryz.prog.info? e with
  | none => rw [hq] at h; cases h
  | some i =>
    rw [hq] at h
    simp only [Option.map_some, Option.some.injEq, Prod.mk.injEq] at h
    exact ⟨i, rfl, h.1, h.2.1, h.2.2⟩
/-- The model being laid. -/
structure Mi (w : World) (B gm most : Nat) (il is ip iz : Nat) (vl vs vp vz : Value) (K : Nat → Prop) : Prop where
  blk : Rw w gm 29 [vl, vs, vp, vz, .int .i64 (most : Int)]
  rl : ∃ xs, w.ownsRow B 32 1 vl il xs ∧ ∀ j, j < il → ∃ g c, xs[j]? = some (.slice (some ⟨g, 0, none⟩) 504 c) ∧ Pq w g zB ∧ K g
  rs : ∃ xs, w.ownsRow B 33 1 vs is xs ∧ ∀ j, j < is → xs[j]? = some (.int .u64 0)
  rp : ∃ xs, w.ownsRow B 3 1 vp ip xs ∧ ∀ j, j < ip → xs[j]? = some (.int .i64 0)
  rz : ∃ xs, w.ownsRow B 33 1 vz iz xs ∧ ∀ j, j < iz → xs[j]? = some (.int .u64 0)
  ne : ∀ k, vs.ownBlock = some k → vz.ownBlock ≠ some k
  kg : K gm
  kl : ∀ k, vl.ownBlock = some k → K k
  ks : ∀ k, vs.ownBlock = some k → K k
  kp : ∀ k, vp.ownBlock = some k → K k
  kz : ∀ k, vz.ownBlock = some k → K k
section
variable {w0 w w' : World} {b g q p B gm most il is ip iz : Nat} {vl vs vp vz : Value} {K K' : Nat → Prop} {S : St}
theorem Mi.keep (h : Mi w B gm most il is ip iz vl vs vp vz K) (hk : ∀ k, K k → w'.heap[k]? = w.heap[k]?) : Mi w' B gm most il is ip iz vl vs vp vz K := by
  obtain ⟨x1, r1, f1⟩ := h.rl
  obtain ⟨x2, r2, f2⟩ := h.rs
  obtain ⟨x3, r3, f3⟩ := h.rp
  obtain ⟨x4, r4, f4⟩ := h.rz
  exact ⟨(hk _ h.kg).trans h.blk, ⟨x1, own_keep r1 fun j hj => hk j (h.kl j hj), fun j hj => by
    obtain ⟨g, c, a1, ⟨R, a2⟩, a3⟩ := f1 j hj
    exact ⟨g, c, a1, ⟨R, (hk g a3).trans a2⟩, a3⟩⟩, ⟨x2, own_keep r2 fun j hj => hk j (h.ks j hj), f2⟩, ⟨x3, own_keep r3 fun j hj => hk j (h.kp j hj), f3⟩, ⟨x4, own_keep r4 fun j hj => hk j (h.kz j hj), f4⟩, h.ne, h.kg, h.kl, h.ks, h.kp, h.kz⟩
/-- It is being laid beside the laws' world. -/
def Mw (w0 w : World) (b g q p gm most il is ip iz : Nat) (vl vs vp vz : Value) (S : St) : Prop := ∃ K, Wk w0 w b g q p K w S ∧ Mi w w0.heap.size gm most il is ip iz vl vs vp vz K ∧ ∀ k, K k → w0.heap.size ≤ k ∧ k ≠ b
theorem Mw.ext_ (h : Mw w0 w b g q p gm most il is ip iz vl vs vp vz S) (hx : Ext w w') : Mw w0 w' b g q p gm most il is ip iz vl vs vp vz S := by
  obtain ⟨K, h1, h2, h3⟩ := h
  exact ⟨K, (h1.ext_ hx).here, h2.keep fun k hk => Below.block hx k (h1.same k hk).1, h3⟩
theorem Mw.ext (h : Mw w0 w b g q p gm most il is ip iz vl vs vp vz S) : Ext w0 w := by obtain ⟨K, h1, -⟩ := h; exact h1.ext
/-- A page made beside it. -/
def Mwp (w0 w : World) (b g q p gm most il is ip iz : Nat) (vl vs vp vz : Value) (S : St) (pg : Nat) : Prop := ∃ K, Wk w0 w b g q p K w S ∧ Mi w w0.heap.size gm most il is ip iz vl vs vp vz K ∧ (∀ k, K k → w0.heap.size ≤ k ∧ k ≠ b) ∧ K pg ∧ Pq w pg zB
theorem Mw.page (h : Mw w0 w b g q p gm most il is ip iz vl vs vp vz S) : Mwp w0 (w.alloc (.cells (bs zB).toArray 5)) b g q p gm most il is ip iz vl vs vp vz S w.heap.size := by
  obtain ⟨K, h1, h2, h3⟩ := h
  have hX := Ext.alloc w (.cells (bs zB).toArray 5)
  have hR := Rw.new w 5 (bs zB)
  have hb0 : b < w.heap.size := World.block_lt_of_cell? w _ h1.c0
  have hw0 : w0.heap.size ≤ w.heap.size := h1.ext.size
  have h2' := h2.keep (w' := w.alloc (.cells (bs zB).toArray 5)) fun k hk => Below.block hX k (h1.same k hk).1
  obtain ⟨x1, r1, f1⟩ := h2'.rl
  refine ⟨fun k => K k ∨ k = w.heap.size, h1.turn hX.os hX.tape hX.output hX.size (fun k hk hn => Below.block hX k hk) (fun hh => (h3 b hh).2 rfl) (fun k hk => (h3 k hk).1) (fun k hk => ?_), ⟨h2'.blk, ⟨x1, r1, fun j hj => ?_⟩, h2'.rs, h2'.rp, h2'.rz, h2'.ne, .inl h2'.kg, fun k hk => .inl (h2'.kl k hk), fun k hk => .inl (h2'.ks k hk), fun k hk => .inl (h2'.kp k hk), fun k hk => .inl (h2'.kz k hk)⟩, fun k hk => ?_, .inr rfl, ⟨[], by rw [List.append_nil]; exact hR⟩⟩
  · rcases hk with hk | rfl
    · exact .inl hk
    · exact .inr ⟨Nat.le_refl _, hR.lt⟩
  · obtain ⟨g4, c4, a1, a2, a3⟩ := f1 j hj
    exact ⟨g4, c4, a1, a2, .inl a3⟩
  · rcases hk with hk | rfl
    · exact h3 k hk
    · exact ⟨hw0, by omega⟩
theorem Mw.blk (h : Mw w0 w b g q p gm most il is ip iz vl vs vp vz S) : Rw w gm 29 [vl, vs, vp, vz, .int .i64 (most : Int)] := by obtain ⟨K, -, h2, -⟩ := h; exact h2.blk
/-- One more of slice 0. -/
theorem Mw.pushL {pg : Nat} (h : Mwp w0 w b g q p gm most il is ip iz vl vs vp vz S pg) (ty : Nat) (hn : il ≤ 1000) :
    ∃ v' w', (Builtin.append_ #[25, 25] ty #[vl, .slice (some ⟨w.heap.size, 0, none⟩) 1 1]).run Tryz.prog (w.alloc (.cells #[.slice (some ⟨pg, 0, none⟩) 504 504] 32)) = .ok v' w' ∧ w'.cell? ⟨gm, 0, none⟩ = some vl ∧ w'.frozen? ⟨gm, 0, none⟩ = false ∧ Mw w0 (w'.setCell ⟨gm, 0, none⟩ v') b g q p gm most (il + 1) is ip iz v' vs vp vz S := by
  obtain ⟨K, h1, h2, h3, hkp, hp⟩ := h
  have hw0 : w0.heap.size ≤ w.heap.size := h1.ext.size
  obtain ⟨x1, r1, f1⟩ := h2.rl
  obtain ⟨x2, r2, f2⟩ := h2.rs
  obtain ⟨x3, r3, f3⟩ := h2.rp
  obtain ⟨x4, r4, f4⟩ := h2.rz
  obtain ⟨v', w', hrun, ho, hg, hb⟩ := run_push1 (ty := ty) (v1 := .slice (some ⟨pg, 0, none⟩) 504 504) Tryz.underlying25 (info_out info_slice8) (by decide) rfl r1 hw0 hn rfl
  have hgm : vl.ownBlock ≠ some gm := own_rw r1 h2.blk (by decide)
  have hblk : Rw w' gm 29 [vl, vs, vp, vz, .int .i64 (most : Int)] := (hg.block gm h2.blk.lt (fun e => hgm e.symm)).trans h2.blk
  have hv'gm : v'.ownBlock ≠ some gm := by
    rcases hb with hb | hb
    · rw [hb]; exact hgm
    · intro e
      have := hb gm e
      have := h2.blk.lt
      omega
  refine ⟨v', w', hrun, hblk.cell (i := 0) rfl, hblk.frozen 0, ?_⟩
  have hsame : ∀ k, k < w.heap.size → k ≠ gm → vl.ownBlock ≠ some k → (w'.setCell ⟨gm, 0, none⟩ v').heap[k]? = w.heap[k]? := fun k hk h4 h5 => (cell_other h4).trans (hg.block k hk (fun e => h5 e.symm))
  refine ⟨fun k => (K k) ∨ (w.heap.size ≤ k ∧ k < w'.heap.size), h1.turn hg.os hg.tape hg.output (by have := hg.size; simpa using this) (fun k hk hn => hsame k hk (fun e => hn (by rw [e]; exact h2.kg)) (fun e => hn (h2.kl k e))) (fun hh => (h3 b hh).2 rfl) (fun k hk => (h3 k hk).1) (fun k hk => ?_), ?_, fun k hk => ?_⟩
  · rcases hk with hk | hk
    · exact .inl hk
    · exact .inr ⟨hk.1, by simpa using hk.2⟩
  · have hlt : ∀ k, K k → k < w.heap.size := fun k hk => (h1.same k (hk)).1
    have hzl : (w'.setCell ⟨gm, 0, none⟩ v').ownsRow w0.heap.size 32 1 v' (il + 1) (x1 ++ [.slice (some ⟨pg, 0, none⟩) 504 504]) := own_keep ho fun j hj => cell_other (fun e => hv'gm (by rw [hj, e]))
    have hzs : (w'.setCell ⟨gm, 0, none⟩ v').ownsRow w0.heap.size 33 1 vs is x2 := own_keep r2 fun j hj => hsame j (hlt j (h2.ks j hj)) (fun e => own_rw r2 h2.blk (by decide) (by rw [hj, e])) (mown_apart r2 r1 (by decide) j hj)
    have hzp : (w'.setCell ⟨gm, 0, none⟩ v').ownsRow w0.heap.size 3 1 vp ip x3 := own_keep r3 fun j hj => hsame j (hlt j (h2.kp j hj)) (fun e => own_rw r3 h2.blk (by decide) (by rw [hj, e])) (mown_apart r3 r1 (by decide) j hj)
    have hzz : (w'.setCell ⟨gm, 0, none⟩ v').ownsRow w0.heap.size 33 1 vz iz x4 := own_keep r4 fun j hj => hsame j (hlt j (h2.kz j hj)) (fun e => own_rw r4 h2.blk (by decide) (by rw [hj, e])) (mown_apart r4 r1 (by decide) j hj)
    have hkv : ∀ k, v'.ownBlock = some k → (K k) ∨ (w.heap.size ≤ k ∧ k < w'.heap.size) := fun k hk => by
      rcases hb with hb | hb
      · exact .inl (h2.kl k (by rw [← hb]; exact hk))
      · obtain ⟨cur, a1, -⟩ := own_blk ho hk
        exact .inr ⟨hb k hk, (Array.getElem?_eq_some_iff.1 a1).1⟩
    have hpgs : ∀ gq, K gq → Pq w gq zB → Pq (w'.setCell ⟨gm, 0, none⟩ v') gq zB := fun gq hq hpq => by
      obtain ⟨R, a2⟩ := hpq
      refine ⟨R, (hsame gq a2.lt (fun e => ?_) (fun e => own_rw r1 a2 (by decide) e)).trans a2⟩
      exact (a2.apart h2.blk (by decide)) e
    exact ⟨hblk.set 0 v', ⟨x1 ++ [.slice (some ⟨pg, 0, none⟩) 504 504], hzl, fun j hj => by
      have hx1 : x1.length = il := by have := r1.1; omega
      by_cases e : j < il
      · obtain ⟨g4, c4, a1, a2, a3⟩ := f1 j e
        exact ⟨g4, c4, by rw [List.getElem?_append_left (by omega)]; exact a1, hpgs g4 a3 a2, .inl a3⟩
      · obtain rfl : j = il := by omega
        exact ⟨pg, 504, by rw [List.getElem?_append_right (by omega), hx1, Nat.sub_self]; rfl, hpgs pg hkp hp, .inl hkp⟩⟩, ⟨x2, hzs, f2⟩, ⟨x3, hzp, f3⟩, ⟨x4, hzz, f4⟩, h2.ne, .inl h2.kg, hkv, fun k hk => .inl (h2.ks k hk), fun k hk => .inl (h2.kp k hk), fun k hk => .inl (h2.kz k hk)⟩
  · have hb0 : b < w.heap.size := World.block_lt_of_cell? w _ h1.c0
    rcases hk with hk | hk
    · exact h3 k hk
    · exact ⟨by omega, by omega⟩
/-- One more of slice 1. -/
theorem Mw.pushS (h : Mw w0 w b g q p gm most il is ip iz vl vs vp vz S) (ty : Nat) (hn : is ≤ 1000) :
    ∃ v' w', (Builtin.append_ #[26, 26] ty #[vs, .slice (some ⟨w.heap.size, 0, none⟩) 1 1]).run Tryz.prog (w.alloc (.cells #[.int .u64 0] 33)) = .ok v' w' ∧ w'.cell? ⟨gm, 1, none⟩ = some vs ∧ w'.frozen? ⟨gm, 1, none⟩ = false ∧ Mw w0 (w'.setCell ⟨gm, 1, none⟩ v') b g q p gm most il (is + 1) ip iz vl v' vp vz S := by
  obtain ⟨K, h1, h2, h3⟩ := h
  have hw0 : w0.heap.size ≤ w.heap.size := h1.ext.size
  obtain ⟨x1, r1, f1⟩ := h2.rl
  obtain ⟨x2, r2, f2⟩ := h2.rs
  obtain ⟨x3, r3, f3⟩ := h2.rp
  obtain ⟨x4, r4, f4⟩ := h2.rz
  obtain ⟨v', w', hrun, ho, hg, hb⟩ := run_push1 (ty := ty) (v1 := .int .u64 0) Tryz.underlying26 (info_out info_u64n) (by decide) rfl r2 hw0 hn rfl
  have hgm : vs.ownBlock ≠ some gm := own_rw r2 h2.blk (by decide)
  have hblk : Rw w' gm 29 [vl, vs, vp, vz, .int .i64 (most : Int)] := (hg.block gm h2.blk.lt (fun e => hgm e.symm)).trans h2.blk
  have hv'gm : v'.ownBlock ≠ some gm := by
    rcases hb with hb | hb
    · rw [hb]; exact hgm
    · intro e
      have := hb gm e
      have := h2.blk.lt
      omega
  refine ⟨v', w', hrun, hblk.cell (i := 1) rfl, hblk.frozen 1, ?_⟩
  have hsame : ∀ k, k < w.heap.size → k ≠ gm → vs.ownBlock ≠ some k → (w'.setCell ⟨gm, 1, none⟩ v').heap[k]? = w.heap[k]? := fun k hk h4 h5 => (cell_other h4).trans (hg.block k hk (fun e => h5 e.symm))
  refine ⟨fun k => (K k) ∨ (w.heap.size ≤ k ∧ k < w'.heap.size), h1.turn hg.os hg.tape hg.output (by have := hg.size; simpa using this) (fun k hk hn => hsame k hk (fun e => hn (by rw [e]; exact h2.kg)) (fun e => hn (h2.ks k e))) (fun hh => (h3 b hh).2 rfl) (fun k hk => (h3 k hk).1) (fun k hk => ?_), ?_, fun k hk => ?_⟩
  · rcases hk with hk | hk
    · exact .inl hk
    · exact .inr ⟨hk.1, by simpa using hk.2⟩
  · have hlt : ∀ k, K k → k < w.heap.size := fun k hk => (h1.same k (hk)).1
    have hzl : (w'.setCell ⟨gm, 1, none⟩ v').ownsRow w0.heap.size 32 1 vl il x1 := own_keep r1 fun j hj => hsame j (hlt j (h2.kl j hj)) (fun e => own_rw r1 h2.blk (by decide) (by rw [hj, e])) (mown_apart r1 r2 (by decide) j hj)
    have hzs : (w'.setCell ⟨gm, 1, none⟩ v').ownsRow w0.heap.size 33 1 v' (is + 1) (x2 ++ [.int .u64 0]) := own_keep ho fun j hj => cell_other (fun e => hv'gm (by rw [hj, e]))
    have hzp : (w'.setCell ⟨gm, 1, none⟩ v').ownsRow w0.heap.size 3 1 vp ip x3 := own_keep r3 fun j hj => hsame j (hlt j (h2.kp j hj)) (fun e => own_rw r3 h2.blk (by decide) (by rw [hj, e])) (mown_apart r3 r2 (by decide) j hj)
    have hzz : (w'.setCell ⟨gm, 1, none⟩ v').ownsRow w0.heap.size 33 1 vz iz x4 := own_keep r4 fun j hj => hsame j (hlt j (h2.kz j hj)) (fun e => own_rw r4 h2.blk (by decide) (by rw [hj, e])) (fun e => h2.ne j e hj)
    have hkv : ∀ k, v'.ownBlock = some k → (K k) ∨ (w.heap.size ≤ k ∧ k < w'.heap.size) := fun k hk => by
      rcases hb with hb | hb
      · exact .inl (h2.ks k (by rw [← hb]; exact hk))
      · obtain ⟨cur, a1, -⟩ := own_blk ho hk
        exact .inr ⟨hb k hk, (Array.getElem?_eq_some_iff.1 a1).1⟩
    have hpgs : ∀ gq, K gq → Pq w gq zB → Pq (w'.setCell ⟨gm, 1, none⟩ v') gq zB := fun gq hq hpq => by
      obtain ⟨R, a2⟩ := hpq
      refine ⟨R, (hsame gq a2.lt (fun e => ?_) (fun e => own_rw r2 a2 (by decide) e)).trans a2⟩
      exact (a2.apart h2.blk (by decide)) e
    exact ⟨hblk.set 1 v', ⟨x1, hzl, fun j hj => by
      obtain ⟨g4, c4, a1, a2, a3⟩ := f1 j hj
      exact ⟨g4, c4, a1, hpgs g4 a3 a2, .inl a3⟩⟩, ⟨x2 ++ [.int .u64 0], hzs, fun j hj => by
      have hx1 : x2.length = is := by have := r2.1; omega
      by_cases e : j < is
      · rw [List.getElem?_append_left (by omega)]; exact f2 j e
      · obtain rfl : j = is := by omega
        rw [List.getElem?_append_right (by omega), hx1, Nat.sub_self]; rfl⟩, ⟨x3, hzp, f3⟩, ⟨x4, hzz, f4⟩, fun k hk hz => by
      rcases hb with hb | hb
      · exact h2.ne k (by rw [← hb]; exact hk) hz
      · have := hb k hk; have := hlt k (h2.kz k hz); omega, .inl h2.kg, fun k hk => .inl (h2.kl k hk), hkv, fun k hk => .inl (h2.kp k hk), fun k hk => .inl (h2.kz k hk)⟩
  · have hb0 : b < w.heap.size := World.block_lt_of_cell? w _ h1.c0
    rcases hk with hk | hk
    · exact h3 k hk
    · exact ⟨by omega, by omega⟩
/-- One more of slice 2. -/
theorem Mw.pushP (h : Mw w0 w b g q p gm most il is ip iz vl vs vp vz S) (ty : Nat) (hn : ip ≤ 1000) :
    ∃ v' w', (Builtin.append_ #[27, 27] ty #[vp, .slice (some ⟨w.heap.size, 0, none⟩) 1 1]).run Tryz.prog (w.alloc (.cells #[.int .i64 0] 3)) = .ok v' w' ∧ w'.cell? ⟨gm, 2, none⟩ = some vp ∧ w'.frozen? ⟨gm, 2, none⟩ = false ∧ Mw w0 (w'.setCell ⟨gm, 2, none⟩ v') b g q p gm most il is (ip + 1) iz vl vs v' vz S := by
  obtain ⟨K, h1, h2, h3⟩ := h
  have hw0 : w0.heap.size ≤ w.heap.size := h1.ext.size
  obtain ⟨x1, r1, f1⟩ := h2.rl
  obtain ⟨x2, r2, f2⟩ := h2.rs
  obtain ⟨x3, r3, f3⟩ := h2.rp
  obtain ⟨x4, r4, f4⟩ := h2.rz
  obtain ⟨v', w', hrun, ho, hg, hb⟩ := run_push1 (ty := ty) (v1 := .int .i64 0) Tryz.underlying27 (info_out info_int64) (by decide) rfl r3 hw0 hn rfl
  have hgm : vp.ownBlock ≠ some gm := own_rw r3 h2.blk (by decide)
  have hblk : Rw w' gm 29 [vl, vs, vp, vz, .int .i64 (most : Int)] := (hg.block gm h2.blk.lt (fun e => hgm e.symm)).trans h2.blk
  have hv'gm : v'.ownBlock ≠ some gm := by
    rcases hb with hb | hb
    · rw [hb]; exact hgm
    · intro e
      have := hb gm e
      have := h2.blk.lt
      omega
  refine ⟨v', w', hrun, hblk.cell (i := 2) rfl, hblk.frozen 2, ?_⟩
  have hsame : ∀ k, k < w.heap.size → k ≠ gm → vp.ownBlock ≠ some k → (w'.setCell ⟨gm, 2, none⟩ v').heap[k]? = w.heap[k]? := fun k hk h4 h5 => (cell_other h4).trans (hg.block k hk (fun e => h5 e.symm))
  refine ⟨fun k => (K k) ∨ (w.heap.size ≤ k ∧ k < w'.heap.size), h1.turn hg.os hg.tape hg.output (by have := hg.size; simpa using this) (fun k hk hn => hsame k hk (fun e => hn (by rw [e]; exact h2.kg)) (fun e => hn (h2.kp k e))) (fun hh => (h3 b hh).2 rfl) (fun k hk => (h3 k hk).1) (fun k hk => ?_), ?_, fun k hk => ?_⟩
  · rcases hk with hk | hk
    · exact .inl hk
    · exact .inr ⟨hk.1, by simpa using hk.2⟩
  · have hlt : ∀ k, K k → k < w.heap.size := fun k hk => (h1.same k (hk)).1
    have hzl : (w'.setCell ⟨gm, 2, none⟩ v').ownsRow w0.heap.size 32 1 vl il x1 := own_keep r1 fun j hj => hsame j (hlt j (h2.kl j hj)) (fun e => own_rw r1 h2.blk (by decide) (by rw [hj, e])) (mown_apart r1 r3 (by decide) j hj)
    have hzs : (w'.setCell ⟨gm, 2, none⟩ v').ownsRow w0.heap.size 33 1 vs is x2 := own_keep r2 fun j hj => hsame j (hlt j (h2.ks j hj)) (fun e => own_rw r2 h2.blk (by decide) (by rw [hj, e])) (mown_apart r2 r3 (by decide) j hj)
    have hzp : (w'.setCell ⟨gm, 2, none⟩ v').ownsRow w0.heap.size 3 1 v' (ip + 1) (x3 ++ [.int .i64 0]) := own_keep ho fun j hj => cell_other (fun e => hv'gm (by rw [hj, e]))
    have hzz : (w'.setCell ⟨gm, 2, none⟩ v').ownsRow w0.heap.size 33 1 vz iz x4 := own_keep r4 fun j hj => hsame j (hlt j (h2.kz j hj)) (fun e => own_rw r4 h2.blk (by decide) (by rw [hj, e])) (mown_apart r4 r3 (by decide) j hj)
    have hkv : ∀ k, v'.ownBlock = some k → (K k) ∨ (w.heap.size ≤ k ∧ k < w'.heap.size) := fun k hk => by
      rcases hb with hb | hb
      · exact .inl (h2.kp k (by rw [← hb]; exact hk))
      · obtain ⟨cur, a1, -⟩ := own_blk ho hk
        exact .inr ⟨hb k hk, (Array.getElem?_eq_some_iff.1 a1).1⟩
    have hpgs : ∀ gq, K gq → Pq w gq zB → Pq (w'.setCell ⟨gm, 2, none⟩ v') gq zB := fun gq hq hpq => by
      obtain ⟨R, a2⟩ := hpq
      refine ⟨R, (hsame gq a2.lt (fun e => ?_) (fun e => own_rw r3 a2 (by decide) e)).trans a2⟩
      exact (a2.apart h2.blk (by decide)) e
    exact ⟨hblk.set 2 v', ⟨x1, hzl, fun j hj => by
      obtain ⟨g4, c4, a1, a2, a3⟩ := f1 j hj
      exact ⟨g4, c4, a1, hpgs g4 a3 a2, .inl a3⟩⟩, ⟨x2, hzs, f2⟩, ⟨x3 ++ [.int .i64 0], hzp, fun j hj => by
      have hx1 : x3.length = ip := by have := r3.1; omega
      by_cases e : j < ip
      · rw [List.getElem?_append_left (by omega)]; exact f3 j e
      · obtain rfl : j = ip := by omega
        rw [List.getElem?_append_right (by omega), hx1, Nat.sub_self]; rfl⟩, ⟨x4, hzz, f4⟩, h2.ne, .inl h2.kg, fun k hk => .inl (h2.kl k hk), fun k hk => .inl (h2.ks k hk), hkv, fun k hk => .inl (h2.kz k hk)⟩
  · have hb0 : b < w.heap.size := World.block_lt_of_cell? w _ h1.c0
    rcases hk with hk | hk
    · exact h3 k hk
    · exact ⟨by omega, by omega⟩
/-- One more of slice 3. -/
theorem Mw.pushZ (h : Mw w0 w b g q p gm most il is ip iz vl vs vp vz S) (ty : Nat) (hn : iz ≤ 1000) :
    ∃ v' w', (Builtin.append_ #[26, 26] ty #[vz, .slice (some ⟨w.heap.size, 0, none⟩) 1 1]).run Tryz.prog (w.alloc (.cells #[.int .u64 0] 33)) = .ok v' w' ∧ w'.cell? ⟨gm, 3, none⟩ = some vz ∧ w'.frozen? ⟨gm, 3, none⟩ = false ∧ Mw w0 (w'.setCell ⟨gm, 3, none⟩ v') b g q p gm most il is ip (iz + 1) vl vs vp v' S := by
  obtain ⟨K, h1, h2, h3⟩ := h
  have hw0 : w0.heap.size ≤ w.heap.size := h1.ext.size
  obtain ⟨x1, r1, f1⟩ := h2.rl
  obtain ⟨x2, r2, f2⟩ := h2.rs
  obtain ⟨x3, r3, f3⟩ := h2.rp
  obtain ⟨x4, r4, f4⟩ := h2.rz
  obtain ⟨v', w', hrun, ho, hg, hb⟩ := run_push1 (ty := ty) (v1 := .int .u64 0) Tryz.underlying26 (info_out info_u64n) (by decide) rfl r4 hw0 hn rfl
  have hgm : vz.ownBlock ≠ some gm := own_rw r4 h2.blk (by decide)
  have hblk : Rw w' gm 29 [vl, vs, vp, vz, .int .i64 (most : Int)] := (hg.block gm h2.blk.lt (fun e => hgm e.symm)).trans h2.blk
  have hv'gm : v'.ownBlock ≠ some gm := by
    rcases hb with hb | hb
    · rw [hb]; exact hgm
    · intro e
      have := hb gm e
      have := h2.blk.lt
      omega
  refine ⟨v', w', hrun, hblk.cell (i := 3) rfl, hblk.frozen 3, ?_⟩
  have hsame : ∀ k, k < w.heap.size → k ≠ gm → vz.ownBlock ≠ some k → (w'.setCell ⟨gm, 3, none⟩ v').heap[k]? = w.heap[k]? := fun k hk h4 h5 => (cell_other h4).trans (hg.block k hk (fun e => h5 e.symm))
  refine ⟨fun k => (K k) ∨ (w.heap.size ≤ k ∧ k < w'.heap.size), h1.turn hg.os hg.tape hg.output (by have := hg.size; simpa using this) (fun k hk hn => hsame k hk (fun e => hn (by rw [e]; exact h2.kg)) (fun e => hn (h2.kz k e))) (fun hh => (h3 b hh).2 rfl) (fun k hk => (h3 k hk).1) (fun k hk => ?_), ?_, fun k hk => ?_⟩
  · rcases hk with hk | hk
    · exact .inl hk
    · exact .inr ⟨hk.1, by simpa using hk.2⟩
  · have hlt : ∀ k, K k → k < w.heap.size := fun k hk => (h1.same k (hk)).1
    have hzl : (w'.setCell ⟨gm, 3, none⟩ v').ownsRow w0.heap.size 32 1 vl il x1 := own_keep r1 fun j hj => hsame j (hlt j (h2.kl j hj)) (fun e => own_rw r1 h2.blk (by decide) (by rw [hj, e])) (mown_apart r1 r4 (by decide) j hj)
    have hzs : (w'.setCell ⟨gm, 3, none⟩ v').ownsRow w0.heap.size 33 1 vs is x2 := own_keep r2 fun j hj => hsame j (hlt j (h2.ks j hj)) (fun e => own_rw r2 h2.blk (by decide) (by rw [hj, e])) (h2.ne j hj)
    have hzp : (w'.setCell ⟨gm, 3, none⟩ v').ownsRow w0.heap.size 3 1 vp ip x3 := own_keep r3 fun j hj => hsame j (hlt j (h2.kp j hj)) (fun e => own_rw r3 h2.blk (by decide) (by rw [hj, e])) (mown_apart r3 r4 (by decide) j hj)
    have hzz : (w'.setCell ⟨gm, 3, none⟩ v').ownsRow w0.heap.size 33 1 v' (iz + 1) (x4 ++ [.int .u64 0]) := own_keep ho fun j hj => cell_other (fun e => hv'gm (by rw [hj, e]))
    have hkv : ∀ k, v'.ownBlock = some k → (K k) ∨ (w.heap.size ≤ k ∧ k < w'.heap.size) := fun k hk => by
      rcases hb with hb | hb
      · exact .inl (h2.kz k (by rw [← hb]; exact hk))
      · obtain ⟨cur, a1, -⟩ := own_blk ho hk
        exact .inr ⟨hb k hk, (Array.getElem?_eq_some_iff.1 a1).1⟩
    have hpgs : ∀ gq, K gq → Pq w gq zB → Pq (w'.setCell ⟨gm, 3, none⟩ v') gq zB := fun gq hq hpq => by
      obtain ⟨R, a2⟩ := hpq
      refine ⟨R, (hsame gq a2.lt (fun e => ?_) (fun e => own_rw r4 a2 (by decide) e)).trans a2⟩
      exact (a2.apart h2.blk (by decide)) e
    exact ⟨hblk.set 3 v', ⟨x1, hzl, fun j hj => by
      obtain ⟨g4, c4, a1, a2, a3⟩ := f1 j hj
      exact ⟨g4, c4, a1, hpgs g4 a3 a2, .inl a3⟩⟩, ⟨x2, hzs, f2⟩, ⟨x3, hzp, f3⟩, ⟨x4 ++ [.int .u64 0], hzz, fun j hj => by
      have hx1 : x4.length = iz := by have := r4.1; omega
      by_cases e : j < iz
      · rw [List.getElem?_append_left (by omega)]; exact f4 j e
      · obtain rfl : j = iz := by omega
        rw [List.getElem?_append_right (by omega), hx1, Nat.sub_self]; rfl⟩, fun k hk hz => by
      rcases hb with hb | hb
      · exact h2.ne k hk (by rw [← hb]; exact hz)
      · have := hb k hz; have := hlt k (h2.ks k hk); omega, .inl h2.kg, fun k hk => .inl (h2.kl k hk), fun k hk => .inl (h2.ks k hk), fun k hk => .inl (h2.kp k hk), hkv⟩
  · have hb0 : b < w.heap.size := World.block_lt_of_cell? w _ h1.c0
    rcases hk with hk | hk
    · exact h3 k hk
    · exact ⟨by omega, by omega⟩
end
end Go.Proofs.YtnkcneccolbbdaaGreatDoor
namespace Go.Proofs.YtnkcneccolbbdaaGreatDoor
open Go.RowKit

theorem own_low {w : World} {B B' e k n : Nat} {v : Value} {xs : List Value} (h : w.ownsRow B e k v n xs) (hB : B' ≤ B) : w.ownsRow B' e k v n xs := by
  refine ⟨h.1, ?_⟩
  rcases h.2 with hn | ⟨g, cap, cur, rfl, hb, hg, rest⟩
  · exact .inl hn
  · exact .inr ⟨g, cap, cur, rfl, Nat.le_trans hB hb, hg, rest⟩
section
variable {w00 w0 w w' : World} {b g q p gm most n : Nat} {vl vs vp vz : Value} {K : Nat → Prop} {S : St} {Z : Pk} {D : Dk} {L : Lg} {P : Pl}
theorem PlAt.rebase (h : PlAt w0 w Z D L P) (hx : Ext w00 w0) : PlAt w00 w Z D L P := by
  have hs := hx.size
  have hl := h.log
  exact ⟨⟨hx.trans hl.ext, ⟨hl.disk.blk, hl.disk.dur, hl.disk.new, own_low hl.disk.pen hs, ⟨Nat.le_trans hs hl.disk.base.1, Nat.le_trans hs hl.disk.base.2.1, Nat.le_trans hs hl.disk.base.2.2⟩⟩, hl.blk, own_low hl.tail hs, Nat.le_trans hs hl.base⟩, h.blk, h.held, h.way, h.fr, h.inj, ⟨Nat.le_trans hs h.base.1, Nat.le_trans hs h.base.2.1, Nat.le_trans hs h.base.2.2.1, fun i f hf => Nat.le_trans hs (h.base.2.2.2 i f hf)⟩, h.ne⟩
theorem mw_start (hx : Ext w00 w0) (hr : Rw w0 gm 29 [.slice none 0 0, .slice none 0 0, .slice none 0 0, .slice none 0 0, .int .i64 (most : Int)]) (hg : w00.heap.size ≤ gm) (hb : w0.heap.size ≤ b) (h : Wd w0 w b g q p S) : Mw w00 w b g q p gm most 0 0 0 0 (.slice none 0 0) (.slice none 0 0) (.slice none 0 0) (.slice none 0 0) S := by
  obtain ⟨Z, k1, k2, k3, k4, k5⟩ := h
  have hlt := hr.lt
  have hX := k1.log.ext
  refine ⟨fun k => k = gm, ⟨Z, k1.rebase hx, k2, k3, k4, k5, fun k hk => ?_⟩, ⟨hr.ext hX, ⟨[], World.ownsRow_nil _ _ _ _, fun j hj => absurd hj (Nat.not_lt_zero _)⟩, ⟨[], World.ownsRow_nil _ _ _ _, fun j hj => absurd hj (Nat.not_lt_zero _)⟩, ⟨[], World.ownsRow_nil _ _ _ _, fun j hj => absurd hj (Nat.not_lt_zero _)⟩, ⟨[], World.ownsRow_nil _ _ _ _, fun j hj => absurd hj (Nat.not_lt_zero _)⟩, fun k hk => (by cases hk), rfl, fun k hk => (by cases hk), fun k hk => (by cases hk), fun k hk => (by cases hk), fun k hk => (by cases hk)⟩, fun k hk => ?_⟩
  · subst hk
    exact ⟨Nat.lt_of_lt_of_le hlt hX.size, fun hh => by have := k1.has_ge hh; omega, rfl⟩
  · subst hk
    exact ⟨hg, by omega⟩
theorem row_out {B e : Nat} {v : Value} {xs : List Value} {n : Nat} (h : w.ownsRow B e 1 v n xs) (hn : 1 ≤ n) : ∃ gr cap X, v = .slice (some ⟨gr, 0, none⟩) n cap ∧ Rw w gr e X ∧ ∀ j, j < n → X[j]? = xs[j]? := by
  rcases h.2 with ⟨-, h0⟩ | ⟨gr, cap, cur, rfl, hb, hg, hnc, hcm, hcs, htk⟩
  · omega
  · refine ⟨gr, cap, cur.toList, rfl, by unfold Rw; rw [hg], fun j hj => ?_⟩
    rw [← htk, List.getElem?_take_of_lt (by omega)]
theorem mw_shape {il is ip iz : Nat} (h : Mw w0 w b g q p gm most il is ip iz vl vs vp vz S) : (1 ≤ il → ∃ gr cap, vl = .slice (some ⟨gr, 0, none⟩) il cap) ∧ (1 ≤ is → ∃ gr cap, vs = .slice (some ⟨gr, 0, none⟩) is cap) ∧ (1 ≤ ip → ∃ gr cap, vp = .slice (some ⟨gr, 0, none⟩) ip cap) ∧ (1 ≤ iz → ∃ gr cap, vz = .slice (some ⟨gr, 0, none⟩) iz cap) := by
  obtain ⟨K, h1, h2, h3⟩ := h
  obtain ⟨x1, r1, f1⟩ := h2.rl
  obtain ⟨x2, r2, f2⟩ := h2.rs
  obtain ⟨x3, r3, f3⟩ := h2.rp
  obtain ⟨x4, r4, f4⟩ := h2.rz
  refine ⟨fun hn => ?_, fun hn => ?_, fun hn => ?_, fun hn => ?_⟩
  · obtain ⟨gr, cap, X, e, -⟩ := row_out r1 hn
    exact ⟨gr, cap, e⟩
  · obtain ⟨gr, cap, X, e, -⟩ := row_out r2 hn
    exact ⟨gr, cap, e⟩
  · obtain ⟨gr, cap, X, e, -⟩ := row_out r3 hn
    exact ⟨gr, cap, e⟩
  · obtain ⟨gr, cap, X, e, -⟩ := row_out r4 hn
    exact ⟨gr, cap, e⟩
theorem ml_of_mw (h : Mw w0 w b g q p gm most n n n n vl vs vp vz S) (hn : 1 ≤ n) : ∃ m : Mb, m.gm = gm ∧ Ml w0 w b g q p m n most (fun _ => (zB, 0)) (fun _ => 0) S := by
  obtain ⟨K, h1, h2, h3⟩ := h
  obtain ⟨x1, r1, f1⟩ := h2.rl
  obtain ⟨x2, r2, f2⟩ := h2.rs
  obtain ⟨x3, r3, f3⟩ := h2.rp
  obtain ⟨x4, r4, f4⟩ := h2.rz
  obtain ⟨bl, cl, X1, rfl, q1, e1⟩ := row_out r1 hn
  obtain ⟨bs, cs, X2, rfl, q2, e2⟩ := row_out r2 hn
  obtain ⟨bp, cp, X3, rfl, q3, e3⟩ := row_out r3 hn
  obtain ⟨bz, cz, X4, rfl, q4, e4⟩ := row_out r4 hn
  refine ⟨⟨gm, bl, bs, bp, bz, cl, cs, cp, cz, []⟩, rfl, K, h1, ⟨h2.blk, ⟨X1, q1, fun j hj => ?_⟩, ⟨X2, q2, fun j hj => ?_⟩, ⟨X3, q3, fun j hj => ?_⟩, ⟨X4, q4, fun j hj => ⟨0, ?_⟩⟩, fun e => h2.ne bs rfl (by show some bz = some bs; rw [← (show bs = bz from e)]), h2.kg, h2.kl bl rfl, h2.ks bs rfl, h2.kp bp rfl, h2.kz bz rfl, fun j hj => by show zB.length = 504; exact List.length_replicate, fun a ha => by cases ha⟩, h3⟩
  · obtain ⟨gq, c, a1, a2, a3⟩ := f1 j hj
    obtain ⟨R, a4⟩ := a2
    exact ⟨gq, c, by rw [e1 j hj]; exact a1, Pq.rd ⟨R, a4⟩, a3, a4.apart h2.blk (by decide), a4.apart q1 (by decide), a4.apart q2 (by decide), a4.apart q3 (by decide), a4.apart q4 (by decide)⟩
  · rw [e2 j hj]; exact f2 j hj
  · rw [e3 j hj]; exact f3 j hj
  · rw [e4 j hj]; exact f4 j hj
end
/-- A new pool is right. -/
theorem cP_zero : ∀ n, cP (fun _ => 0) n = 0
  | 0 => rfl
  | n + 1 => by
    show cP (fun _ => 0) n + 0 = 0
    rw [cP_zero n]
theorem cH_none : ∀ n, cH (fun _ => none) n = 0
  | 0 => rfl
  | n + 1 => by
    show cH (fun _ => none) n + 0 = 0
    rw [cH_none n]
theorem pv_start {n f : Nat} (h1 : 1 ≤ n) (h2 : n ≤ 8) (h4 : 1 ≤ f ∧ f ≤ 5) : Pv (fS n f) n f (fun _ => (zB, 0)) (fun _ => 0) 10 ∧ endOf (fS n f).L = 480 := by
  obtain ⟨g0, c0⟩ := fresh_good n f
  refine ⟨⟨g0, ⟨.inl rfl, (fun i s h => by cases h)⟩, fresh_fit h1 (by omega) ⟨h4.1, by omega⟩, rfl, rfl, rfl, ?_, rfl, rfl, rfl, by show 480 ≤ 480; decide, c0, fun j hj => rfl, ?_, (fun i s h => by cases h), (fun i g h => by cases h)⟩, by show endOf (lgN 0 40) = 480; decide⟩
  · show (dk2 (41 + n) 0 40).dur.length = 41 + n
    rw [dk2_len]
  · show 0 = cH (fun _ => none) n
    rw [cH_none]
/-- A call as the form hands it. -/
structure Ap where
  k : Nat
  g : Nat
  o : Nat
  P : Option Addr
  cp : Nat
  p : List UInt8
def apC (y : Ap) : List Value := [.int .u8 (y.k : Int), .int .u8 (y.g : Int), .int .u16 (y.o : Int), .slice y.P y.p.length y.cp]
structure ApOk (w : World) (y : Ap) : Prop where
  k : y.k < 256
  g : y.g < 256
  o : y.o < 65536
  p : Rd w y.P y.p
  n : y.p.length ≤ 140737488351232
/-- The slice at A reads as these calls. -/
def RdAp (w : World) (A : Option Addr) (L : List Ap) : Prop := L ≠ [] → ∃ b off, A = some ⟨b, off, none⟩ ∧ ∀ j y, L[j]? = some y → ∀ q v, (apC y)[q]? = some v → w.cell? ⟨b, off + j * 4 + q, none⟩ = some v
end Go.Proofs.YtnkcneccolbbdaaGreatDoor
