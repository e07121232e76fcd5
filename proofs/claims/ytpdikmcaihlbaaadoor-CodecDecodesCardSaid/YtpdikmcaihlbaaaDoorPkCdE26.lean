/-
  ReadKey of any bytes.
  A slice of bytes made with room.
  Base 64: the call.
  Codec: awake.
  Which values there are: the document's Form.
  Values as keys: Key; Less.
  What is written is read: a value in a key.
  Bytes stand as numbers and as texts do: plain facts.
  Keys stand as values do (plain).
-/
import Derived.Test.YtpdikmcaihlbaaaDoorPkCdE20
import Derived.Test.YtpdikmcaihlbaaaDoorPkCdE21
import Derived.Test.YtpdikmcaihlbaaaDoorPkCdE22
import Derived.Test.YtpdikmcaihlbaaaDoorPkCdE25
set_option linter.unusedVariables false
set_option linter.unusedSimpArgs false

namespace Go.Proofs.YtpdikmcaihlbaaaDoor
open Go.RowKit

theorem ext_set {w0 w : World} {b i : Nat} {v : Value} (h : Ext w0 w) (hb : w0.heap.size ≤ b) : Ext w0 (w.setCell ⟨b, i, none⟩ v) :=
  ⟨h.os, h.tape, h.output, Nat.le_trans h.size (by simp [World.setCell]), fun j hj => (Below.heap_setCell w ⟨b, i, none⟩ v j (fun e => by simp only at e; omega)).trans (h.block j hj)⟩
theorem ext_set3 {w0 w : World} {b : Nat} (h : Ext w0 w) (hb : w0.heap.size ≤ b) (u v x : Value) : Ext w0 (((w.setCell ⟨b, 0, none⟩ u).setCell ⟨b, 1, none⟩ v).setCell ⟨b, 2, none⟩ x) := ext_set (ext_set (ext_set h hb) hb) hb
theorem rw_far3 {w : World} {g b : Nat} {t : TypeId} {vs : List Value} (h : Rw w g t vs) (hb : g ≠ b) (u v x : Value) : Rw (((w.setCell ⟨b, 0, none⟩ u).setCell ⟨b, 1, none⟩ v).setCell ⟨b, 2, none⟩ x) g t vs := ((h.far (p := ⟨b, 0, none⟩) hb u).far (p := ⟨b, 1, none⟩) hb v).far (p := ⟨b, 2, none⟩) hb x
theorem size_set3 {w : World} {b : Nat} (u v x : Value) : (((w.setCell ⟨b, 0, none⟩ u).setCell ⟨b, 1, none⟩ v).setCell ⟨b, 2, none⟩ x).heap.size = w.heap.size := by simp [World.setCell]
/-- What the reading of a key leaves: what was there ahead of it stays, and the value and the place, if there are any. -/
def ReadK (w0 : World) (B b4 b2 b7 g : Nat) (A : Option Addr) (n c : Nat) (r : Option (Vl × Nat)) (w' : World) : Prop := Ext w0 w' ∧ B ≤ w'.heap.size ∧ Rw w' b4 26 [.int .u8 0, .int .i64 0, .string ⟨#[]⟩] ∧ Rw w' b2 60 [.pointer (some ⟨g, 0, none⟩)] ∧ match r with
  | none => True
  | some q => Rw w' b7 26 [.int .u8 q.1.1, .int .i64 q.1.2.1, .string q.1.2.2] ∧ RdrC w' g A n c q.2
set_option maxRecDepth 20000 in
set_option maxHeartbeats 1600000 in
theorem readKey1 (g b2 b0 e4 b4 : Nat) (A : Option Addr) (l : List UInt8) (n c a : Nat) (w0 w : World) (hr0 : Rd w0 A l) (hx : Ext w0 w) (hg : w0.heap.size ≤ g) (hgw : g < w.heap.size) (hb0 : w0.heap.size ≤ b0) (hb0g : b0 ≠ g) (he : e4 < w.heap.size) (heg : e4 ≠ g) (heb : e4 ≠ b0) (hn : l.length = n) (hnc : n ≤ c) (hl : n ≤ 140737488351232) (han : a ≤ n) (hR : RdrC w g A n c a) (hT : Tabs w0)
    (h2 : Rw w b2 60 [.pointer (some ⟨g, 0, none⟩)]) (h0 : Rw w b0 26 [.int .u8 0, .int .i64 0, .string ⟨#[]⟩]) (h4 : Rw w e4 28 [.int .i64 0]) (h5 : Rw w b4 26 [.int .u8 0, .int .i64 0, .string ⟨#[]⟩]) (h5n : b4 ≠ g ∧ b4 ≠ b0 ∧ b2 ≠ g ∧ b2 ≠ b0) :
    Calls Tryd.prog 37 #[.pointer (some ⟨b2, 0, none⟩), .pointer (some ⟨b0, 0, none⟩)] w (fun e w' => (e = if (valAt keyAt l a).isSome = true then .returned (.tuple #[]) else .panicked [{ v := gaveUp, recovered := false }]) ∧ Rw w' e4 28 [.int .i64 0] ∧ ReadK w0 w.heap.size b4 b2 b0 g A n c (valAt keyAt l a) w') := by
  have hmf : ∀ (fn : Fn) (first cap : Array Value) (w : World), (Instr.makeFunc fn first cap).run Tryd.prog w = .ok (.func fn first cap) w := fun _ _ _ _ => rfl
  have KR := hide (value_keys g A l n c a w0 w hr0 hx hg hgw hn hnc hl han hR hT)
  obtain ⟨r, HR⟩ : ∃ r, Hid (valAt keyAt l a = r) := ⟨_, hide rfl⟩
  rw [HR.out] at KR ⊢
  have c2 := h2.cell (i := 0) rfl
  have H0 := hide h0
  have H4 := hide h4
  have H5 := hide h5
  have H5N := hide h5n
  have H2 := hide h2
  have HS := hide (show Ext w0 w ∧ w0.heap.size ≤ g ∧ w0.heap.size ≤ b0 ∧ b0 ≠ g ∧ e4 ≠ g ∧ e4 ≠ b0 ∧ e4 < w.heap.size ∧ b0 < w.heap.size from ⟨hx, hg, hb0, hb0g, heg, heb, he, h0.lt⟩)
  clear h0 h4 hx hg hb0 hb0g heg heb he hR hr0 hT h2 h5 h5n
  cases r with
  | none =>
    have KR2 := hide (show Calls Tryd.prog 38 #[.pointer (some ⟨g, 0, none⟩), .func (.func 39) #[.pointer (some ⟨g, 0, none⟩)] #[]] w (OneC w g A n c none) from KR.out)
    clear KR
    go_enter Tryd.func37, Tryd.ntmps37
    go_wp2_with (go_at_call 38; (with_reducible refine KR2.out.mono ?_); rintro e w2 ⟨hg2, rfl⟩)
    refine ⟨rfl, rfl, ?_, ext_of_grown HS.out.1 hg2 HS.out.2.1, hg2.size, (hg2.block b4 H5.out.lt (fun e => by injection e with e; exact H5N.out.1 e)).trans H5.out, (hg2.block b2 H2.out.lt (fun e => by injection e with e; exact H5N.out.2.2.1 e)).trans H2.out, trivial⟩
    exact (hg2.block e4 H4.out.lt (fun e => by injection e with e; exact HS.out.2.2.2.2.1 e)).trans H4.out
  | some q =>
    obtain ⟨x, k⟩ := q
    have KR2 := hide (show Calls Tryd.prog 38 #[.pointer (some ⟨g, 0, none⟩), .func (.func 39) #[.pointer (some ⟨g, 0, none⟩)] #[]] w (OneC w g A n c (some (.agg #[.int .u8 x.1, .int .i64 x.2.1, .string x.2.2], k))) from KR.out)
    clear KR
    go_enter Tryd.func37, Tryd.ntmps37
    go_wp2_with (go_at_call 38; (with_reducible refine KR2.out.mono ?_); rintro e w2 ⟨hg2, rfl, hr2⟩; have R2 := hide (show Rw w2 g 62 [.slice A n c, .int .i64 ((k : Nat) : Int)] from hr2); have B2 := hide (show Rw w2 b0 26 [.int .u8 0, .int .i64 0, .string ⟨#[]⟩] from (hg2.block b0 H0.out.lt (fun e => HS.out.2.2.2.1 (by injection e))).trans H0.out); have d0 := B2.out.cell (i := 0) rfl; have d1 := B2.out.cell (i := 1) rfl; have d2 := B2.out.cell (i := 2) rfl; have f0 := B2.out.frozen 0; have f1 := B2.out.frozen 1; have f2 := B2.out.frozen 2)
    go_end0
    have h4 := (hg2.block e4 H4.out.lt (fun e => by injection e with e; exact HS.out.2.2.2.2.1 e)).trans H4.out
    have hx2 := ext_of_grown HS.out.1 hg2 HS.out.2.1
    refine ⟨rfl, rw_far3 h4 HS.out.2.2.2.2.2.1 _ _ _, ext_set3 hx2 HS.out.2.2.1 _ _ _, by rw [size_set3]; exact hg2.size, rw_far3 ((hg2.block b4 H5.out.lt (fun e => by injection e with e; exact H5N.out.1 e)).trans H5.out) H5N.out.2.1 _ _ _, rw_far3 ((hg2.block b2 H2.out.lt (fun e => by injection e with e; exact H5N.out.2.2.1 e)).trans H2.out) H5N.out.2.2.2 _ _ _, ((B2.out.set 0 _).set 1 _).set 2 _, rw_far3 R2.out (fun e => HS.out.2.2.2.1 e.symm) _ _ _⟩
/-- What ReadKey tells: the value, the place behind it, the error's number. -/
def rdKey (l : List UInt8) (at_ : Int) : Vl × Int × Int :=
  if at_ < 0 ∨ (l.length : Int) < at_ then ((0, 0, noS), 0, 1) else match valAt keyAt l at_.toNat with
    | some r => (r.1, (r.2 : Int), 0)
    | none => ((0, 0, noS), 0, 3)
def RkC (w : World) (x : Vl × Int × Int) (e : Ending) (w' : World) : Prop := Ext w w' ∧ e = .returned (.tuple #[.agg #[.int .u8 x.1.1, .int .i64 x.1.2.1, .string x.1.2.2], .int .i64 x.2.1, .int .i64 x.2.2])
set_option maxRecDepth 20000 in
set_option maxHeartbeats 1600000 in
theorem readKey_any (A : Option Addr) (l : List UInt8) (n c : Nat) (at_ : Int) (w : World) (hr : Rd w A l) (hn : l.length = n) (hnc : n ≤ c) (hl : n ≤ 140737488351232) (hlo : -9223372036854775808 ≤ at_) (hhi : at_ < 9223372036854775808) (hT : Tabs w) :
    Calls Tryd.prog 20 #[.slice A n c, .int .i64 at_] w (RkC w (rdKey l at_)) := by
  have hmf : ∀ (fn : Fn) (first cap : Array Value) (w : World), (Instr.makeFunc fn first cap).run Tryd.prog w = .ok (.func fn first cap) w := fun _ _ _ _ => rfl
  by_cases hlt : at_ < 0
  · have HR : Hid (rdKey l at_ = ((0, 0, noS), 0, 1)) := hide (by unfold rdKey; rw [if_pos (.inl hlt)])
    rw [HR.out]
    clear hr hT hhi hlo hl
    go_enter Tryd.func20, Tryd.ntmps20
    have y0 := (Rw.new w 26 [.int .u8 0, .int .i64 0, .string ⟨#[]⟩]).cell (i := 0) rfl
    have y1 := (Rw.new w 26 [.int .u8 0, .int .i64 0, .string ⟨#[]⟩]).cell (i := 1) rfl
    have y2 := (Rw.new w 26 [.int .u8 0, .int .i64 0, .string ⟨#[]⟩]).cell (i := 2) rfl
    go_wp2
    refine bodyPost_ret (v := .tuple #[.agg #[.int .u8 0, .int .i64 0, .string ⟨#[]⟩], .int .i64 0, .int .i64 1]) (by simp [results, Tryd.results20, go_sem, y0, y1, y2]; try rfl) rfl ⟨Ext.alloc _ _, rfl⟩
  · by_cases hgt : (n : Int) < at_
    · have HR : Hid (rdKey l at_ = ((0, 0, noS), 0, 1)) := hide (by unfold rdKey; rw [if_pos (.inr (by omega))])
      rw [HR.out]
      clear hr hT hhi hlo hl
      have y0 := (Rw.new w 26 [.int .u8 0, .int .i64 0, .string ⟨#[]⟩]).cell (i := 0) rfl
      have y1 := (Rw.new w 26 [.int .u8 0, .int .i64 0, .string ⟨#[]⟩]).cell (i := 1) rfl
      have y2 := (Rw.new w 26 [.int .u8 0, .int .i64 0, .string ⟨#[]⟩]).cell (i := 2) rfl
      go_enter Tryd.func20, Tryd.ntmps20
      go_wp2
      refine bodyPost_ret (v := .tuple #[.agg #[.int .u8 0, .int .i64 0, .string ⟨#[]⟩], .int .i64 0, .int .i64 1]) (by simp [results, Tryd.results20, go_sem, y0, y1, y2]; try rfl) rfl ⟨Ext.alloc _ _, rfl⟩
    · obtain ⟨a, rfl⟩ : ∃ a : Nat, at_ = (a : Int) := ⟨at_.toNat, by omega⟩
      have han : a ≤ n := by omega
      obtain ⟨r, HR⟩ : ∃ r, Hid (valAt keyAt l a = r) := ⟨_, hide rfl⟩
      obtain ⟨z, HZ⟩ : ∃ z, Hid (rdKey l (a : Int) = z) := ⟨_, hide rfl⟩
      rw [HZ.out]
      go_enter Tryd.func20, Tryd.ntmps20
      go_upto_region 5 with fail
      obtain ⟨W3, hX3, h5, h0, hg, h2, hsz, hgg⟩ : ∃ W3, Ext w W3 ∧ Rw W3 w.heap.size 26 [.int .u8 0, .int .i64 0, .string ⟨#[]⟩] ∧ Rw W3 (w.heap.size + 1) 26 [.int .u8 0, .int .i64 0, .string ⟨#[]⟩] ∧ RdrC W3 (w.heap.size + 1 + 1) A n c a ∧ Rw W3 (w.heap.size + 1 + 1 + 1) 60 [.pointer (some ⟨w.heap.size + 1 + 1, 0, none⟩)] ∧ W3.heap.size = w.heap.size + 4 ∧ (((w.alloc (.cells #[.int .u8 0, .int .i64 0, .string ⟨#[]⟩] 26)).alloc (.cells #[.int .u8 0, .int .i64 0, .string ⟨#[]⟩] 26)).alloc (.cells #[.slice A n c, .int .i64 (a : Int)] 62)).alloc (.cells #[.pointer (some ⟨w.heap.size + 1 + 1, 0, none⟩)] 60) = W3 := by
        have e1 : (w.alloc (.cells #[.int .u8 0, .int .i64 0, .string ⟨#[]⟩] 26)).heap.size = w.heap.size + 1 := by simp
        have e2 : ((w.alloc (.cells #[.int .u8 0, .int .i64 0, .string ⟨#[]⟩] 26)).alloc (.cells #[.int .u8 0, .int .i64 0, .string ⟨#[]⟩] 26)).heap.size = w.heap.size + 1 + 1 := by simp
        have e3 : (((w.alloc (.cells #[.int .u8 0, .int .i64 0, .string ⟨#[]⟩] 26)).alloc (.cells #[.int .u8 0, .int .i64 0, .string ⟨#[]⟩] 26)).alloc (.cells #[.slice A n c, .int .i64 (a : Int)] 62)).heap.size = w.heap.size + 1 + 1 + 1 := by simp
        refine ⟨_, (((Ext.alloc _ _).trans (Ext.alloc _ _)).trans (Ext.alloc _ _)).trans (Ext.alloc _ _), (((Rw.new w 26 [.int .u8 0, .int .i64 0, .string ⟨#[]⟩]).alloc _).alloc _).alloc _, ?_, ?_, ?_, by simp, rfl⟩
        · have h := Rw.new (w.alloc (.cells #[.int .u8 0, .int .i64 0, .string ⟨#[]⟩] 26)) 26 [.int .u8 0, .int .i64 0, .string ⟨#[]⟩]
          rw [e1] at h
          exact (h.alloc _).alloc _
        · have h := Rw.new ((w.alloc (.cells #[.int .u8 0, .int .i64 0, .string ⟨#[]⟩] 26)).alloc (.cells #[.int .u8 0, .int .i64 0, .string ⟨#[]⟩] 26)) 62 [.slice A n c, .int .i64 (a : Int)]
          rw [e2] at h
          exact h.alloc _
        · have h := Rw.new (((w.alloc (.cells #[.int .u8 0, .int .i64 0, .string ⟨#[]⟩] 26)).alloc (.cells #[.int .u8 0, .int .i64 0, .string ⟨#[]⟩] 26)).alloc (.cells #[.slice A n c, .int .i64 (a : Int)] 62)) 60 [.pointer (some ⟨w.heap.size + 1 + 1, 0, none⟩)]
          rw [e3] at h
          exact h
      rw [hgg]
      clear hgg
      have hX4 : Ext W3 (W3.alloc (.cells #[.int .i64 0] 28)) := Ext.alloc _ _
      have hz4 : (W3.alloc (.cells #[.int .i64 0] 28)).heap.size = w.heap.size + 5 := by simp [hsz]
      have K1 := readKey1 (w.heap.size + 1 + 1) (w.heap.size + 1 + 1 + 1) (w.heap.size + 1) W3.heap.size w.heap.size A l n c a w (W3.alloc (.cells #[.int .i64 0] 28)) hr (hX3.trans hX4) (by omega) (by omega) (by omega) (by omega) (by omega) (by omega) (by omega) hn hnc hl han (Rw.ext hg hX4) hT (h2.ext hX4) (h0.ext hX4) (Rw.new _ _ _) (h5.ext hX4) ⟨by omega, by omega, by omega, by omega⟩
      have KC := hide (caught_key #[.pointer (some ⟨w.heap.size + 1 + 1 + 1, 0, none⟩), .pointer (some ⟨w.heap.size + 1, 0, none⟩)] (valAt keyAt l a).isSome (ReadK w (w.heap.size + 5) w.heap.size (w.heap.size + 1 + 1 + 1) (w.heap.size + 1) (w.heap.size + 1 + 1) A n c (valAt keyAt l a)) W3 (by rw [hz4] at K1; exact K1))
      rw [HR.out] at KC
      have HSZ := hide hsz
      have HAL := hide (show (a : Int) ≤ (l.length : Int) from by omega)
      clear hr hT hX3 h0 hg h2 hsz hX4 hz4 K1 h5
      have KE : Hid (Calls Tryd.prog 32 #[.func (.func 37) #[] #[.pointer (some ⟨w.heap.size + 1 + 1 + 1, 0, none⟩), .pointer (some ⟨w.heap.size + 1, 0, none⟩)]] W3 (fun e w' => e = .returned (.int .i64 (if r.isSome = true then 0 else 3)) ∧ ReadK w (w.heap.size + 5) w.heap.size (w.heap.size + 1 + 1 + 1) (w.heap.size + 1) (w.heap.size + 1 + 1) A n c r w')) := hide (KC.out.mono fun e w' ⟨he, w1, hR1, hg1⟩ => ⟨he, by
        obtain ⟨x1, x2, x3, x4, x5⟩ := hR1
        have kp : ∀ {b : Nat} {t : TypeId} {vs : List Value}, Rw w1 b t vs → b ≠ W3.heap.size → Rw w' b t vs := fun {b t vs} hb hne => (hg1.block b hb.lt (fun e => by injection e with e; exact hne e)).trans hb
        refine ⟨⟨hg1.os.trans x1.os, hg1.tape.trans x1.tape, hg1.output.trans x1.output, Nat.le_trans x1.size hg1.size, fun j hj => (hg1.block j (Nat.lt_of_lt_of_le hj x1.size) (fun e => by injection e with e; have := HSZ.out; omega)).trans (x1.block j hj)⟩, Nat.le_trans x2 hg1.size, kp x3 (by have := HSZ.out; omega), kp x4 (by have := HSZ.out; omega), ?_⟩
        cases r with
        | none => trivial
        | some q => exact ⟨kp x5.1 (by have := HSZ.out; omega), kp x5.2 (by have := HSZ.out; omega)⟩⟩)
      clear KC
      cases r with
      | none =>
        obtain rfl : z = ((0, 0, noS), 0, 3) := by
          rw [← HZ.out]
          unfold rdKey
          have := HAL.out
          rw [if_neg (by omega), Int.toNat_natCast, HR.out]
        have KE2 := hide (show Calls Tryd.prog 32 #[.func (.func 37) #[] #[.pointer (some ⟨w.heap.size + 1 + 1 + 1, 0, none⟩), .pointer (some ⟨w.heap.size + 1, 0, none⟩)]] W3 (fun e w' => e = .returned (.int .i64 3) ∧ ReadK w (w.heap.size + 5) w.heap.size (w.heap.size + 1 + 1 + 1) (w.heap.size + 1) (w.heap.size + 1 + 1) A n c none w') from KE.out)
        clear KE
        go_wp2_with (go_at_call 32; (with_reducible refine KE2.out.mono ?_); rintro e w5 ⟨rfl, x1, x2, x3, x4, -⟩; have d0 := x3.cell (i := 0) rfl; have d1 := x3.cell (i := 1) rfl; have d2 := x3.cell (i := 2) rfl; have f0 := x3.frozen 0; have f1 := x3.frozen 1; have f2 := x3.frozen 2)
        have ZS := ((x3.set 0 (.int .u8 0)).set 1 (.int .i64 0)).set 2 (.string ⟨#[]⟩)
        have XS := ext_set3 x1 (Nat.le_refl _) (.int .u8 0) (.int .i64 0) (.string ⟨#[]⟩)
        have y0 := ZS.cell (i := 0) rfl
        have y1 := ZS.cell (i := 1) rfl
        have y2 := ZS.cell (i := 2) rfl
        refine bodyPost_ret (v := .tuple #[.agg #[.int .u8 0, .int .i64 0, .string ⟨#[]⟩], .int .i64 0, .int .i64 3]) (by simp [results, Tryd.results20, go_sem, y0, y1, y2]; try rfl) rfl ⟨XS, rfl⟩
      | some q =>
        obtain ⟨x, k⟩ := q
        obtain rfl : z = (x, (k : Int), 0) := by
          rw [← HZ.out]
          unfold rdKey
          have := HAL.out
          rw [if_neg (by omega), Int.toNat_natCast, HR.out]
        have KE2 := hide (show Calls Tryd.prog 32 #[.func (.func 37) #[] #[.pointer (some ⟨w.heap.size + 1 + 1 + 1, 0, none⟩), .pointer (some ⟨w.heap.size + 1, 0, none⟩)]] W3 (fun e w' => e = .returned (.int .i64 0) ∧ ReadK w (w.heap.size + 5) w.heap.size (w.heap.size + 1 + 1 + 1) (w.heap.size + 1) (w.heap.size + 1 + 1) A n c (some (x, k)) w') from KE.out)
        clear KE
        go_upto_region 8 with (go_at_call 32; (with_reducible refine KE2.out.mono ?_); rintro e w5 ⟨rfl, x1, x2, x3, x4, x5, x6⟩; have X1 := hide x1; have X3 := hide x3; have d0 := x3.cell (i := 0) rfl; have d1 := x3.cell (i := 1) rfl; have d2 := x3.cell (i := 2) rfl; have f0 := x3.frozen 0; have f1 := x3.frozen 1; have f2 := x3.frozen 2; have p0 := x4.cell (i := 0) rfl; have v0 := x5.cell (i := 0) rfl; have v1 := x5.cell (i := 1) rfl; have v2 := x5.cell (i := 2) rfl; have r1 := Rw.cell x6 (i := 1) rfl; clear x1 x2 x3 x4 x5 x6)
        go_region
        go_wp2
        have ZS := (((X3.out.set 0 (.int .u8 x.1)).set 1 (.int .i64 x.2.1)).set 2 (.string x.2.2)).ext (Ext.drew _)
        have XS := (ext_set3 X1.out (Nat.le_refl _) (.int .u8 x.1) (.int .i64 x.2.1) (.string x.2.2)).trans (Ext.drew _)
        have y0 := ZS.cell (i := 0) rfl
        have y1 := ZS.cell (i := 1) rfl
        have y2 := ZS.cell (i := 2) rfl
        refine bodyPost_ret (v := .tuple #[.agg #[.int .u8 x.1, .int .i64 x.2.1, .string x.2.2], .int .i64 (k : Int), .int .i64 0]) (by simp [results, Tryd.results20, go_sem, y0, y1, y2]; try rfl) rfl ⟨XS, rfl⟩
end Go.Proofs.YtpdikmcaihlbaaaDoor
namespace Go.Proofs.YtpdikmcaihlbaaaDoor
open Go.RowKit

theorem run_make_room (c : Nat) (hc : c ≤ 281474976710656) (W : World) : (Instr.makeSlice 27 (.int .i64 0) (.int .i64 (c : Int))).run Tryd.prog W =
    .ok (.slice (some ⟨W.heap.size, 0, none⟩) 0 c) (W.alloc (.cells (madeCells #[.int .u8 0] c) 5)) := by
  obtain ⟨i0, hi, hz0, hz1, hz2⟩ := info_parts info_u8
  have h := run_make (P := Tryd.prog) W 27 5 i0 (.int .u8 0) Tryd.underlying27 hi hz0 .i64 .i64 0 (c : Int) (by omega) (by omega) (by rw [hz2]; omega) (by omega)
  simpa [hz1, Value.cells] using h
theorem Own.room (W : World) (base c : Nat) (hb : base ≤ W.heap.size) (hc : c ≤ 281474976710656) : Own (W.alloc (.cells (madeCells #[.int .u8 0] c) 5)) base (.slice (some ⟨W.heap.size, 0, none⟩) 0 c) [] :=
  World.ownsRow_made W _ c hb (by unfold maxLen; omega) (by simp [madeCells])
end Go.Proofs.YtpdikmcaihlbaaaDoor
namespace Go.Proofs.YtpdikmcaihlbaaaDoor
open Go.RowKit

def alph : ByteArray := ⟨#[65, 66, 67, 68, 69, 70, 71, 72, 73, 74, 75, 76, 77, 78, 79, 80, 81, 82, 83, 84, 85, 86, 87, 88, 89, 90, 97, 98, 99, 100, 101, 102, 103, 104, 105, 106, 107, 108, 109, 110, 111, 112, 113, 114, 115, 116, 117, 118, 119, 120, 121, 122, 48, 49, 50, 51, 52, 53, 54, 55, 56, 57, 45, 95]⟩
/-- The sign of six bits. -/
def sgn (v : Nat) : UInt8 := alph.data.toList.getD v 0
theorem u8i (x : UInt8) : (x.toNat : Int) < 256 := by have := x.toNat_lt; omega
theorem u8z (x : UInt8) : (0 : Int) ≤ (x.toNat : Int) := Int.natCast_nonneg _
theorem sgn_at (v : Nat) (h : v < alph.size) : b8 (((alph[v]'h).toNat : Nat) : Int) = sgn v := by
  rw [b8_byte]
  unfold sgn
  rw [List.getD_eq_getElem?_getD, Array.getElem?_toList, Array.getElem?_eq_getElem (by exact h)]
  rfl
/-- The signs that so many bits give. -/
def emitN (b l : Nat) : List UInt8 := if l < 6 then [] else if l < 12 then [sgn (b / 2 ^ (l - 6) % 64)] else [sgn (b / 2 ^ (l - 6) % 64), sgn (b / 2 ^ (l - 12) % 64)]
theorem emitN_step (b l : Nat) (h : l + 6 < 14) : emitN b (l + 6) = sgn (b / 2 ^ l % 64) :: emitN b l := by
  unfold emitN
  rw [if_neg (by omega)]
  by_cases h6 : l < 6
  · rw [if_pos (by omega), if_pos h6, Nat.add_sub_cancel]
  · rw [if_neg (by omega), if_neg h6, if_pos (by omega), Nat.add_sub_cancel, show l + 6 - 12 = l - 6 by omega]
theorem emitN_none (b l : Nat) (h : l < 6) : emitN b l = [] := by unfold emitN; rw [if_pos h]
/-- What Base does with some bytes, with the bits that are left: the signs, the bits, how many are left. -/
def goB : List UInt8 → Nat → Nat → List UInt8 × Nat × Nat
  | [], b, l => ([], b, l)
  | x :: xs, b, l => (emitN (b * 256 % 4294967296 + x.toNat) (l + 8) ++ (goB xs (b * 256 % 4294967296 + x.toNat) ((l + 8) % 6)).1, (goB xs (b * 256 % 4294967296 + x.toNat) ((l + 8) % 6)).2)
/-- Base 64, as the call makes it. -/
def baseB (l : List UInt8) : List UInt8 := (goB l 0 0).1 ++ if 0 < (goB l 0 0).2.2 then [sgn ((goB l 0 0).2.1 * 2 ^ (6 - (goB l 0 0).2.2) % 64)] else []
theorem emitN_len (b l : Nat) (h : l < 14) : (emitN b l).length = l / 6 := by
  unfold emitN
  split
  · rename_i h1; rw [Nat.div_eq_of_lt h1]; rfl
  · split
    · show 1 = _; omega
    · show 2 = _; omega
theorem goB_len : ∀ (xs : List UInt8) (b l : Nat), l < 6 → (goB xs b l).1.length * 6 + (goB xs b l).2.2 = xs.length * 8 + l ∧ (goB xs b l).2.2 < 6
  | [], b, l, h => ⟨by simp [goB], h⟩
  | x :: xs, b, l, h => by
    have ih := goB_len xs (b * 256 % 4294967296 + x.toNat) ((l + 8) % 6) (Nat.mod_lt _ (by decide))
    refine ⟨?_, ih.2⟩
    have e := emitN_len (b * 256 % 4294967296 + x.toNat) (l + 8) (by omega)
    simp only [goB, List.length_append, List.length_cons, e]
    have := ih.1
    omega
theorem and_63 (b : Nat) (h : b < 4294967296) : bits .and .u32 (b : Int) 63 = ((b % 64 : Nat) : Int) := by
  show IntKind.u32.wrap ((BitVec.ofInt 32 ((b : Nat) : Int) &&& BitVec.ofInt 32 ((63 : Nat) : Int)).toNat : Int) = _
  rw [BitVec.toNat_and, BitVec.ofInt_natCast, BitVec.ofInt_natCast, BitVec.toNat_ofNat, BitVec.toNat_ofNat, Nat.mod_eq_of_lt (show b < 2 ^ 32 by omega), Nat.mod_eq_of_lt (show 63 < 2 ^ 32 by omega),
    show (63 : Nat) = 2 ^ 6 - 1 from rfl, Nat.and_two_pow_sub_one_eq_mod, IntKind.wrap_u32]
  omega
theorem or_u8 (b x : Nat) (hx : x < 256) : bits .or .u32 ((b : Int) * 256 % 4294967296) (x : Int) = ((b * 256 % 4294967296 + x : Nat) : Int) := by
  have e1 : (b : Int) * 256 % 4294967296 = (((b % 16777216) * 256 : Nat) : Int) := by omega
  have e2 : b * 256 % 4294967296 = (b % 16777216) * 256 := by omega
  rw [e1, e2]
  show IntKind.u32.wrap ((BitVec.ofInt 32 (((b % 16777216) * 256 : Nat) : Int) ||| BitVec.ofInt 32 ((x : Nat) : Int)).toNat : Int) = _
  rw [BitVec.toNat_or, BitVec.ofInt_natCast, BitVec.ofInt_natCast, BitVec.toNat_ofNat, BitVec.toNat_ofNat,
    Nat.mod_eq_of_lt (show (b % 16777216) * 256 < 2 ^ 32 by omega), Nat.mod_eq_of_lt (show x < 2 ^ 32 by omega), or_low _ _ hx, IntKind.wrap_u32]
  omega
set_option maxRecDepth 20000 in
set_option maxHeartbeats 3200000 in
theorem base_any (A : Option Addr) (l : List UInt8) (n c : Nat) (w : World) (hr : Rd w A l) (hn : l.length = n) (hnc : n ≤ c) (hl : n ≤ 1000000) :
    Calls Tryd.prog 24 #[.slice A n c] w (Ret w (Is (.string ⟨(baseB l).toArray⟩))) := by
  have HR := hide hr
  have HN := hide hn
  have hnI : (n : Int) ≤ 1000000 := by omega
  obtain ⟨m, HM⟩ : ∃ m : Nat, Hid (n / 3 = m) := ⟨_, hide rfl⟩
  have hm3 : (n : Int) / 3 = (m : Int) := by have := HM.out; omega
  have hmI : (m : Int) ≤ 400000 := by have := HM.out; omega
  have hmk := fun W => run_make_room (m * 4 + 3) (by omega) W
  rw [show ((m * 4 + 3 : Nat) : Int) = (m : Int) * 4 + 3 from by omega] at hmk
  obtain ⟨TA, TB, TL, HTT⟩ : ∃ TA TB TL, Hid (goB l 0 0 = (TA, TB, TL)) := ⟨_, _, _, hide rfl⟩
  have HTL : Hid (TA.length * 6 + TL = n * 8 ∧ TL < 6) := hide (by have h := goB_len l 0 0 (by decide); rw [HTT.out, hn] at h; exact h)
  have HBB : Hid (baseB l = TA ++ if 0 < TL then [sgn (TB * 2 ^ (6 - TL) % 64)] else []) := hide (by unfold baseB; rw [HTT.out])
  clear hr hn
  go_enter Tryd.func24, Tryd.ntmps24
  go_upto_region 4 with fail
  have hown0 := Own.room w w.heap.size (m * 4 + 3) (Nat.le_refl _) (by omega)
  go_loopw [3, 4, 5, 7, 16] (fun ov bv lv _ iv wr => ∃ (i bt lf : Nat) (acc : List UInt8), i ≤ n ∧ iv = .int .i64 (i : Int) ∧ bv = .int .u32 (bt : Int) ∧ bt < 4294967296 ∧ lv = .int .i64 (lf : Int) ∧ lf < 6 ∧ Hid (Ext w wr) ∧ Hid (Own wr w.heap.size ov acc) ∧ Hid (acc ++ (goB (l.drop i) bt lf).1 = TA ∧ (goB (l.drop i) bt lf).2 = (TB, TL))) (fun _ _ _ _ iv _ => n - (intOf iv).toNat)
  case atStart => exact ⟨0, 0, 0, [], Nat.zero_le _, rfl, rfl, by decide, rfl, by decide, hide (Ext.alloc _ _), hide hown0, hide (by rw [List.drop_zero, HTT.out]; exact ⟨rfl, rfl⟩)⟩
  case round =>
    obtain ⟨i, bt, lf, acc, hi, rfl, rfl, hbt, rfl, hlf, HX, HO, HG⟩ := hrel
    by_cases hlt : i < n
    · have hii : (i : Int) < (n : Int) := by omega
      obtain ⟨x, hx⟩ : ∃ x, l[i]? = some x := ⟨_, List.getElem?_eq_getElem (by rw [HN.out]; exact hlt)⟩
      obtain ⟨b, off, hA, hc⟩ := HR.out (by intro h; rw [h] at hx; cases hx)
      subst hA
      have c0 := HX.out.keeps.cell (hc i x hx)
      clear hc
      have hxl := x.toNat_lt
      have HDR : Hid (l.drop i = x :: l.drop (i + 1)) := hide (by
        have hlt' : i < l.length := by rw [HN.out]; exact hlt
        rw [List.drop_eq_getElem_cons hlt']
        rw [List.getElem?_eq_getElem hlt'] at hx
        injection hx with hx
        rw [hx])
      have hor := or_u8 bt x.toNat (by omega)
      obtain ⟨b1, HB1⟩ : ∃ u : Nat, Hid (bt * 256 % 4294967296 + x.toNat = u) := ⟨_, hide rfl⟩
      rw [HB1.out] at hor
      have hb1 : b1 < 4294967296 := by have := HB1.out; omega
      have HG1 : Hid (acc ++ (emitN b1 (lf + 8) ++ (goB (l.drop (i + 1)) b1 ((lf + 8) % 6)).1) = TA ∧ (goB (l.drop (i + 1)) b1 ((lf + 8) % 6)).2 = (TB, TL)) := hide (by
        have h := HG.out
        rw [HDR.out] at h
        simp only [goB, HB1.out] at h
        exact h)
      obtain ⟨wr, HWR⟩ := worldOf HX
      subst HWR
      have hli : (lf : Int) < 6 := by omega
      clear hx HG
      go_upto_region 8 with fail
      go_loopw [3, 5] (fun ov lv w2 => ∃ (l2 : Nat) (ac2 : List UInt8), lv = .int .i64 (l2 : Int) ∧ l2 < 14 ∧ l2 % 6 = (lf + 8) % 6 ∧ Hid (Ext w w2) ∧ Hid (Own w2 w.heap.size ov ac2) ∧ Hid (ac2 ++ emitN b1 l2 = acc ++ emitN b1 (lf + 8))) (fun _ lv _ => (intOf lv).toNat)
      case atStart => exact ⟨lf + 8, acc, by push_cast; rfl, by omega, rfl, HX, HO, hide rfl⟩
      case round =>
        obtain ⟨l2, ac2, rfl, hl2, hm2, HX2, HO2, HE2⟩ := hrel
        by_cases h6 : 6 ≤ l2
        · have h6i : (6 : Int) ≤ (l2 : Int) := by omega
          obtain ⟨l3, rfl⟩ : ∃ l3, l2 = l3 + 6 := ⟨l2 - 6, by omega⟩
          have h66 : ((l3 + 6 : Nat) : Int) - 6 = (l3 : Int) := by omega
          have hq : b1 / 2 ^ l3 < 4294967296 := Nat.lt_of_le_of_lt (Nat.div_le_self _ _) hb1
          have hand := and_63 (b1 / 2 ^ l3) hq
          obtain ⟨v, HV⟩ : ∃ v, Hid (b1 / 2 ^ l3 % 64 = v) := ⟨_, hide rfl⟩
          rw [HV.out] at hand
          have hdv : ((b1 / 2 ^ l3 : Nat) : Int) = (b1 : Int) / 2 ^ l3 := by rw [Int.natCast_ediv, Int.natCast_pow]; rfl
          rw [hdv] at hand
          have hv64 : v < 64 := by rw [← HV.out]; exact Nat.mod_lt _ (by decide)
          have hvs : v < alph.size := hv64
          have hlen : Hid (ac2.length ≤ 2000000) := hide (by
            have h1 := congrArg List.length HE2.out
            have h2 := congrArg List.length HG1.out.1
            have h3 := HTL.out.1
            simp only [List.length_append] at h1 h2
            omega)
          have hl3i : (l3 : Int) ≤ 13 := by omega
          go_wp2_with (at_builtin; go_loud (refine wpList_push (by rfl) (.tmp 31) (.tmp 37) rfl w.heap.size _ ac2 rfl rfl HO2.out (u8z _) (u8i _) HX2.out.size (by have := hlen.out; omega) ?_; intro v3 w3 ho3 hb3; have ho3 := (show b8 _ = sgn v from sgn_at v hvs) ▸ ho3; have X3 := hide (HX2.out.below (Nat.le_refl _) hb3)))
          refine ⟨⟨l3, ac2 ++ [sgn v], rfl, by omega, by omega, X3, hide ho3, hide ?_⟩, by simp [intOf]; omega⟩
          have h1 := HE2.out
          rw [emitN_step b1 l3 hl2, HV.out] at h1
          rw [List.append_assoc]
          exact h1
        · have h6i : ¬ (6 : Int) ≤ (l2 : Int) := by omega
          have hE : Hid (ac2 ++ (goB (l.drop (i + 1)) b1 l2).1 = TA ∧ (goB (l.drop (i + 1)) b1 l2).2 = (TB, TL)) := hide (by
            have h1 := HE2.out
            rw [emitN_none b1 l2 (by omega), List.append_nil] at h1
            have h2 := HG1.out
            rw [← hm2, Nat.mod_eq_of_lt (show l2 < 6 by omega), ← List.append_assoc, ← h1] at h2
            exact h2)
          go_wp2
          exact ⟨⟨i + 1, b1, l2, ac2, by omega, by go_num, rfl, hb1, rfl, by omega, HX2, HO2, hE⟩, by simp [intOf]; omega⟩
    · obtain rfl : i = n := by omega
      have hii : ¬ (i : Int) < (i : Int) := by omega
      have HD : Hid (acc = TA ∧ bt = TB ∧ lf = TL) := hide (by
        have h := HG.out
        rw [List.drop_of_length_le (by rw [HN.out]; exact Nat.le_refl _)] at h
        simp only [goB, List.append_nil, Prod.mk.injEq] at h
        exact ⟨h.1, h.2.1, h.2.2⟩)
      have hlen : Hid (acc.length ≤ 2000000) := hide (by rw [HD.out.1]; have := HTL.out.1; omega)
      by_cases h0 : 0 < lf
      · have h0i : (0 : Int) < (lf : Int) := by omega
        obtain ⟨k, HK⟩ : ∃ k : Nat, Hid (6 - lf = k) := ⟨_, hide rfl⟩
        have hk : (6 : Int) - (lf : Int) = (k : Int) := by have := HK.out; omega
        have hki : (k : Int) ≤ 6 := by omega
        obtain ⟨q, HQ⟩ : ∃ q : Nat, Hid (bt * 2 ^ k % 4294967296 = q) := ⟨_, hide rfl⟩
        have hq : q < 4294967296 := by rw [← HQ.out]; exact Nat.mod_lt _ (by decide)
        have hqi : (bt : Int) * 2 ^ k % 4294967296 = (q : Int) := by rw [← HQ.out, Int.natCast_emod, Int.natCast_mul, Int.natCast_pow]; rfl
        have hand := and_63 q hq
        obtain ⟨v, HV⟩ : ∃ v, Hid (q % 64 = v) := ⟨_, hide rfl⟩
        rw [HV.out] at hand
        have hv64 : v < 64 := by rw [← HV.out]; exact Nat.mod_lt _ (by decide)
        have hvs : v < alph.size := hv64
        have HF : Hid (baseB l = acc ++ [sgn v]) := hide (by
          rw [HBB.out, ← HD.out.2.1, ← HD.out.2.2, if_pos h0, HK.out, ← HD.out.1, ← HV.out, ← HQ.out, Nat.mod_mod_of_dvd _ (show 64 ∣ 4294967296 from ⟨67108864, rfl⟩)])
        go_wp2_with (first
          | (at_builtin; refine wpList_push (by rfl) (.tmp 42) (.tmp 49) rfl w.heap.size _ acc rfl rfl HO.out (u8z _) (u8i _) HX.out.size (by have := hlen.out; omega) ?_; intro v3 w3 ho3 hb3; have ho3 := (show b8 _ = sgn v from sgn_at v hvs) ▸ ho3; have X3 := hide (HX.out.below (Nat.le_refl _) hb3))
          | (refine wpList_str (by rfl) (.tmp 51) rfl (acc ++ [sgn v]) ho3.bytes ?_))
        go_ret
        rw [HF.out]
        exact Ret.mk X3.out rfl
      · have h0i : ¬ (0 : Int) < (lf : Int) := by omega
        have HF : Hid (baseB l = acc) := hide (by rw [HBB.out, ← HD.out.2.2, if_neg h0, HD.out.1, List.append_nil])
        go_wp2_with (refine wpList_str (by rfl) (.tmp 51) rfl acc HO.out.bytes ?_)
        go_ret
        rw [HF.out]
        exact Ret.mk HX.out rfl
end Go.Proofs.YtpdikmcaihlbaaaDoor
namespace Go.Proofs.YtpdikmcaihlbaaaDoor
open Go.RowKit

def RetB (w : World) (b : Bool) (e : Ending) (w' : World) : Prop := e = .returned (.bool b) ∧ Ext w w'
def aS : ByteArray := ⟨#[97]⟩
def litL : List Vl := [(1, 1, noS), (2, 0, aS), (0, 0, noS)]
theorem litL_enc : encT litL = (0, some [3, 1, 128, 0, 0, 0, 0, 0, 0, 1, 2, 1, 97, 0]) := by
  have h : okT aS = true := by kernel_rfl
  have h2 : litL.all vOk = true := by
    have e : vOk (2, 0, aS) = true := by
      unfold vOk
      simp only [if_neg (show ¬ (2 : Int) = 0 by decide), if_neg (show ¬ (2 : Int) = 1 by decide), if_pos, h]
      decide
    simp only [litL, List.all_cons, e]
    decide
  unfold encT
  rw [if_neg (by decide), if_pos h2]
  rfl
theorem litL_in : ∀ x ∈ litL, VlIn x := by
  intro x hx
  simp only [litL, List.mem_cons, List.not_mem_nil, or_false] at hx
  rcases hx with rfl | rfl | rfl <;> exact ⟨by decide, by decide, by decide⟩
theorem lit_rd (w : World) : RdV (w.alloc (.cells #[.int .u8 1, .int .i64 1, .string noS, .int .u8 2, .int .i64 0, .string aS, .int .u8 0, .int .i64 0, .string noS] 26)) (some ⟨w.heap.size, 0, none⟩) litL := fun _ => by
  have R := Rw.new w 26 [.int .u8 1, .int .i64 1, .string noS, .int .u8 2, .int .i64 0, .string aS, .int .u8 0, .int .i64 0, .string noS]
  refine ⟨_, _, rfl, fun j x hj => ?_⟩
  match j, hj with
  | 0, hj => injection hj with hj; subst hj; exact ⟨R.cell (i := 0) rfl, R.cell (i := 1) rfl, R.cell (i := 2) rfl⟩
  | 1, hj => injection hj with hj; subst hj; exact ⟨R.cell (i := 3) rfl, R.cell (i := 4) rfl, R.cell (i := 5) rfl⟩
  | 2, hj => injection hj with hj; subst hj; exact ⟨R.cell (i := 6) rfl, R.cell (i := 7) rfl, R.cell (i := 8) rfl⟩
  | j + 3, hj => cases hj
set_option maxRecDepth 20000 in
set_option maxHeartbeats 3200000 in
theorem awake_any (w : World) (ht : Tabs w) : Calls Tryd.prog 11 #[] w (RetB w true) := by
  have KE := hide (encode_any (some ⟨w.heap.size, 0, none⟩) litL 3 3 (w.alloc (.cells #[.int .u8 1, .int .i64 1, .string noS, .int .u8 2, .int .i64 0, .string aS, .int .u8 0, .int .i64 0, .string noS] 26)) (lit_rd w) rfl (by decide) (by decide) litL_in (ht.ext (Ext.alloc _ _)))
  rw [litL_enc] at KE
  have KB := hide (fun (W : World) => base_any (some ⟨W.heap.size, 0, none⟩) [255] 1 1 (W.alloc (.cells #[.int .u8 255] 5)) (Rd.byte W 5 255) rfl (by decide) (by decide))
  have hb : baseB [255] = [95, 119] := by kernel_rfl
  rw [hb] at KB
  clear ht
  unfold noS aS at KE
  go_enter Tryd.func11, Tryd.ntmps11
  go_upto_region 2 with (go_at_call 14; (with_reducible refine KE.out.mono ?_); rintro e w1 ⟨hx1, v1, rfl, ho1⟩; have X1 := hide ((Ext.alloc _ _).trans hx1); have B1 := hide ho1.bytes; clear ho1 hx1)
  go_wp2_with (first
    | (refine wpList_str (by rfl) (.tmp 14) rfl [3, 1, 128, 0, 0, 0, 0, 0, 0, 1, 2, 1, 97, 0] B1.out ?_)
    | (go_at_call 24; (with_reducible refine (KB.out _).mono ?_); rintro e w2 ⟨v2, rfl, hx2, rfl⟩; have X2 := hide (X1.out.trans ((Ext.alloc _ _).trans hx2)); clear hx2))
  go_ret
  exact ⟨rfl, X2.out⟩
end Go.Proofs.YtpdikmcaihlbaaaDoor
namespace Go.Proofs.YtpdikmcaihlbaaaDoor
open Go.RowKit

theorem noS_size {s : ByteArray} (h : ¬ s = noS) : ¬ s.size = 0 := fun hz => h (by
  cases s with
  | mk d =>
    have e : d = #[] := Array.eq_empty_of_size_eq_zero hz
    rw [e]; rfl)
set_option maxRecDepth 20000 in
set_option maxHeartbeats 1600000 in
theorem rform_0 (n : Int) (s : ByteArray) (w : World) : Calls Tryd.prog 13 #[.agg #[.int .u8 0, .int .i64 n, .string s]] w (RetB w (vOk (0, n, s))) := by
  by_cases hn : n = 0
  · subst hn
    by_cases hs : s = noS
    · subst hs
      unfold noS
      have hv : vOk (0, 0, ⟨#[]⟩) = true := by simp [vOk, noS]
      rw [hv]
      clear hv
      go_enter Tryd.func13, Tryd.ntmps13
      go_wp2
      go_ret
      exact ⟨rfl, Ext.alloc _ _⟩
    · have hsz := noS_size hs
      have hszi : ¬ (s.size : Int) = 0 := by omega
      have hszb : ((s.size : Int) == 0) = false := by simpa using hszi
      have hv : vOk (0, 0, s) = false := by simp [vOk, hs]
      rw [hv]
      clear hv
      go_enter Tryd.func13, Tryd.ntmps13
      go_wp2
      go_ret
      exact ⟨rfl, Ext.alloc _ _⟩
  · have hnb : (n == 0) = false := by simpa using hn
    have hv : vOk (0, n, s) = false := by simp [vOk, hn]
    rw [hv]
    clear hv
    go_enter Tryd.func13, Tryd.ntmps13
    go_wp2
    go_ret
    exact ⟨rfl, Ext.alloc _ _⟩
set_option maxRecDepth 20000 in
set_option maxHeartbeats 1600000 in
theorem rform_1 (n : Int) (s : ByteArray) (w : World) : Calls Tryd.prog 13 #[.agg #[.int .u8 1, .int .i64 n, .string s]] w (RetB w (vOk (1, n, s))) := by
  by_cases hs : s = noS
  · subst hs
    unfold noS
    have hv : vOk (1, n, ⟨#[]⟩) = true := by simp [vOk, noS]
    rw [hv]
    clear hv
    go_enter Tryd.func13, Tryd.ntmps13
    go_wp2
    go_ret
    exact ⟨rfl, Ext.alloc _ _⟩
  · have hsz := noS_size hs
    have hszi : ¬ (s.size : Int) = 0 := by omega
    have hszb : ((s.size : Int) == 0) = false := by simpa using hszi
    have hv : vOk (1, n, s) = false := by simp [vOk, hs]
    rw [hv]
    clear hv
    go_enter Tryd.func13, Tryd.ntmps13
    go_wp2
    go_ret
    exact ⟨rfl, Ext.alloc _ _⟩
set_option maxRecDepth 20000 in
set_option maxHeartbeats 1600000 in
theorem rform_2 (n : Int) (s : ByteArray) (w : World) (KV : ∀ W, Ext w W → Calls Tryd.prog 29 #[.string s] W (RetV W (.bool (okT s)))) : Calls Tryd.prog 13 #[.agg #[.int .u8 2, .int .i64 n, .string s]] w (RetB w (vOk (2, n, s))) := by
  by_cases hn : n = 0
  · subst hn
    by_cases hl : s.size ≤ 60
    · have hli : (s.size : Int) ≤ 60 := by omega
      cases hv0 : okT s
      · rw [hv0] at KV
        have hv : vOk (2, 0, s) = false := by simp [vOk, hv0]
        rw [hv]
        clear hv
        go_enter Tryd.func13, Tryd.ntmps13
        go_wp2_with (go_at_call 29; (with_reducible refine (KV _ (Ext.alloc _ _)).mono ?_); rintro e w1 ⟨rfl, hx1⟩; have X1 : Ext w w1 := (Ext.alloc _ _).trans hx1)
        go_ret
        exact ⟨rfl, X1⟩
      · rw [hv0] at KV
        have hv : vOk (2, 0, s) = true := by simp [vOk, hv0, hl]
        rw [hv]
        clear hv
        go_enter Tryd.func13, Tryd.ntmps13
        go_wp2_with (go_at_call 29; (with_reducible refine (KV _ (Ext.alloc _ _)).mono ?_); rintro e w1 ⟨rfl, hx1⟩; have X1 : Ext w w1 := (Ext.alloc _ _).trans hx1)
        go_ret
        exact ⟨rfl, X1⟩
    · have hli : ¬ (s.size : Int) ≤ 60 := by omega
      have hv : vOk (2, 0, s) = false := by simp [vOk, hl]
      rw [hv]
      clear hv
      go_enter Tryd.func13, Tryd.ntmps13
      go_wp2
      go_ret
      exact ⟨rfl, Ext.alloc _ _⟩
  · have hnb : (n == 0) = false := by simpa using hn
    have hv : vOk (2, n, s) = false := by simp [vOk, hn]
    rw [hv]
    clear hv
    go_enter Tryd.func13, Tryd.ntmps13
    go_wp2
    go_ret
    exact ⟨rfl, Ext.alloc _ _⟩
set_option maxRecDepth 20000 in
set_option maxHeartbeats 1600000 in
theorem rform_3 (n : Int) (s : ByteArray) (w : World) : Calls Tryd.prog 13 #[.agg #[.int .u8 3, .int .i64 n, .string s]] w (RetB w (vOk (3, n, s))) := by
  by_cases hs : s = noS
  · subst hs
    unfold noS
    by_cases h0 : 0 ≤ n
    · by_cases h1 : n ≤ 1
      · have h01 : n = 0 ∨ n = 1 := by omega
        have hv : vOk (3, n, ⟨#[]⟩) = true := by simp [vOk, noS, h01]
        rw [hv]
        clear hv
        go_enter Tryd.func13, Tryd.ntmps13
        go_wp2
        go_ret
        exact ⟨rfl, Ext.alloc _ _⟩
      · have h01 : ¬ (n = 0 ∨ n = 1) := by omega
        have hv : vOk (3, n, ⟨#[]⟩) = false := by unfold vOk; simp [h01]
        rw [hv]
        clear hv
        go_enter Tryd.func13, Tryd.ntmps13
        go_wp2
        go_ret
        exact ⟨rfl, Ext.alloc _ _⟩
    · have h01 : ¬ (n = 0 ∨ n = 1) := by omega
      have hv : vOk (3, n, ⟨#[]⟩) = false := by unfold vOk; simp [h01]
      rw [hv]
      clear hv
      go_enter Tryd.func13, Tryd.ntmps13
      go_wp2
      go_ret
      exact ⟨rfl, Ext.alloc _ _⟩
  · have hsz := noS_size hs
    have hszi : ¬ (s.size : Int) = 0 := by omega
    have hszb : ((s.size : Int) == 0) = false := by simpa using hszi
    have hv : vOk (3, n, s) = false := by simp [vOk, hs]
    rw [hv]
    clear hv
    go_enter Tryd.func13, Tryd.ntmps13
    go_wp2
    go_ret
    exact ⟨rfl, Ext.alloc _ _⟩
set_option maxRecDepth 20000 in
set_option maxHeartbeats 1600000 in
theorem rform_o (n : Int) (s : ByteArray) (w : World) (k : Int) (h0 : k ≠ 0) (h1 : k ≠ 1) (h2 : k ≠ 2) (h3 : k ≠ 3) : Calls Tryd.prog 13 #[.agg #[.int .u8 k, .int .i64 n, .string s]] w (RetB w (vOk (k, n, s))) := by
  have h0b : (k == 0) = false := by simpa using h0
  have h1b : (k == 1) = false := by simpa using h1
  have h2b : (k == 2) = false := by simpa using h2
  have h3b : (k == 3) = false := by simpa using h3
  have hv : vOk (k, n, s) = false := by simp [vOk, h0, h1, h2, h3]
  rw [hv]
  clear hv
  go_enter Tryd.func13, Tryd.ntmps13
  go_wp2
  go_ret
  exact ⟨rfl, Ext.alloc _ _⟩
theorem rform_any (x : Vl) (w : World) (hb : VlIn x) (hT : Tabs w) : Calls Tryd.prog 13 #[.agg #[.int .u8 x.1, .int .i64 x.2.1, .string x.2.2]] w (RetB w (vOk x)) := by
  obtain ⟨k, n, s⟩ := x
  by_cases h0 : k = 0
  · subst h0; exact rform_0 n s w
  by_cases h1 : k = 1
  · subst h1; exact rform_1 n s w
  by_cases h2 : k = 2
  · subst h2; exact rform_2 n s w (fun W hW => valid_any s W hb.s (hT.ext hW))
  by_cases h3 : k = 3
  · subst h3; exact rform_3 n s w
  exact rform_o n s w k h0 h1 h2 h3
end Go.Proofs.YtpdikmcaihlbaaaDoor
namespace Go.Proofs.YtpdikmcaihlbaaaDoor
open Go.RowKit

/-- A value's key. -/
def keyV (x : Vl) : List UInt8 := if x.1 = 2 then 2 :: text x.2.2.data.toList else rowV x
set_option maxRecDepth 20000 in
set_option maxHeartbeats 1600000 in
theorem inKey_text (s : ByteArray) (w : World) (hs : s.size ≤ 60) : Calls Tryd.prog 36 #[.iface 9 (.string s)] w (Ret w (Bytes (2 :: text s.data.toList))) := by
  have KT := hide (fun (W : World) => text_any s W (by omega))
  have hl : (text s.data.toList).length ≤ 122 := by
    have h1 := (esc_length s.data.toList).2
    have h2 := size_list s
    unfold text
    simp only [List.length_append, List.length_cons, List.length_nil]
    omega
  have h1 := ta_str
  clear hs
  go_enter Tryd.func36, Tryd.ntmps36
  go_wp2_with (first
    | (go_at_call 52; (with_reducible refine (KT.out _).mono ?_); rintro e w2 ⟨v2, rfl, hx2, A, c, hv2, hc2, hr2⟩; subst hv2)
    | (at_builtin; refine wpList_cat (by rfl) (.tmp 11) (.tmp 13) rfl w.heap.size _ [b8 2] (text s.data.toList) A _ c rfl rfl rfl ((own_one w w.heap.size (Nat.le_refl _) 2 (by decide) (by decide)).ext hx2) hr2 (Nat.le_trans (Ext.alloc w _).size hx2.size) (by simp only [List.length_cons, List.length_nil]; omega) ?_; intro v3 w3 ho3 hb3))
  go_ret
  exact Ret.mk (((Ext.alloc w _).trans hx2).below (Nat.le_refl _) hb3) ho3.bytes
set_option maxRecDepth 20000 in
set_option maxHeartbeats 1600000 in
theorem inKey_else (t : TypeId) (v : Value) (l : List UInt8) (w : World) (h1 : ∀ W, (Instr.typeAssert (.iface t v) 20 9 true).run Tryd.prog W = .ok (.tuple #[.string ⟨#[]⟩, .bool false]) W) (KR : ∀ W, Calls Tryd.prog 30 #[.iface t v] W (Ret W (Bytes l))) :
    Calls Tryd.prog 36 #[.iface t v] w (Ret w (Bytes l)) := by
  have KR := hide KR
  go_enter Tryd.func36, Tryd.ntmps36
  go_wp2_with (go_at_call 30; (with_reducible refine (KR.out _).mono ?_); rintro e w2 ⟨v2, rfl, hx2, hb2⟩)
  go_ret
  exact Ret.mk hx2 hb2
theorem meant_key (x : Vl) (hb : VlIn x) (h : vOk x = true) : ∃ t v, meantV x.1 x.2.1 x.2.2 (okT x.2.2) = .iface t v ∧ (keyV x).length ≤ 123 ∧ ∀ W, Calls Tryd.prog 36 #[.iface t v] W (Ret W (Bytes (keyV x))) := by
  obtain ⟨k, n, s⟩ := x
  unfold vOk at h
  unfold meantV
  split at h
  · rename_i h0
    simp only at h0 h
    subst h0
    have h := of_decide_eq_true h
    exact ⟨_, _, by rw [if_pos rfl, if_pos h], show (1 : Nat) ≤ 123 by decide, fun W => inKey_else _ _ _ W ta_null_str (fun W => row_null W)⟩
  · rename_i h0
    simp only at h0
    rw [if_neg h0]
    split at h
    · rename_i h1
      simp only at h1 h
      subst h1
      have h := of_decide_eq_true h
      exact ⟨_, _, by rw [if_pos rfl, if_pos h], show (9 : Nat) ≤ 123 by decide, fun W => inKey_else _ _ _ W (ta_int_str n) (fun W => row_int n W hb.n.1 hb.n.2)⟩
    · rename_i h1
      simp only at h1
      rw [if_neg h1]
      split at h
      · rename_i h2
        simp only at h2 h
        subst h2
        have h := of_decide_eq_true h
        refine ⟨_, _, by rw [if_pos rfl, if_pos h], ?_, fun W => inKey_text s W h.2.1⟩
        have h1 := (esc_length s.data.toList).2
        have h2 := size_list s
        have h3 := h.2.1
        simp only [keyV, if_pos, text, List.length_cons, List.length_append, List.length_nil]
        omega
      · rename_i h2
        simp only at h2
        rw [if_neg h2]
        split at h
        · rename_i h3
          simp only at h3 h
          subst h3
          have h := of_decide_eq_true h
          exact ⟨_, _, by rw [if_pos rfl, if_pos h], show (2 : Nat) ≤ 123 by decide, fun W => inKey_else _ _ _ W (ta_bool_str _) (fun W => row_bool _ W)⟩
        · cases h
def KeyP (w : World) (l : List UInt8) (e : Ending) (w' : World) : Prop := Ext w w' ∧ ∃ v, e = .returned (.tuple #[v, .int .i64 0]) ∧ Bytes l w' v
set_option maxRecDepth 20000 in
set_option maxHeartbeats 1600000 in
theorem key_yes (x : Vl) (w : World) (hb : VlIn x) (hT : Tabs w) (h : vOk x = true) : Calls Tryd.prog 19 #[.agg #[.int .u8 x.1, .int .i64 x.2.1, .string x.2.2]] w (KeyP w (keyV x)) := by
  obtain ⟨t, v, hm, -, KR⟩ := meant_key x hb h
  have KM := hide (meant_any x.1 x.2.1 x.2.2 (w.alloc (.cells #[.int .u8 x.1, .int .i64 x.2.1, .string x.2.2] 26)) hb.s (hT.ext (Ext.alloc _ _)))
  rw [hm] at KM
  have KR := hide KR
  clear hb hT h hm
  go_enter Tryd.func19, Tryd.ntmps19
  go_wp2_with (first
    | (go_at_call 28; (with_reducible refine KM.out.mono ?_); rintro e w1 ⟨rfl, hx1⟩; have X1 : Ext w w1 := (Ext.alloc _ _).trans hx1)
    | (go_at_call 36; (with_reducible refine (KR.out _).mono ?_); rintro e w2 ⟨v2, rfl, hx2, hb2⟩))
  go_ret2
  exact ⟨X1.trans hx2, _, rfl, hb2⟩
set_option maxRecDepth 20000 in
set_option maxHeartbeats 1600000 in
theorem key_no (x : Vl) (w : World) (hb : VlIn x) (hT : Tabs w) (h : vOk x = false) : Calls Tryd.prog 19 #[.agg #[.int .u8 x.1, .int .i64 x.2.1, .string x.2.2]] w (fun e w' => Ext w w' ∧ e = .returned (.tuple #[.slice none 0 0, .int .i64 3])) := by
  have KM := hide (meant_any x.1 x.2.1 x.2.2 (w.alloc (.cells #[.int .u8 x.1, .int .i64 x.2.1, .string x.2.2] 26)) hb.s (hT.ext (Ext.alloc _ _)))
  rw [meant_no x h] at KM
  clear hb hT h
  go_enter Tryd.func19, Tryd.ntmps19
  go_wp2_with (go_at_call 28; (with_reducible refine KM.out.mono ?_); rintro e w1 ⟨rfl, hx1⟩; have X1 : Ext w w1 := (Ext.alloc _ _).trans hx1)
  go_ret2
  exact ⟨X1, rfl⟩
/-- Does a value stand ahead of another one as a key? -/
def lessV (x y : Vl) : Bool := if x.1 = y.1 then (if x.1 = 2 then Op.bytesLess x.2.2.data.toList y.2.2.data.toList else decide (x.2.1 < y.2.1)) else decide (x.1 < y.1)
set_option maxRecDepth 20000 in
set_option maxHeartbeats 1600000 in
theorem less_any (x y : Vl) (w : World) : Calls Tryd.prog 23 #[.agg #[.int .u8 x.1, .int .i64 x.2.1, .string x.2.2], .agg #[.int .u8 y.1, .int .i64 y.2.1, .string y.2.2]] w (RetB w (lessV x y)) := by
  obtain ⟨k, n, s⟩ := x
  obtain ⟨k', n', s'⟩ := y
  have hX : Ext w ((w.alloc (.cells #[.int .u8 k, .int .i64 n, .string s] 26)).alloc (.cells #[.int .u8 k', .int .i64 n', .string s'] 26)) := (Ext.alloc _ _).trans (Ext.alloc _ _)
  by_cases hk : k = k'
  · subst hk
    by_cases h2 : k = 2
    · subst h2
      go_enter Tryd.func23, Tryd.ntmps23
      go_wp2
      go_ret
      exact ⟨by simp [lessV, ByteArray.toList_eq], hX⟩
    · have h2b : (k == 2) = false := by simpa using h2
      go_enter Tryd.func23, Tryd.ntmps23
      go_wp2
      go_ret
      exact ⟨by simp [lessV, h2], hX⟩
  · have hkb : (k != k') = true := by simpa using hk
    go_enter Tryd.func23, Tryd.ntmps23
    go_wp2
    go_ret
    exact ⟨by simp [lessV, hk], hX⟩
end Go.Proofs.YtpdikmcaihlbaaaDoor
namespace Go.Proofs.YtpdikmcaihlbaaaDoor
open Go.RowKit

theorem parse_text (s r : List UInt8) : parse (esc s ++ 0 :: 1 :: r) = some (s, (esc s).length + 2) := by
  induction s with
  | nil => simp [esc, parse]
  | cons b s ih =>
    by_cases hb : b = 0
    · subst hb
      simp only [esc, if_true, List.cons_append]
      simp [parse, ih]
    · simp only [esc, if_neg hb, List.cons_append]
      cases he : esc s ++ 0 :: 1 :: r with
      | nil => simp at he
      | cons c t =>
        rw [he] at ih
        simp only [parse, ne_eq, hb, not_false_iff, if_true, ih]
        simp
theorem keyAt_text (a s b : List UInt8) : keyAt (a ++ text s ++ b) a.length = some (s, a.length + (text s).length) := by
  have h : parse ((a ++ text s ++ b).drop a.length) = some (s, (text s).length) := by
    rw [List.append_assoc, List.drop_left]
    have e := parse_text s b
    unfold text
    rw [List.append_assoc]
    simpa using e
  unfold keyAt
  rw [h]
theorem valAt_key (a b : List UInt8) (x : Vl) (h : vOk x = true) (hb : VlIn x) : valAt keyAt (a ++ keyV x ++ b) a.length = some (x, a.length + (keyV x).length) := by
  rcases vl_cases x h hb with rfl | ⟨n, rfl, h0, h1⟩ | ⟨s, rfl, hs, ho⟩ | rfl | rfl
  · have e : a ++ keyV (0, 0, noS) ++ b = a ++ 0 :: b := by simp [keyV, rowV]
    rw [e]
    unfold valAt
    rw [at_mid]
    rfl
  · have e : a ++ keyV (1, n, noS) ++ b = a ++ 1 :: (ord64 n ++ b) := by simp [keyV, rowV]
    have e2 : a ++ 1 :: (ord64 n ++ b) = (a ++ [1]) ++ ord64 n ++ b := by simp
    have hl : a.length + 1 + 8 ≤ (a ++ 1 :: (ord64 n ++ b)).length := by simp [show (ord64 n).length = 8 from rfl]; omega
    have hn : numAt (a ++ 1 :: (ord64 n ++ b)) (a.length + 1) = n := by
      rw [e2]
      have := numAt_ord (a ++ [1]) b n h0 h1
      simpa using this
    rw [e]
    unfold valAt
    rw [at_mid]
    unfold rawAt
    simp only [show (1 : UInt8).toNat = 1 from rfl, if_true, if_pos hl, hn, h]
    simp [keyV, rowV, show (ord64 n).length = 8 from rfl]
  · have e : a ++ keyV (2, 0, s) ++ b = a ++ 2 :: (text s.data.toList ++ b) := by simp [keyV]
    have e2 : a ++ 2 :: (text s.data.toList ++ b) = (a ++ [2]) ++ text s.data.toList ++ b := by simp
    have ht : keyAt (a ++ 2 :: (text s.data.toList ++ b)) (a.length + 1) = some (s.data.toList, a.length + 1 + (text s.data.toList).length) := by
      rw [e2]
      have := keyAt_text (a ++ [2]) s.data.toList b
      simpa using this
    rw [e]
    unfold valAt
    rw [at_mid]
    unfold rawAt
    simp only [show (2 : UInt8).toNat = 2 from rfl, show ¬ (2 : Nat) = 1 by decide, if_false, if_true, ht]
    have hs2 : (⟨s.data.toList.toArray⟩ : ByteArray) = s := by simp
    rw [hs2, if_pos h]
    simp [keyV]
    omega
  · have e : a ++ keyV (3, 0, noS) ++ b = a ++ 3 :: 0 :: b := by simp [keyV, rowV]
    rw [e]
    unfold valAt
    rw [at_mid]
    unfold rawAt
    rw [at_mid1]
    rfl
  · have e : a ++ keyV (3, 1, noS) ++ b = a ++ 3 :: 1 :: b := by simp [keyV, rowV]
    rw [e]
    unfold valAt
    rw [at_mid]
    unfold rawAt
    rw [at_mid1]
    rfl
theorem rdKey_key (a b : List UInt8) (x : Vl) (h : vOk x = true) (hb : VlIn x) : rdKey (a ++ keyV x ++ b) (a.length : Int) = (x, ((a.length + (keyV x).length : Nat) : Int), 0) := by
  unfold rdKey
  rw [if_neg (by simp only [List.length_append]; omega), Int.toNat_natCast, valAt_key a b x h hb]
end Go.Proofs.YtpdikmcaihlbaaaDoor
namespace Go.Proofs.YtpdikmcaihlbaaaDoor

theorem u8_lt (a b : UInt8) : (a < b) ↔ (a.toNat : Int) < (b.toNat : Int) := by
  rw [UInt8.lt_iff_toNat_lt]; omega
def numFrom (p : Int) (l : List UInt8) : Int := l.foldl (fun a b => a * 256 + (b.toNat : Int)) p
theorem numFrom_cons (p : Int) (a : UInt8) (l : List UInt8) : numFrom p (a :: l) = numFrom (p * 256 + (a.toNat : Int)) l := rfl
theorem numFrom_gap : ∀ (l m : List UInt8) (x y : Int), l.length = m.length → x < y → numFrom x l < numFrom y m
  | [], [], x, y, _, h => h
  | c :: l, d :: m, x, y, h, hxy => by
    rw [numFrom_cons, numFrom_cons]
    have h1 := c.toNat_lt
    have h2 := d.toNat_lt
    exact numFrom_gap l m _ _ (by simpa using h) (by omega)
/-- Lists of one length stand as the numbers that they are. -/
theorem less_num : ∀ (l m : List UInt8), l.length = m.length → ∀ p : Int, (Op.bytesLess l m = true) ↔ numFrom p l < numFrom p m
  | [], [], _, p => by simp [Op.bytesLess, numFrom]
  | a :: l, b :: m, h, p => by
    have hl : l.length = m.length := by simpa using h
    rw [numFrom_cons, numFrom_cons]
    by_cases h1 : a < b
    · have h2 := numFrom_gap l m (p * 256 + (a.toNat : Int)) (p * 256 + (b.toNat : Int)) hl (by have := (u8_lt a b).1 h1; omega)
      simp [Op.bytesLess, h1, h2]
    · by_cases h3 : a = b
      · subst h3
        rw [← less_num l m hl (p * 256 + (a.toNat : Int))]
        simp [Op.bytesLess]
      · have h4 : (b.toNat : Int) < (a.toNat : Int) := by
          have h5 : ¬ (a.toNat : Int) < (b.toNat : Int) := fun h => h1 ((u8_lt a b).2 h)
          have h6 : a.toNat ≠ b.toNat := fun h => h3 (UInt8.toNat_inj.1 h)
          omega
        have h2 := numFrom_gap m l (p * 256 + (b.toNat : Int)) (p * 256 + (a.toNat : Int)) hl.symm (by omega)
        constructor
        · intro h; simp [Op.bytesLess, h1, h3] at h
        · intro h; omega
theorem less_be64 (u v : Int) (h0 : 0 ≤ u) (h1 : u < 18446744073709551616) (h2 : 0 ≤ v) (h3 : v < 18446744073709551616) : Op.bytesLess (be64 u) (be64 v) = decide (u < v) := by
  have h := less_num (be64 u) (be64 v) rfl 0
  have e1 : numFrom 0 (be64 u) = u := num_be64 u h0 h1
  have e2 : numFrom 0 (be64 v) = v := num_be64 v h2 h3
  rw [e1, e2] at h
  rw [Bool.eq_iff_iff, h, decide_eq_true_iff]

theorem less_same (p l m : List UInt8) : Op.bytesLess (p ++ l) (p ++ m) = Op.bytesLess l m := by
  induction p with
  | nil => rfl
  | cons a p ih => simp [Op.bytesLess, ih]
theorem less_irrefl (l : List UInt8) : Op.bytesLess l l = false := by
  induction l with
  | nil => rfl
  | cons a l ih => simp [Op.bytesLess, ih]
theorem zero_lt (c : UInt8) (h : c ≠ 0) : (0 : UInt8) < c := by
  rw [UInt8.lt_iff_toNat_lt]
  have : c.toNat ≠ 0 := fun e => h (UInt8.toNat_inj.1 e)
  show 0 < c.toNat
  omega
theorem not_lt_zero (c : UInt8) : ¬ c < (0 : UInt8) := by
  rw [UInt8.lt_iff_toNat_lt]
  show ¬ c.toNat < 0
  omega
/-- Texts as bytes stand as they do, whatever comes behind them. -/
theorem less_text : ∀ (s t x y : List UInt8), s ≠ t → Op.bytesLess (text s ++ x) (text t ++ y) = Op.bytesLess s t
  | [], [], _, _, h => absurd rfl h
  | [], c :: t, x, y, _ => by
    by_cases hc : c = 0
    · subst hc
      simp [text, esc, Op.bytesLess]
    · simp [text, esc, hc, Op.bytesLess, zero_lt c hc]
  | b :: s, [], x, y, _ => by
    by_cases hb : b = 0
    · subst hb
      simp [text, esc, Op.bytesLess]
    · simp [text, esc, hb, Op.bytesLess, not_lt_zero b]
  | b :: s, c :: t, x, y, h => by
    by_cases hbc : b = c
    · subst hbc
      have ih := less_text s t x y (fun e => h (by rw [e]))
      unfold text at ih
      by_cases hb : b = 0
      · subst hb
        simp only [text, esc, if_true, List.cons_append, Op.bytesLess]
        simp only [ih]
        simp
      · simp only [text, esc, if_neg hb, List.cons_append, Op.bytesLess, ih]
    · by_cases hb : b = 0
      · subst hb
        have hc : c ≠ 0 := fun e => hbc e.symm
        simp [text, esc, hc, Op.bytesLess, zero_lt c hc]
      · by_cases hc : c = 0
        · subst hc
          have e : (b == 0) = false := beq_eq_false_iff_ne.2 hb
          simp [text, esc, hb, Op.bytesLess, not_lt_zero b, e]
        · have e : (b == c) = false := beq_eq_false_iff_ne.2 hbc
          simp [text, esc, hb, hc, Op.bytesLess, e]
end Go.Proofs.YtpdikmcaihlbaaaDoor
namespace Go.Proofs.YtpdikmcaihlbaaaDoor
open Go.RowKit

theorem less_cons (a b : UInt8) (l m : List UInt8) : Op.bytesLess (a :: l) (b :: m) = if a = b then Op.bytesLess l m else decide (a < b) := by
  by_cases h : a = b
  · subst h
    rw [if_pos rfl]
    simp [Op.bytesLess]
  · rw [if_neg h]
    simp [Op.bytesLess, h]
theorem less_app : ∀ (p q x y : List UInt8), p.length = q.length → p ≠ q → Op.bytesLess (p ++ x) (q ++ y) = Op.bytesLess p q
  | [], [], _, _, _, h => absurd rfl h
  | [], _ :: _, _, _, h, _ => by cases h
  | _ :: _, [], _, _, h, _ => by cases h
  | a :: p, b :: q, x, y, h, hne => by
    rw [List.cons_append, List.cons_append, less_cons, less_cons]
    by_cases hab : a = b
    · rw [if_pos hab, if_pos hab]
      exact less_app p q x y (by simpa using h) (fun e => hne (by rw [hab, e]))
    · rw [if_neg hab, if_neg hab]
theorem ord64_ne (n m : Int) (h0 : -9223372036854775808 ≤ n ∧ n < 9223372036854775808) (h1 : -9223372036854775808 ≤ m ∧ m < 9223372036854775808) (h : n ≠ m) : ord64 n ≠ ord64 m := fun e => by
  have e2 := congrArg num e
  unfold ord64 at e2
  rw [num_be64 _ (by omega) (by omega), num_be64 _ (by omega) (by omega)] at e2
  omega
theorem vk_of (a : Vl) (h : vOk a = true) : (a.1 = 0 ∧ a.2.1 = 0 ∧ a.2.2 = noS) ∨ (a.1 = 1 ∧ a.2.2 = noS) ∨ (a.1 = 2 ∧ a.2.1 = 0) ∨ (a.1 = 3 ∧ (a.2.1 = 0 ∨ a.2.1 = 1) ∧ a.2.2 = noS) := by
  unfold vOk at h
  split at h
  · rename_i h0; exact .inl ⟨h0, of_decide_eq_true h⟩
  · split at h
    · rename_i h0; exact .inr (.inl ⟨h0, of_decide_eq_true h⟩)
    · split at h
      · rename_i h0; exact .inr (.inr (.inl ⟨h0, (of_decide_eq_true h).1⟩))
      · split at h
        · rename_i h0; exact .inr (.inr (.inr ⟨h0, of_decide_eq_true h⟩))
        · cases h
theorem key_order (a b : Vl) (x y : List UInt8) (ha : vOk a = true) (hb : vOk b = true) (ia : VlIn a) (ib : VlIn b) (hne : a ≠ b) : Op.bytesLess (keyV a ++ x) (keyV b ++ y) = lessV a b := by
  obtain ⟨k, n, s⟩ := a
  obtain ⟨k', n', s'⟩ := b
  have hA := vk_of _ ha
  have hB := vk_of _ hb
  have ian := ia.n
  have ibn := ib.n
  simp only at hA hB ian ibn
  clear ha hb ia ib
  rcases hA with ⟨rfl, rfl, rfl⟩ | ⟨rfl, rfl⟩ | ⟨rfl, rfl⟩ | ⟨rfl, ha, rfl⟩ <;> rcases hB with ⟨rfl, rfl, rfl⟩ | ⟨rfl, rfl⟩ | ⟨rfl, rfl⟩ | ⟨rfl, hb, rfl⟩
  · exact absurd rfl hne
  · rfl
  · rfl
  · rfl
  · rfl
  · show Op.bytesLess (1 :: (ord64 n ++ x)) (1 :: (ord64 n' ++ y)) = decide (n < n')
    have hn : n ≠ n' := fun e => hne (by rw [e])
    rw [less_cons, if_pos rfl, less_app (ord64 n) (ord64 n') x y rfl (ord64_ne n n' ian ibn hn)]
    unfold ord64
    rw [less_be64 _ _ (by omega) (by omega) (by omega) (by omega)]
    exact decide_eq_decide.2 (by omega)
  · rfl
  · rfl
  · rfl
  · rfl
  · show Op.bytesLess (2 :: (text s.data.toList ++ x)) (2 :: (text s'.data.toList ++ y)) = Op.bytesLess s.data.toList s'.data.toList
    have hs : s.data.toList ≠ s'.data.toList := fun e => hne (by
      cases s; cases s'
      have e := Array.toList_inj.1 e
      simp only at e
      rw [e])
    rw [less_cons, if_pos rfl, less_text _ _ _ _ hs]
  · rfl
  · rfl
  · rfl
  · rfl
  · rcases ha with rfl | rfl <;> rcases hb with rfl | rfl
    · exact absurd rfl hne
    · rfl
    · rfl
    · exact absurd rfl hne
end Go.Proofs.YtpdikmcaihlbaaaDoor
