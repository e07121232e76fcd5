/-
  strings.ContainsAny(s, the three bytes that want quotes), for every text s.
-/
import Derived.Test.YtmanflfanoddgabDoorLinK
import Derived.Test.YtmanflfanoddgabDoorGive
import Derived.Laws.Runes
namespace Go.Proofs.YtmanflfanoddgabDoor
open Go.RowKit

def three : ByteArray := ⟨#[32, 34, 92]⟩
theorem ext_of {w w' : World} (h : w' = w) : Ext w w' := Ext.of_eq h
theorem high_none (l : List UInt8) {y : UInt8} (hy : 128 ≤ y.toNat) (h : ∀ b ∈ l, b.toNat < 128) : Lib.indexByte l ((y.toNat : Int).toNat.toUInt8) = -1 := by
  have e : ((y.toNat : Int).toNat.toUInt8) = y := by simp
  rw [e]
  induction l with
  | nil => rfl
  | cons b t ih =>
    have hb := h b (by simp)
    have hne : ¬ b = y := by rintro rfl; omega
    have := ih fun x hx => h x (by simp [hx])
    simp [Lib.indexByte, hne, this]
/-- 'string(r)'. -/
theorem wpList_runestr {ops : Array Oper} {rest : List Oper} {o : Oper} {a : Act} {Q : Exit → Act → World → Prop} {w : World} (hgd : Region.wanted o (yielded ops a.tmps) = true) (x : Operand) (ho : o.op = .convert 21 9 x) (r : Int) (hx : a.eval x = .int .i32 r)
    (h : wpList Tryd.prog ops Q rest (a.put o.dst (.string (Utf8.encode r))) w) : wpList Tryd.prog ops Q (o :: rest) a w := by
  refine wpList_wanted hgd fun K hK => ?_
  have hrun := run_convert_int_string (P := Tryd.prog) w 21 9 .i32 r (by rw [Tryd.underlying21]; rfl) Tryd.underlying9
  unfold Oper.wp
  have he : (execOp a.eval o).run Tryd.prog w = .ok (.value (.string (Utf8.encode r))) w := by simp [execOp, ho, hx, hrun]
  rw [he]
  exact hK _ _ h
set_option maxRecDepth 20000 in
set_option maxHeartbeats 4000000 in
theorem runeNone_any (r : Nat) (w : World) (h : 128 ≤ r) (hr : r ≤ 1114111) :
    Calls Tryd.prog 57 #[.string ⟨#[32, 34, 92]⟩, .int .i32 (r : Int)] w (Ret w (Is (.int .i64 (-1)))) := by
  have hlt : decide ((r : Int) < 128) = false := decide_eq_false (by omega)
  have h0 : (0 : Int) ≤ (r : Int) := by omega
  by_cases h3 : r = 65533
  · subst h3
    have hn0 := fun ty => run_next_any (P := Tryd.prog) w ⟨#[32, 34, 92]⟩ 0 ty (by decide)
    have hn1 := fun ty => run_next_any (P := Tryd.prog) w ⟨#[32, 34, 92]⟩ 1 ty (by decide)
    have hn2 := fun ty => run_next_any (P := Tryd.prog) w ⟨#[32, 34, 92]⟩ 2 ty (by decide)
    have hn3 := fun ty => run_next_end (P := Tryd.prog) w ⟨#[32, 34, 92]⟩ 3 ty (by decide)
    rw [show Utf8.decode ⟨#[32, 34, 92]⟩ 0 = (32, 1) by decide +kernel] at hn0
    rw [show Utf8.decode ⟨#[32, 34, 92]⟩ 1 = (34, 1) by decide +kernel] at hn1
    rw [show Utf8.decode ⟨#[32, 34, 92]⟩ 2 = (92, 1) by decide +kernel] at hn2
    go_enter Tryd.func57, Tryd.ntmps57
    go_wp2
    go_rounds 5
    go_ret
    exact Ret.mk (Ext.alloc _ _) rfl
  · have h3' : ((r : Int) == 65533) = false := i64_ne (by omega)
    cases hv : Lib.validRune (r : Int) with
    | false =>
      go_enter Tryd.func57, Tryd.ntmps57
      go_wp2_with (go_at_call 63; refine (Tryd.utf8_ValidRune _ _).mono ?_; rintro e w1 ⟨rfl, rfl⟩; rw [hv])
      go_ret
      exact Ret.mk (Ext.refl _) rfl
    | true =>
      have hval : Utf8.valid (r : Int) = true := by
        unfold Lib.validRune at hv
        unfold Utf8.valid
        simp at hv ⊢
        omega
      obtain ⟨g1, g2, g3⟩ := encode_facts (r : Int) hval (by omega)
      obtain ⟨rs, hrs⟩ : ∃ rs, Utf8.encode (r : Int) = rs := ⟨_, rfl⟩
      rw [hrs] at g1 g2 g3
      obtain ⟨z, HZ⟩ : ∃ z, Hid (rs.size = z) := ⟨_, rfl⟩
      have hz : rs.size = z := HZ.out
      have HX := hide g3
      rw [hz] at g1 g2
      clear g3 hz hval hr h3
      have hq : z = 2 ∨ z = 3 ∨ z = 4 := by omega
      rcases hq with rfl | rfl | rfl
      · have hsz : rs.size = 2 := HZ.out
        have hx := HX.out (by omega)
        obtain ⟨y, hy⟩ : ∃ y : UInt8, y = rs[1]'(by omega) := ⟨_, rfl⟩
        have hyy : 128 ≤ y.toNat := by
          rw [hy]
          have e : rs.size - 1 = 1 := by omega
          simpa [e] using hx
        have hye : (rs[1]'(by omega)).toNat = y.toNat := by rw [hy]
        have HY := hide hyy
        have hne : ((34 : Int) != (y.toNat : Int)) = true := by simp; omega
        clear hx HX hy
        go_enter Tryd.func57, Tryd.ntmps57
        go_wp2_with (go_at_call 63; refine (Tryd.utf8_ValidRune _ _).mono ?_; rintro e w1 ⟨rfl, rfl⟩; rw [hv])
        go_step3
        go_wp2_with (refine wpList_runestr rfl (.tmp 17) rfl (r : Int) rfl ?_; rw [hrs])
        have hib : Lib.indexByte ((⟨#[32, 34, 92]⟩ : ByteArray).extract 2 3).data.toList ((y.toNat : Int).toNat.toUInt8) = -1 := high_none _ hyy (by decide)
        have KB := hide fun V => (show Calls Tryd.prog 62 #[.string ((⟨#[32, 34, 92]⟩ : ByteArray).extract 2 3), .int .u8 (y.toNat : Int)] V fun e w' => e = .returned (.int .i64 (-1)) ∧ ∃ m, w' = V.drewN m from (by
          have k := Tryd.strings_IndexByte ((⟨#[32, 34, 92]⟩ : ByteArray).extract 2 3) (y.toNat : Int) V
          rw [hib] at k
          exact k.mono fun e w' ⟨h1, h2⟩ => ⟨h1, 0, h2⟩))
        clear hib
        go_rounds 1
        go_step3
        go_wp2
        have hw2 : IntKind.i64.wrap 2 = 2 := by rw [IntKind.wrap_i64]; rfl
        have he1 : ((⟨#[32, 34, 92]⟩ : ByteArray)[1]'(by decide)).toNat = 34 := rfl
        have he2 : (((⟨#[32, 34, 92]⟩ : ByteArray)[1]'(by decide)).toNat : Int) = 34 := rfl
        go_quiet (fail)
        go_wp2
        have hxq := Ext.drewN (Ext.refl w1) nq
        generalize w1.drewN nq = w2 at *
        go_quiet (first | (go_at_call 62; exact Calls.quiet_of (KB.out _)))
        go_wp2
        rw [Exit.noGoto_ret]
        go_ret
        exact Ret.mk (Ext.drewN hxq _) rfl
      · have hsz : rs.size = 3 := HZ.out
        have hx := HX.out (by omega)
        obtain ⟨y, hy⟩ : ∃ y : UInt8, y = rs[2]'(by omega) := ⟨_, rfl⟩
        have hyy : 128 ≤ y.toNat := by
          rw [hy]
          have e : rs.size - 1 = 2 := by omega
          simpa [e] using hx
        have hye : (rs[2]'(by omega)).toNat = y.toNat := by rw [hy]
        have HY := hide hyy
        have hne : ((92 : Int) != (y.toNat : Int)) = true := by simp; omega
        clear hx HX hy
        go_enter Tryd.func57, Tryd.ntmps57
        go_wp2_with (go_at_call 63; refine (Tryd.utf8_ValidRune _ _).mono ?_; rintro e w1 ⟨rfl, rfl⟩; rw [hv])
        go_step3
        go_wp2_with (refine wpList_runestr rfl (.tmp 17) rfl (r : Int) rfl ?_; rw [hrs])
        have hib : Lib.indexByte ((⟨#[32, 34, 92]⟩ : ByteArray).extract 3 3).data.toList ((y.toNat : Int).toNat.toUInt8) = -1 := high_none _ hyy (by decide)
        have KB := hide fun V => (show Calls Tryd.prog 62 #[.string ((⟨#[32, 34, 92]⟩ : ByteArray).extract 3 3), .int .u8 (y.toNat : Int)] V fun e w' => e = .returned (.int .i64 (-1)) ∧ ∃ m, w' = V.drewN m from (by
          have k := Tryd.strings_IndexByte ((⟨#[32, 34, 92]⟩ : ByteArray).extract 3 3) (y.toNat : Int) V
          rw [hib] at k
          exact k.mono fun e w' ⟨h1, h2⟩ => ⟨h1, 0, h2⟩))
        clear hib
        go_rounds 1
        go_step3
        go_wp2
        have hw2 : IntKind.i64.wrap 3 = 3 := by rw [IntKind.wrap_i64]; rfl
        have he1 : ((⟨#[32, 34, 92]⟩ : ByteArray)[2]'(by decide)).toNat = 92 := rfl
        have he2 : (((⟨#[32, 34, 92]⟩ : ByteArray)[2]'(by decide)).toNat : Int) = 92 := rfl
        go_quiet (fail)
        go_wp2
        have hxq := Ext.drewN (Ext.refl w1) nq
        generalize w1.drewN nq = w2 at *
        go_quiet (first | (go_at_call 62; exact Calls.quiet_of (KB.out _)))
        go_wp2
        rw [Exit.noGoto_ret]
        go_ret
        exact Ret.mk (Ext.drewN hxq _) rfl
      · have hsz : rs.size = 4 := HZ.out
        go_enter Tryd.func57, Tryd.ntmps57
        go_wp2_with (go_at_call 63; refine (Tryd.utf8_ValidRune _ _).mono ?_; rintro e w1 ⟨rfl, rfl⟩; rw [hv])
        go_step3
        go_wp2_with (refine wpList_runestr rfl (.tmp 17) rfl (r : Int) rfl ?_; rw [hrs])
        go_rounds 2
        rw [Exit.noGoto_ret]
        go_ret
        exact Ret.mk (Ext.refl _) rfl
end Go.Proofs.YtmanflfanoddgabDoor
