/-
  Base 64: the call.
  Base 64: reading it.
  Secrets: their cells, whole loads and stores, '==', and Stretch for any rounds.
  counts, Make, Check: their contracts.
  Check's contract.
  The layer's own example: what 'awake' answers.
-/
import Derived.Lib.Bytealg
import Derived.Test.YtdllppaichlnaaaDoorPkPsAl1
import Derived.Test.YtdllppaichlnaaaDoorPkPsAl4
set_option linter.unusedVariables false
set_option linter.unusedSimpArgs false

namespace Go.Proofs.YtdllppaichlnaaaDoor
open Go.RowKit

def alph : ByteArray := ⟨#[65, 66, 67, 68, 69, 70, 71, 72, 73, 74, 75, 76, 77, 78, 79, 80, 81, 82, 83, 84, 85, 86, 87, 88, 89, 90, 97, 98, 99, 100, 101, 102, 103, 104, 105, 106, 107, 108, 109, 110, 111, 112, 113, 114, 115, 116, 117, 118, 119, 120, 121, 122, 48, 49, 50, 51, 52, 53, 54, 55, 56, 57, 45, 95]⟩
/-- The sign of six bits. -/
def sgn (v : Nat) : UInt8 := alph.data.toList.getD v 0
theorem u8i (x : UInt8) : (x.toNat : Int) < 256 := by have := x.toNat_lt; omega
theorem u8z (x : UInt8) : (0 : Int) ≤ (x.toNat : Int) := Int.natCast_nonneg _
theorem sgn_at (v : Nat) (h : v < alph.size) : b8 (((alph[v]'h).toNat : Nat) : Int) = sgn v := by
  rw [b8_byte]
  unfold sgn
  rw [List.getD_eq_getElem?_getD, Array.getElem?_toList, Array.getElem?_eq_getElem (by exact h)]
  rfl
/-- The signs that so many bits give. -/
def emitN (b l : Nat) : List UInt8 := if l < 6 then [] else if l < 12 then [sgn (b / 2 ^ (l - 6) % 64)] else [sgn (b / 2 ^ (l - 6) % 64), sgn (b / 2 ^ (l - 12) % 64)]
theorem emitN_step (b l : Nat) (h : l + 6 < 14) : emitN b (l + 6) = sgn (b / 2 ^ l % 64) :: emitN b l := by
  unfold emitN
  rw [if_neg (by omega)]
  by_cases h6 : l < 6
  · rw [if_pos (by omega), if_pos h6, Nat.add_sub_cancel]
  · rw [if_neg (by omega), if_neg h6, if_pos (by omega), Nat.add_sub_cancel, show l + 6 - 12 = l - 6 by omega]
theorem emitN_none (b l : Nat) (h : l < 6) : emitN b l = [] := by unfold emitN; rw [if_pos h]
/-- What Base does with some bytes, with the bits that are left: the signs, the bits, how many are left. -/
def goB : List UInt8 → Nat → Nat → List UInt8 × Nat × Nat
  | [], b, l => ([], b, l)
  | x :: xs, b, l => (emitN (b * 256 % 4294967296 + x.toNat) (l + 8) ++ (goB xs (b * 256 % 4294967296 + x.toNat) ((l + 8) % 6)).1, (goB xs (b * 256 % 4294967296 + x.toNat) ((l + 8) % 6)).2)
/-- Base 64, as the call makes it. -/
def baseB (l : List UInt8) : List UInt8 := (goB l 0 0).1 ++ if 0 < (goB l 0 0).2.2 then [sgn ((goB l 0 0).2.1 * 2 ^ (6 - (goB l 0 0).2.2) % 64)] else []
theorem emitN_len (b l : Nat) (h : l < 14) : (emitN b l).length = l / 6 := by
  unfold emitN
  split
  · rename_i h1; rw [Nat.div_eq_of_lt h1]; rfl
  · split
    · show 1 = _; omega
    · show 2 = _; omega
theorem goB_len : ∀ (xs : List UInt8) (b l : Nat), l < 6 → (goB xs b l).1.length * 6 + (goB xs b l).2.2 = xs.length * 8 + l ∧ (goB xs b l).2.2 < 6
  | [], b, l, h => ⟨by simp [goB], h⟩
  | x :: xs, b, l, h => by
    have ih := goB_len xs (b * 256 % 4294967296 + x.toNat) ((l + 8) % 6) (Nat.mod_lt _ (by decide))
    refine ⟨?_, ih.2⟩
    have e := emitN_len (b * 256 % 4294967296 + x.toNat) (l + 8) (by omega)
    simp only [goB, List.length_append, List.length_cons, e]
    have := ih.1
    omega
theorem and_63 (b : Nat) (h : b < 4294967296) : bits .and .u32 (b : Int) 63 = ((b % 64 : Nat) : Int) := by
  show IntKind.u32.wrap ((BitVec.ofInt 32 ((b : Nat) : Int) &&& BitVec.ofInt 32 ((63 : Nat) : Int)).toNat : Int) = _
  rw [BitVec.toNat_and, BitVec.ofInt_natCast, BitVec.ofInt_natCast, BitVec.toNat_ofNat, BitVec.toNat_ofNat, Nat.mod_eq_of_lt (show b < 2 ^ 32 by omega), Nat.mod_eq_of_lt (show 63 < 2 ^ 32 by omega),
    show (63 : Nat) = 2 ^ 6 - 1 from rfl, Nat.and_two_pow_sub_one_eq_mod, IntKind.wrap_u32]
  omega
theorem or_u8 (b x : Nat) (hx : x < 256) : bits .or .u32 ((b : Int) * 256 % 4294967296) (x : Int) = ((b * 256 % 4294967296 + x : Nat) : Int) := by
  have e1 : (b : Int) * 256 % 4294967296 = (((b % 16777216) * 256 : Nat) : Int) := by omega
  have e2 : b * 256 % 4294967296 = (b % 16777216) * 256 := by omega
  rw [e1, e2]
  show IntKind.u32.wrap ((BitVec.ofInt 32 (((b % 16777216) * 256 : Nat) : Int) ||| BitVec.ofInt 32 ((x : Nat) : Int)).toNat : Int) = _
  rw [BitVec.toNat_or, BitVec.ofInt_natCast, BitVec.ofInt_natCast, BitVec.toNat_ofNat, BitVec.toNat_ofNat,
    Nat.mod_eq_of_lt (show (b % 16777216) * 256 < 2 ^ 32 by omega), Nat.mod_eq_of_lt (show x < 2 ^ 32 by omega), or_low _ _ hx, IntKind.wrap_u32]
  omega
set_option maxRecDepth 20000 in
set_option maxHeartbeats 3200000 in
theorem base_any (A : Option Addr) (l : List UInt8) (n c : Nat) (w : World) (hr : Rd w A l) (hn : l.length = n) (hnc : n ≤ c) (hl : n ≤ 1000000) :
    Calls Tryd.prog 25 #[.slice A n c] w (Ret w (Is (.string ⟨(baseB l).toArray⟩))) := by
  have HR := hide hr
  have HN := hide hn
  have hnI : (n : Int) ≤ 1000000 := by omega
  obtain ⟨m, HM⟩ : ∃ m : Nat, Hid (n / 3 = m) := ⟨_, hide rfl⟩
  have hm3 : (n : Int) / 3 = (m : Int) := by have := HM.out; omega
  have hmI : (m : Int) ≤ 400000 := by have := HM.out; omega
  have hmk := fun W => run_make_room (m * 4 + 3) (by omega) W
  rw [show ((m * 4 + 3 : Nat) : Int) = (m : Int) * 4 + 3 from by omega] at hmk
  obtain ⟨TA, TB, TL, HTT⟩ : ∃ TA TB TL, Hid (goB l 0 0 = (TA, TB, TL)) := ⟨_, _, _, hide rfl⟩
  have HTL : Hid (TA.length * 6 + TL = n * 8 ∧ TL < 6) := hide (by have h := goB_len l 0 0 (by decide); rw [HTT.out, hn] at h; exact h)
  have HBB : Hid (baseB l = TA ++ if 0 < TL then [sgn (TB * 2 ^ (6 - TL) % 64)] else []) := hide (by unfold baseB; rw [HTT.out])
  clear hr hn
  go_enter Tryd.func25, Tryd.ntmps25
  go_upto_region 4 with fail
  have hown0 := Own.room w w.heap.size (m * 4 + 3) (Nat.le_refl _) (by omega)
  go_loopw [3, 4, 5, 7, 16] (fun ov bv lv _ iv wr => ∃ (i bt lf : Nat) (acc : List UInt8), i ≤ n ∧ iv = .int .i64 (i : Int) ∧ bv = .int .u32 (bt : Int) ∧ bt < 4294967296 ∧ lv = .int .i64 (lf : Int) ∧ lf < 6 ∧ Hid (Ext w wr) ∧ Hid (Own wr w.heap.size ov acc) ∧ Hid (acc ++ (goB (l.drop i) bt lf).1 = TA ∧ (goB (l.drop i) bt lf).2 = (TB, TL))) (fun _ _ _ _ iv _ => n - (intOf iv).toNat)
  case atStart => exact ⟨0, 0, 0, [], Nat.zero_le _, rfl, rfl, by decide, rfl, by decide, hide (Ext.alloc _ _), hide hown0, hide (by rw [List.drop_zero, HTT.out]; exact ⟨rfl, rfl⟩)⟩
  case round =>
    obtain ⟨i, bt, lf, acc, hi, rfl, rfl, hbt, rfl, hlf, HX, HO, HG⟩ := hrel
    by_cases hlt : i < n
    · have hii : (i : Int) < (n : Int) := by omega
      obtain ⟨x, hx⟩ : ∃ x, l[i]? = some x := ⟨_, List.getElem?_eq_getElem (by rw [HN.out]; exact hlt)⟩
      obtain ⟨b, off, hA, hc⟩ := HR.out (by intro h; rw [h] at hx; cases hx)
      subst hA
      have c0 := HX.out.keeps.cell (hc i x hx)
      clear hc
      have hxl := x.toNat_lt
      have HDR : Hid (l.drop i = x :: l.drop (i + 1)) := hide (by
        have hlt' : i < l.length := by rw [HN.out]; exact hlt
        rw [List.drop_eq_getElem_cons hlt']
        rw [List.getElem?_eq_getElem hlt'] at hx
        injection hx with hx
        rw [hx])
      have hor := or_u8 bt x.toNat (by omega)
      obtain ⟨b1, HB1⟩ : ∃ u : Nat, Hid (bt * 256 % 4294967296 + x.toNat = u) := ⟨_, hide rfl⟩
      rw [HB1.out] at hor
      have hb1 : b1 < 4294967296 := by have := HB1.out; omega
      have HG1 : Hid (acc ++ (emitN b1 (lf + 8) ++ (goB (l.drop (i + 1)) b1 ((lf + 8) % 6)).1) = TA ∧ (goB (l.drop (i + 1)) b1 ((lf + 8) % 6)).2 = (TB, TL)) := hide (by
        have h := HG.out
        rw [HDR.out] at h
        simp only [goB, HB1.out] at h
        exact h)
      obtain ⟨wr, HWR⟩ := worldOf HX
      subst HWR
      have hli : (lf : Int) < 6 := by omega
      clear hx HG
      go_upto_region 8 with fail
      go_loopw [3, 5] (fun ov lv w2 => ∃ (l2 : Nat) (ac2 : List UInt8), lv = .int .i64 (l2 : Int) ∧ l2 < 14 ∧ l2 % 6 = (lf + 8) % 6 ∧ Hid (Ext w w2) ∧ Hid (Own w2 w.heap.size ov ac2) ∧ Hid (ac2 ++ emitN b1 l2 = acc ++ emitN b1 (lf + 8))) (fun _ lv _ => (intOf lv).toNat)
      case atStart => exact ⟨lf + 8, acc, by push_cast; rfl, by omega, rfl, HX, HO, hide rfl⟩
      case round =>
        obtain ⟨l2, ac2, rfl, hl2, hm2, HX2, HO2, HE2⟩ := hrel
        by_cases h6 : 6 ≤ l2
        · have h6i : (6 : Int) ≤ (l2 : Int) := by omega
          obtain ⟨l3, rfl⟩ : ∃ l3, l2 = l3 + 6 := ⟨l2 - 6, by omega⟩
          have h66 : ((l3 + 6 : Nat) : Int) - 6 = (l3 : Int) := by omega
          have hq : b1 / 2 ^ l3 < 4294967296 := Nat.lt_of_le_of_lt (Nat.div_le_self _ _) hb1
          have hand := and_63 (b1 / 2 ^ l3) hq
          obtain ⟨v, HV⟩ : ∃ v, Hid (b1 / 2 ^ l3 % 64 = v) := ⟨_, hide rfl⟩
          rw [HV.out] at hand
          have hdv : ((b1 / 2 ^ l3 : Nat) : Int) = (b1 : Int) / 2 ^ l3 := by rw [Int.natCast_ediv, Int.natCast_pow]; rfl
          rw [hdv] at hand
          have hv64 : v < 64 := by rw [← HV.out]; exact Nat.mod_lt _ (by decide)
          have hvs : v < alph.size := hv64
          have hlen : Hid (ac2.length ≤ 2000000) := hide (by
            have h1 := congrArg List.length HE2.out
            have h2 := congrArg List.length HG1.out.1
            have h3 := HTL.out.1
            simp only [List.length_append] at h1 h2
            omega)
          have hl3i : (l3 : Int) ≤ 13 := by omega
          go_wp2_with (at_builtin; go_loud (refine wpList_push (by rfl) (.tmp 31) (.tmp 37) rfl w.heap.size _ ac2 rfl rfl HO2.out (u8z _) (u8i _) HX2.out.size (by have := hlen.out; omega) ?_; intro v3 w3 ho3 hb3; have ho3 := (show b8 _ = sgn v from sgn_at v hvs) ▸ ho3; have X3 := hide (HX2.out.below (Nat.le_refl _) hb3)))
          refine ⟨⟨l3, ac2 ++ [sgn v], rfl, by omega, by omega, X3, hide ho3, hide ?_⟩, by simp [intOf]; omega⟩
          have h1 := HE2.out
          rw [emitN_step b1 l3 hl2, HV.out] at h1
          rw [List.append_assoc]
          exact h1
        · have h6i : ¬ (6 : Int) ≤ (l2 : Int) := by omega
          have hE : Hid (ac2 ++ (goB (l.drop (i + 1)) b1 l2).1 = TA ∧ (goB (l.drop (i + 1)) b1 l2).2 = (TB, TL)) := hide (by
            have h1 := HE2.out
            rw [emitN_none b1 l2 (by omega), List.append_nil] at h1
            have h2 := HG1.out
            rw [← hm2, Nat.mod_eq_of_lt (show l2 < 6 by omega), ← List.append_assoc, ← h1] at h2
            exact h2)
          go_wp2
          exact ⟨⟨i + 1, b1, l2, ac2, by omega, by go_num, rfl, hb1, rfl, by omega, HX2, HO2, hE⟩, by simp [intOf]; omega⟩
    · obtain rfl : i = n := by omega
      have hii : ¬ (i : Int) < (i : Int) := by omega
      have HD : Hid (acc = TA ∧ bt = TB ∧ lf = TL) := hide (by
        have h := HG.out
        rw [List.drop_of_length_le (by rw [HN.out]; exact Nat.le_refl _)] at h
        simp only [goB, List.append_nil, Prod.mk.injEq] at h
        exact ⟨h.1, h.2.1, h.2.2⟩)
      have hlen : Hid (acc.length ≤ 2000000) := hide (by rw [HD.out.1]; have := HTL.out.1; omega)
      by_cases h0 : 0 < lf
      · have h0i : (0 : Int) < (lf : Int) := by omega
        obtain ⟨k, HK⟩ : ∃ k : Nat, Hid (6 - lf = k) := ⟨_, hide rfl⟩
        have hk : (6 : Int) - (lf : Int) = (k : Int) := by have := HK.out; omega
        have hki : (k : Int) ≤ 6 := by omega
        obtain ⟨q, HQ⟩ : ∃ q : Nat, Hid (bt * 2 ^ k % 4294967296 = q) := ⟨_, hide rfl⟩
        have hq : q < 4294967296 := by rw [← HQ.out]; exact Nat.mod_lt _ (by decide)
        have hqi : (bt : Int) * 2 ^ k % 4294967296 = (q : Int) := by rw [← HQ.out, Int.natCast_emod, Int.natCast_mul, Int.natCast_pow]; rfl
        have hand := and_63 q hq
        obtain ⟨v, HV⟩ : ∃ v, Hid (q % 64 = v) := ⟨_, hide rfl⟩
        rw [HV.out] at hand
        have hv64 : v < 64 := by rw [← HV.out]; exact Nat.mod_lt _ (by decide)
        have hvs : v < alph.size := hv64
        have HF : Hid (baseB l = acc ++ [sgn v]) := hide (by
          rw [HBB.out, ← HD.out.2.1, ← HD.out.2.2, if_pos h0, HK.out, ← HD.out.1, ← HV.out, ← HQ.out, Nat.mod_mod_of_dvd _ (show 64 ∣ 4294967296 from ⟨67108864, rfl⟩)])
        go_wp2_with (first
          | (at_builtin; refine wpList_push (by rfl) (.tmp 42) (.tmp 49) rfl w.heap.size _ acc rfl rfl HO.out (u8z _) (u8i _) HX.out.size (by have := hlen.out; omega) ?_; intro v3 w3 ho3 hb3; have ho3 := (show b8 _ = sgn v from sgn_at v hvs) ▸ ho3; have X3 := hide (HX.out.below (Nat.le_refl _) hb3))
          | (refine wpList_str (by rfl) (.tmp 51) rfl (acc ++ [sgn v]) ho3.bytes ?_))
        go_ret
        rw [HF.out]
        exact Ret.mk X3.out rfl
      · have h0i : ¬ (0 : Int) < (lf : Int) := by omega
        have HF : Hid (baseB l = acc) := hide (by rw [HBB.out, ← HD.out.2.2, if_neg h0, HD.out.1, List.append_nil])
        go_wp2_with (refine wpList_str (by rfl) (.tmp 51) rfl acc HO.out.bytes ?_)
        go_ret
        rw [HF.out]
        exact Ret.mk HX.out rfl
end Go.Proofs.YtdllppaichlnaaaDoor
namespace Go.Proofs.YtdllppaichlnaaaDoor
open Go.RowKit

theorem ix_spec : ∀ (l : List UInt8) (c : UInt8), (Lib.indexByte l c = -1 ∧ c ∉ l) ∨ ∃ i, i < l.length ∧ Lib.indexByte l c = (i : Int) ∧ l.getD i 0 = c
  | [], _ => .inl ⟨rfl, by simp⟩
  | b :: l, c => by
    unfold Lib.indexByte
    by_cases h : b = c
    · subst h
      exact .inr ⟨0, by simp, by simp, rfl⟩
    · have hb : (b == c) = false := by simpa using h
      rw [hb]
      rcases ix_spec l c with ⟨h1, h2⟩ | ⟨i, h1, h2, h3⟩
      · rw [h1]
        exact .inl ⟨rfl, by simp [h2, Ne.symm h]⟩
      · rw [h2]
        have hn : (((i : Int) == -1)) = false := beq_eq_false_iff_ne.2 (by omega)
        rw [hn]
        exact .inr ⟨i + 1, by simpa using h1, rfl, h3⟩
/-- The six bits of a sign, if it is one. -/
def sixN (c : UInt8) : Option Nat := match Lib.indexByte alph.data.toList c with | .ofNat n => some n | .negSucc _ => none
theorem six_none (c : UInt8) (h : sixN c = none) : Lib.indexByte alph.data.toList c = -1 ∧ c ∉ alph.data.toList := by
  rcases ix_spec alph.data.toList c with h1 | ⟨i, _, h2, _⟩
  · exact h1
  · unfold sixN at h
    rw [h2] at h
    cases h
theorem six_some (c : UInt8) (v : Nat) (h : sixN c = some v) : Lib.indexByte alph.data.toList c = (v : Int) ∧ v < 64 ∧ sgn v = c := by
  rcases ix_spec alph.data.toList c with h1 | ⟨i, h1, h2, h3⟩
  · unfold sixN at h
    rw [h1.1] at h
    cases h
  · unfold sixN at h
    rw [h2] at h
    have h : some i = some v := h
    injection h with h
    subst h
    exact ⟨h2, h1, h3⟩
/-- What ReadBase does with some signs, with the bits that are left. -/
def goR : List UInt8 → Nat → Nat → Option (List UInt8 × Nat × Nat)
  | [], b, l => some ([], b, l)
  | c :: cs, b, l => match sixN c with
    | none => none
    | some v => if 2 ≤ l then (goR cs (b * 64 % 4294967296 + v) (l - 2)).map (fun r => (b8 (((b * 64 % 4294967296 + v) / 2 ^ (l - 2) % 256 : Nat) : Int) :: r.1, r.2)) else goR cs (b * 64 % 4294967296 + v) (l + 6)
def finR (acc : List UInt8) (o : Option (List UInt8 × Nat × Nat)) : Option (List UInt8) := o.bind fun r => if r.2.2 = 6 ∨ r.2.1 % 2 ^ r.2.2 ≠ 0 then none else some (acc ++ r.1)
/-- The bytes of some signs. -/
def readB (cs : List UInt8) : Option (List UInt8) := finR [] (goR cs 0 0)
theorem or_u6 (b x : Nat) (hx : x < 64) : bits .or .u32 ((b : Int) * 64 % 4294967296) (x : Int) = ((b * 64 % 4294967296 + x : Nat) : Int) := by
  have e1 : (b : Int) * 64 % 4294967296 = (((b % 67108864) * 64 : Nat) : Int) := by omega
  have e2 : b * 64 % 4294967296 = (b % 67108864) * 64 := by omega
  rw [e1, e2]
  show IntKind.u32.wrap ((BitVec.ofInt 32 (((b % 67108864) * 64 : Nat) : Int) ||| BitVec.ofInt 32 ((x : Nat) : Int)).toNat : Int) = _
  have hlow : (b % 67108864) * 64 ||| x = (b % 67108864) * 64 + x := by
    have := Nat.shiftLeft_add_eq_or_of_lt (i := 6) (b := x) (by omega) (b % 67108864)
    rw [Nat.shiftLeft_eq] at this
    exact this.symm
  rw [BitVec.toNat_or, BitVec.ofInt_natCast, BitVec.ofInt_natCast, BitVec.toNat_ofNat, BitVec.toNat_ofNat,
    Nat.mod_eq_of_lt (show (b % 67108864) * 64 < 2 ^ 32 by omega), Nat.mod_eq_of_lt (show x < 2 ^ 32 by omega), hlow, IntKind.wrap_u32]
  omega
theorem and_mask (b k : Nat) (hb : b < 4294967296) (hk : k ≤ 31) : bits .and .u32 (b : Int) ((2 ^ k - 1 : Nat) : Int) = ((b % 2 ^ k : Nat) : Int) := by
  have hp : 2 ^ k ≤ 2 ^ 31 := Nat.pow_le_pow_right (by decide) hk
  have hp2 : (2 : Nat) ^ 31 = 2147483648 := by decide
  have hp0 : 0 < 2 ^ k := Nat.pow_pos (by decide)
  show IntKind.u32.wrap ((BitVec.ofInt 32 ((b : Nat) : Int) &&& BitVec.ofInt 32 ((2 ^ k - 1 : Nat) : Int)).toNat : Int) = _
  rw [BitVec.toNat_and, BitVec.ofInt_natCast, BitVec.ofInt_natCast, BitVec.toNat_ofNat, BitVec.toNat_ofNat, Nat.mod_eq_of_lt (show b < 2 ^ 32 by omega), Nat.mod_eq_of_lt (show 2 ^ k - 1 < 2 ^ 32 by omega),
    Nat.and_two_pow_sub_one_eq_mod, IntKind.wrap_u32]
  have := Nat.mod_lt b hp0
  omega
def RdBP (w : World) (o : Option (List UInt8)) (e : Ending) (w' : World) : Prop := Ext w w' ∧ match o with
  | none => e = .returned (.tuple #[.slice none 0 0, .int .i64 3])
  | some l => ∃ v, e = .returned (.tuple #[v, .int .i64 0]) ∧ Bytes l w' v
set_option maxRecDepth 20000 in
set_option maxHeartbeats 3200000 in
theorem readBase_any (s : ByteArray) (w : World) (hs : s.size ≤ 1000000) :
    Calls Tryd.prog 26 #[.string s] w (RdBP w (readB s.data.toList)) := by
  have KIX := hide (fun (x : UInt8) (W : World) => (show Calls Tryd.prog 36 #[.string alph, .int .u8 (x.toNat : Int)] W (fun e w' => e = .returned (.int .i64 (Lib.indexByte alph.data.toList x)) ∧ w' = W) from by
    have h := Tryd.strings_IndexByte alph (x.toNat : Int) W
    rw [show ((x.toNat : Int)).toNat.toUInt8 = x from by rw [Int.toNat_natCast]; exact UInt8.ofNat_toNat] at h
    exact h))
  obtain ⟨RES, HRES⟩ : ∃ o, Hid (readB s.data.toList = o) := ⟨_, hide rfl⟩
  rw [HRES.out]
  obtain ⟨n, HN⟩ : ∃ n, Hid (s.size = n) := ⟨_, hide rfl⟩
  have hnI : (n : Int) ≤ 1000000 := by have := HN.out; omega
  have hsn : (s.size : Int) = (n : Int) := by rw [HN.out]
  obtain ⟨m, HM⟩ : ∃ m : Nat, Hid (n / 4 = m) := ⟨_, hide rfl⟩
  have hm3 : (n : Int) / 4 = (m : Int) := by have := HM.out; omega
  have hmI : (m : Int) ≤ 250000 := by have := HM.out; omega
  have hmk := fun W => run_make_room (m * 3 + 2) (by omega) W
  rw [show ((m * 3 + 2 : Nat) : Int) = (m : Int) * 3 + 2 from by omega] at hmk
  unfold alph at KIX
  go_enter Tryd.func26, Tryd.ntmps26
  go_upto_region 4 with fail
  have hown0 := Own.room w w.heap.size (m * 3 + 2) (Nat.le_refl _) (by omega)
  go_loopw [4, 5, 6, 7, 8, 17] (fun ov bv lv _ _ iv wr => ∃ (i bt lf : Nat) (acc : List UInt8), i ≤ n ∧ iv = .int .i64 (i : Int) ∧ bv = .int .u32 (bt : Int) ∧ bt < 4294967296 ∧ lv = .int .i64 (lf : Int) ∧ lf < 8 ∧ lf % 2 = 0 ∧ acc.length ≤ i ∧ Hid (Ext w wr) ∧ Hid (Own wr w.heap.size ov acc) ∧ Hid (finR acc (goR (s.data.toList.drop i) bt lf) = RES)) (fun _ _ _ _ _ iv _ => n - (intOf iv).toNat)
  case atStart => exact ⟨0, 0, 0, [], Nat.zero_le _, rfl, rfl, by decide, rfl, by decide, rfl, Nat.zero_le _, hide (Ext.alloc _ _), hide hown0, hide (by rw [List.drop_zero]; exact HRES.out)⟩
  case round =>
    obtain ⟨i, bt, lf, acc, hi, rfl, rfl, hbt, rfl, hlf, hev, hal, HX, HO, HG⟩ := hrel
    by_cases hlt : i < n
    · have hii : (i : Int) < (n : Int) := by omega
      have his : i < s.size := by rw [HN.out]; exact hlt
      have HDR : Hid (s.data.toList.drop i = s[i] :: s.data.toList.drop (i + 1)) := hide (by
        have hlt' : i < s.data.toList.length := by rw [size_list]; exact his
        rw [List.drop_eq_getElem_cons hlt']
        rfl)
      have hxl := (s[i]).toNat_lt
      obtain ⟨wr, HWR⟩ := worldOf HX
      subst HWR
      cases hsx : sixN s[i] with
      | none =>
        have KI := hide (KIX.out s[i])
        have hm1 := (six_none _ hsx).1
        unfold alph at hm1
        rw [hm1] at KI
        have HE : Hid (RES = none) := hide (by
          rw [← HG.out, HDR.out]
          simp only [goR, hsx]
          rfl)
        go_wp2_with (go_at_call 36; (with_reducible refine (KI.out _).mono ?_); rintro e x ⟨rfl, hx⟩; have hx := hx.symm; subst hx)
        go_ret2
        rw [HE.out]
        exact ⟨HX.out, rfl⟩
      | some v =>
        obtain ⟨hm1, hv64, hsg⟩ := six_some _ v hsx
        have KI := hide (KIX.out s[i])
        unfold alph at hm1
        rw [hm1] at KI
        have hvi : ¬ (v : Int) < 0 := by omega
        have hwv : IntKind.u32.wrap (v : Int) = (v : Int) := by rw [IntKind.wrap_u32]; omega
        have hor := or_u6 bt v hv64
        obtain ⟨b1, HB1⟩ : ∃ u : Nat, Hid (bt * 64 % 4294967296 + v = u) := ⟨_, hide rfl⟩
        rw [HB1.out] at hor
        have hb1 : b1 < 4294967296 := by have := HB1.out; omega
        by_cases h2 : 2 ≤ lf
        · obtain ⟨l3, rfl⟩ : ∃ l3, lf = l3 + 2 := ⟨lf - 2, by omega⟩
          have h8 : (8 : Int) ≤ ((l3 + 2 : Nat) : Int) + 6 := by omega
          have h88 : ((l3 + 2 : Nat) : Int) + 6 - 8 = (l3 : Int) := by omega
          obtain ⟨y, HY⟩ : ∃ y, Hid (b1 / 2 ^ l3 % 256 = y) := ⟨_, hide rfl⟩
          have hy : y < 256 := by rw [← HY.out]; exact Nat.mod_lt _ (by decide)
          have hdv : ((b1 / 2 ^ l3 : Nat) : Int) = (b1 : Int) / 2 ^ l3 := by rw [Int.natCast_ediv, Int.natCast_pow]; rfl
          have hwy : IntKind.u8.wrap ((b1 : Int) / 2 ^ l3) = (y : Int) := by rw [← hdv, IntKind.wrap_u8, ← HY.out]; omega
          have HG1 : Hid (finR (acc ++ [b8 (y : Int)]) (goR (s.data.toList.drop (i + 1)) b1 l3) = RES) := hide (by
            have h := HG.out
            rw [HDR.out] at h
            simp only [goR, hsx, HB1.out] at h
            rw [if_pos (by omega), Nat.add_sub_cancel, HY.out] at h
            rw [← h]
            cases goR (s.data.toList.drop (i + 1)) b1 l3 with
            | none => rfl
            | some r => simp [finR])
          have hl3i : (l3 : Int) ≤ 8 := by omega
          go_wp2_with (first
            | (go_at_call 36; (with_reducible refine (KI.out _).mono ?_); rintro e x ⟨rfl, hx⟩; have hx := hx.symm; subst hx)
            | (at_builtin; refine wpList_push (by rfl) (.tmp 37) (.tmp 42) rfl w.heap.size _ acc rfl rfl HO.out (by omega) (by omega) HX.out.size (by omega) ?_; intro v3 w3 ho3 hb3; have X3 := hide (HX.out.below (Nat.le_refl _) hb3)))
          exact ⟨⟨i + 1, b1, l3, acc ++ [b8 (y : Int)], by omega, by go_num, rfl, hb1, by first | rfl | go_num, by omega, by omega, by rw [List.length_append]; simp; omega, X3, hide ho3, HG1⟩, by simp [intOf]; omega⟩
        · have h8 : ¬ (8 : Int) ≤ (lf : Int) + 6 := by omega
          have HG1 : Hid (finR acc (goR (s.data.toList.drop (i + 1)) b1 (lf + 6)) = RES) := hide (by
            have h := HG.out
            rw [HDR.out] at h
            simp only [goR, hsx, HB1.out] at h
            rw [if_neg h2] at h
            exact h)
          go_wp2_with (go_at_call 36; (with_reducible refine (KI.out _).mono ?_); rintro e x ⟨rfl, hx⟩; have hx := hx.symm; subst hx)
          exact ⟨⟨i + 1, b1, lf + 6, acc, by omega, by go_num, rfl, hb1, by push_cast; rfl, by omega, by omega, by omega, HX, HO, HG1⟩, by simp [intOf]; omega⟩
    · obtain rfl : i = n := by omega
      have hii : ¬ (i : Int) < (i : Int) := by omega
      have hd0 : s.data.toList.drop i = [] := List.drop_of_length_le (by rw [size_list, HN.out]; exact Nat.le_refl _)
      have HG1 := HG.out
      rw [hd0] at HG1
      simp only [goR, finR, Option.bind_some, List.append_nil] at HG1
      rcases (by omega : lf = 0 ∨ lf = 2 ∨ lf = 4 ∨ lf = 6) with rfl | rfl | rfl | rfl
      · have hmk2 : bits .and .u32 (bt : Int) 0 = 0 := (and_mask bt 0 hbt (by decide)).trans (by simp [Nat.mod_one])
        have HE : Hid (RES = some acc) := hide (by rw [← HG1, if_neg (by simp [Nat.mod_one])])
        go_wp2
        go_ret2
        rw [HE.out]
        exact ⟨HX.out, _, rfl, HO.out.bytes⟩
      · have hmk2 : bits .and .u32 (bt : Int) 3 = ((bt % 4 : Nat) : Int) := and_mask bt 2 hbt (by decide)
        obtain ⟨z, HZ⟩ : ∃ z, Hid (bt % 4 = z) := ⟨_, hide rfl⟩
        have HG2 : (if (2 : Nat) = 6 ∨ z ≠ 0 then none else some acc) = RES := by rw [← HZ.out]; exact HG1
        rw [HZ.out] at hmk2
        by_cases hz : z = 0
        · subst hz
          have hmk3 : bits .and .u32 (bt : Int) 3 = 0 := hmk2
          have HE : Hid (RES = some acc) := hide (by rw [← HG2, if_neg (by decide)])
          clear hmk2
          go_wp2
          go_ret2
          rw [HE.out]
          exact ⟨HX.out, _, rfl, HO.out.bytes⟩
        · have hzb : ((z : Int) != 0) = true := by simp; omega
          have hzi : ¬ (z : Int) = 0 := by omega
          have HE : Hid (RES = none) := hide (by rw [← HG2, if_pos (.inr hz)])
          go_wp2
          go_ret2
          rw [HE.out]
          exact ⟨HX.out, rfl⟩
      · have hmk2 : bits .and .u32 (bt : Int) 15 = ((bt % 16 : Nat) : Int) := and_mask bt 4 hbt (by decide)
        obtain ⟨z, HZ⟩ : ∃ z, Hid (bt % 16 = z) := ⟨_, hide rfl⟩
        have HG2 : (if (4 : Nat) = 6 ∨ z ≠ 0 then none else some acc) = RES := by rw [← HZ.out]; exact HG1
        rw [HZ.out] at hmk2
        by_cases hz : z = 0
        · subst hz
          have hmk3 : bits .and .u32 (bt : Int) 15 = 0 := hmk2
          have HE : Hid (RES = some acc) := hide (by rw [← HG2, if_neg (by decide)])
          clear hmk2
          go_wp2
          go_ret2
          rw [HE.out]
          exact ⟨HX.out, _, rfl, HO.out.bytes⟩
        · have hzb : ((z : Int) != 0) = true := by simp; omega
          have hzi : ¬ (z : Int) = 0 := by omega
          have HE : Hid (RES = none) := hide (by rw [← HG2, if_pos (.inr hz)])
          go_wp2
          go_ret2
          rw [HE.out]
          exact ⟨HX.out, rfl⟩
      · have HE : Hid (RES = none) := hide (by rw [← HG1, if_pos (.inl rfl)])
        go_wp2
        go_ret2
        rw [HE.out]
        exact ⟨HX.out, rfl⟩
end Go.Proofs.YtdllppaichlnaaaDoor
namespace Go.Proofs.YtdllppaichlnaaaDoor
open Go.RowKit

def zer32 : List UInt8 := List.replicate 32 0
/-- A secret's cells. -/
def sec (a r : Int) (d : List UInt8) : List Value := .int .u64 a :: .int .i64 r :: bs d
theorem sec_len (a r : Int) (d : List UInt8) (h : d.length = 32) : (sec a r d).length = 34 := by simp [sec, bs_length, h]
theorem sec_one (a r : Int) (d : List UInt8) : (sec a r d).all (·.oneCell') = true := by
  unfold sec
  rw [List.all_cons, List.all_cons, List.all_eq_true.2 (bs_one _)]
  rfl
def okR (r : Int) : Bool := decide (1 ≤ r ∧ r ≤ 64)
def errR (r : Int) : Int := if okR r = true then 0 else 1
/-- What a password gives by a salt's bytes and so many rounds. -/
def strU (p q : List UInt8) (r : Int) : List UInt8 := if okR r = true then (stretchS p q (r - 1).toNat).2 else zer32
theorem strU_len (p q : List UInt8) (r : Int) : (strU p q r).length = 32 := by
  unfold strU
  split
  · exact (stretchS_length p q _).2
  · rfl
theorem stretch_u (A B : Option Addr) (c d : Nat) (p q : List UInt8) (r : Int) (w : World) (hA : Rd w A p) (hB : Rd w B q) (hpc : p.length ≤ c) (hqc : q.length ≤ d) (hp : p.length ≤ 1000000) (hq : q.length ≤ 1000000) (ht : Tab w) :
    Calls Tryd.prog 18 #[.slice A p.length c, .slice B q.length d, .int .i64 r] w (Ret w (Is (.tuple #[.agg (bs (strU p q r)).toArray, .int .i64 (errR r)]))) := by
  unfold strU errR
  by_cases h : 1 ≤ r ∧ r ≤ 64
  · rw [if_pos (by unfold okR; exact decide_eq_true h), if_pos (by unfold okR; exact decide_eq_true h)]
    have h3 := stretch_any A B c d p q (r - 1).toNat w hA hB hpc hqc hp hq (by omega) ht
    rw [show (((r - 1).toNat : Nat) : Int) + 1 = r by omega] at h3
    exact h3
  · rw [if_neg (by unfold okR; simpa using h), if_neg (by unfold okR; simpa using h)]
    exact stretch_bad A B c d p.length q.length r w (by omega)
theorem rstretch_u (tb : List Nat) (htb : Hid (tb = startW ++ roundW)) (A B : Option Addr) (c d : Nat) (p q : List UInt8) (r : Int) (w : World) (hA : Rd w A p) (hB : Rd w B q) (hp : p.length ≤ 1000000) (hq : q.length ≤ 1000000) (hr : okR r = true) :
    Calls Tryd.prog 10 #[.agg (us tb).toArray, .slice A p.length c, .slice B q.length d, .int .i64 r] w (Ret w (Is (.agg (bs (strU p q r)).toArray))) := by
  unfold strU
  rw [if_pos hr]
  unfold okR at hr
  have hr' := of_decide_eq_true hr
  have h3 := rstretch_any tb htb A B c d p q (r - 1).toNat w hA hB hp hq (by omega)
  rw [show (((r - 1).toNat : Nat) : Int) + 1 = r by omega] at h3
  exact h3

theorem run_eqItems_bytes {P : Program} (w : World) (d e : Nat) (l m : List UInt8) (he : P.underlying e = some (.int .u8)) (hsz : P.cellsOf e = 1) : ∀ (is : List Nat), (∀ i ∈ is, i < l.length ∧ i < m.length) →
    (Op.eqItems (d + 1) e (P.cellsOf e) (bs l).toArray (bs m).toArray is).run P w = .ok (is.all fun i => l[i]? == m[i]?) w
  | [], _ => by simp [Op.eqItems]
  | i :: is, h => by
    obtain ⟨h1, h2⟩ := h i (List.mem_cons_self)
    have p1 : (part e (bs l).toArray (i * 1)).run P w = .ok (.int .u8 ((l[i]).toNat : Int)) w := run_part_plain w (by simp [Program.plainKey, he]) (by rw [Nat.mul_one, List.getElem?_toArray, bs_get, List.getElem?_eq_getElem h1]; rfl)
    have p2 : (part e (bs m).toArray (i * 1)).run P w = .ok (.int .u8 ((m[i]).toNat : Int)) w := run_part_plain w (by simp [Program.plainKey, he]) (by rw [Nat.mul_one, List.getElem?_toArray, bs_get, List.getElem?_eq_getElem h2]; rfl)
    have ih := run_eqItems_bytes w d e l m he hsz is (fun j hj => h j (List.mem_cons_of_mem _ hj))
    rw [hsz] at ih ⊢
    have hb : (((l[i]).toNat : Int) == ((m[i]).toNat : Int)) = (l[i]? == m[i]?) := by
      rw [List.getElem?_eq_getElem h1, List.getElem?_eq_getElem h2, Bool.eq_iff_iff, beq_iff_eq, beq_iff_eq]
      constructor
      · intro h3
        rw [UInt8.toNat_inj.1 (Int.ofNat_inj.1 h3)]
      · intro h3
        rw [Option.some.inj h3]
    simp only [Op.eqItems, Sem.run_bind, p1, p2, Result.andThen_ok, run_equalIn_int w d e .u8 .u8 _ _ he, hb]
    rw [List.all_cons]
    cases (l[i]? == m[i]?)
    · simp
    · simpa using ih
theorem all_same (l m : List UInt8) (n : Nat) (hl : l.length = n) (hm : m.length = n) : ((List.range n).all fun i => l[i]? == m[i]?) = (l == m) := by
  rw [Bool.eq_iff_iff, beq_iff_eq, List.all_eq_true]
  constructor
  · intro h
    apply List.ext_getElem?
    intro i
    rcases Nat.lt_or_ge i n with hi | hi
    · exact eq_of_beq (h i (List.mem_range.2 hi))
    · rw [List.getElem?_eq_none (by omega), List.getElem?_eq_none (by omega)]
  · rintro rfl i _
    exact beq_self_eq_true _
theorem run_equal_dig (w : World) (d : Nat) (l m : List UInt8) (hl : l.length = 32) (hm : m.length = 32) : (Op.equalIn (d + 2) 24 (.agg (bs l).toArray) (.agg (bs m).toArray)).run Tryd.prog w = .ok (l == m) w := by
  obtain ⟨i, hi⟩ := info_of_underlying Tryd.underlying5
  rw [run_equalIn_array w (d + 1) _ _ Tryd.underlying24 hi, run_eqItems_bytes w d 5 l m Tryd.underlying5 (by kernel_rfl) _ (fun j hj => by rw [hl, hm]; exact ⟨List.mem_range.1 hj, List.mem_range.1 hj⟩), all_same l m 32 hl hm]
theorem run_eql_dig (w : World) (l m : List UInt8) (hl : l.length = 32) (hm : m.length = 32) : (binOp .eql 24 (.agg (bs l).toArray) (.agg (bs m).toArray)).run Tryd.prog w = .ok (.bool (l == m)) w := by
  rw [run_eql_struct, run_equal_dig w 9998 l m hl hm]
  rfl
theorem list32 (d : List UInt8) (h : d.length = 32) : ∃ x0 x1 x2 x3 x4 x5 x6 x7 x8 x9 x10 x11 x12 x13 x14 x15 x16 x17 x18 x19 x20 x21 x22 x23 x24 x25 x26 x27 x28 x29 x30 x31, d = [x0, x1, x2, x3, x4, x5, x6, x7, x8, x9, x10, x11, x12, x13, x14, x15, x16, x17, x18, x19, x20, x21, x22, x23, x24, x25, x26, x27, x28, x29, x30, x31] := by
  match d, h with
  | [x0, x1, x2, x3, x4, x5, x6, x7, x8, x9, x10, x11, x12, x13, x14, x15, x16, x17, x18, x19, x20, x21, x22, x23, x24, x25, x26, x27, x28, x29, x30, x31], _ => exact ⟨x0, x1, x2, x3, x4, x5, x6, x7, x8, x9, x10, x11, x12, x13, x14, x15, x16, x17, x18, x19, x20, x21, x22, x23, x24, x25, x26, x27, x28, x29, x30, x31, rfl⟩
theorem run_part_dig (w : World) (a r : Int) (d : List UInt8) (h : d.length = 32) : (part 24 (sec a r d).toArray 2).run Tryd.prog w = .ok (.agg (bs d).toArray) w := by
  obtain ⟨x0, x1, x2, x3, x4, x5, x6, x7, x8, x9, x10, x11, x12, x13, x14, x15, x16, x17, x18, x19, x20, x21, x22, x23, x24, x25, x26, x27, x28, x29, x30, x31, rfl⟩ := list32 d h
  kernel_rfl
theorem built_sec (a r : Int) (d : List UInt8) (h : d.length = 32) : Tryd.prog.built 26 [(0, .int .u64 a), (1, .int .i64 r), (2, .agg (bs d).toArray)] = some (sec a r d).toArray := by
  obtain ⟨x0, x1, x2, x3, x4, x5, x6, x7, x8, x9, x10, x11, x12, x13, x14, x15, x16, x17, x18, x19, x20, x21, x22, x23, x24, x25, x26, x27, x28, x29, x30, x31, rfl⟩ := list32 d h
  kernel_rfl
theorem built_sec0 : Tryd.prog.built 26 [] = some (sec 0 0 zer32).toArray := by kernel_rfl
theorem built_sec1 (r : Int) : Tryd.prog.built 26 [(1, .int .i64 r)] = some (sec 0 r zer32).toArray := by kernel_rfl
theorem run_eqFields_cons {P : Program} {w : World} {d : Nat} {xs ys : Array Value} {f : Field} {fs : List Field} {a b : Value} {r : Bool} (hn : f.name ≠ "_") (ha : (part f.type xs f.offset).run P w = .ok a w) (hb : (part f.type ys f.offset).run P w = .ok b w) (he : (Op.equalIn d f.type a b).run P w = .ok r w) :
    (Op.eqFields d xs ys (f :: fs)).run P w = if r = true then (Op.eqFields d xs ys fs).run P w else .ok false w := by
  rw [Op.eqFields, if_pos hn]
  simp only [Sem.run_bind, ha, hb, he, Result.andThen_ok]
  cases r
  · simp
  · simp
theorem run_equal_sec (w : World) (d : Nat) (a b r s : Int) (l m : List UInt8) (hl : l.length = 32) (hm : m.length = 32) : (Op.equalIn (d + 3) 26 (.agg (sec a r l).toArray) (.agg (sec b s m).toArray)).run Tryd.prog w = .ok (a == b && r == s && l == m) w := by
  have hp : Tryd.prog.stoodInHeld 26 = false := by kernel_rfl
  have ht : Tryd.prog.underlying 26 = some (.struct (Tryd.prog.fieldsOf 26)) := by kernel_rfl
  obtain ⟨fs, hfs⟩ : ∃ fs, (Tryd.prog.fieldsOf 26).toList = fs := ⟨_, rfl⟩
  have hm3 : fs.map (fun f => (f.name, f.type, f.offset)) = [("Salt", 22, 0), ("Rounds", 3, 1), ("Digest", 24, 2)] := by rw [← hfs]; kernel_rfl
  have hl3 : fs.length = 3 := by rw [← List.length_map (f := fun f => (f.name, f.type, f.offset)), hm3]; rfl
  obtain ⟨f0, f1, f2, rfl⟩ : ∃ f0 f1 f2, fs = [f0, f1, f2] := by
    match fs, hl3 with
    | [f0, f1, f2], _ => exact ⟨f0, f1, f2, rfl⟩
  simp only [List.map_cons, List.map_nil, List.cons.injEq, Prod.mk.injEq, and_true] at hm3
  obtain ⟨⟨a1, a2, a3⟩, ⟨b1, b2, b3⟩, c1, c2, c3⟩ := hm3
  have e1 : f0.name ≠ "_" := by rw [a1]; decide
  have e2 : f1.name ≠ "_" := by rw [b1]; decide
  have e3 : f2.name ≠ "_" := by rw [c1]; decide
  rw [run_equalIn_struct w (d + 2) _ _ _ ht hp, hfs]
  have p0 : ∀ (a r : Int) (l : List UInt8), (part 22 (sec a r l).toArray 0).run Tryd.prog w = .ok (.int .u64 a) w := fun a r l => run_part_plain w (by kernel_rfl) rfl
  have p1 : ∀ (a r : Int) (l : List UInt8), (part 3 (sec a r l).toArray 1).run Tryd.prog w = .ok (.int .i64 r) w := fun a r l => run_part_plain w (by kernel_rfl) rfl
  rw [run_eqFields_cons (a := .int .u64 a) (b := .int .u64 b) (r := a == b) e1 (by rw [a2, a3]; exact p0 _ _ _) (by rw [a2, a3]; exact p0 _ _ _) (by rw [a2]; exact run_equalIn_int w (d + 1) 22 .u64 .u64 a b Tryd.underlying22)]
  rw [run_eqFields_cons (a := .int .i64 r) (b := .int .i64 s) (r := r == s) e2 (by rw [b2, b3]; exact p1 _ _ _) (by rw [b2, b3]; exact p1 _ _ _) (by rw [b2]; exact run_equalIn_int w (d + 1) 3 .i64 .i64 r s Tryd.underlying3)]
  rw [run_eqFields_cons (a := .agg (bs l).toArray) (b := .agg (bs m).toArray) (r := l == m) e3 (by rw [c2, c3]; exact run_part_dig w _ _ l hl) (by rw [c2, c3]; exact run_part_dig w _ _ m hm) (by rw [c2]; exact run_equal_dig w d l m hl hm)]
  rw [show (Op.eqFields (d + 2) (sec a r l).toArray (sec b s m).toArray []).run Tryd.prog w = .ok true w by simp [Op.eqFields]]
  cases (a == b) <;> cases (r == s) <;> cases (l == m) <;> simp
theorem run_eql_sec (w : World) (a b r s : Int) (l m : List UInt8) (hl : l.length = 32) (hm : m.length = 32) : (binOp .eql 26 (.agg (sec a r l).toArray) (.agg (sec b s m).toArray)).run Tryd.prog w = .ok (.bool (a == b && r == s && l == m)) w := by
  rw [run_eql_struct, run_equal_sec w 9997 a b r s l m hl hm]
  rfl
theorem run_neq_sec (w : World) (a b r s : Int) (l m : List UInt8) (hl : l.length = 32) (hm : m.length = 32) : (binOp .neq 26 (.agg (sec a r l).toArray) (.agg (sec b s m).toArray)).run Tryd.prog w = .ok (.bool (!(a == b && r == s && l == m))) w := by
  rw [run_neq_struct, run_equal_sec w 9997 a b r s l m hl hm]
  rfl
theorem gd_dig : Tryd.prog.eqGuardType Tryd.prog.depth 24 = false := by kernel_rfl
theorem gd_sec : Tryd.prog.eqGuardType Tryd.prog.depth 26 = false := by kernel_rfl
section
variable {o : Oper} {a : Act} {w : World} {R : Value → World → Prop} {x y : Operand} {yt : Nat}
theorem gives_eql_dig (l m : List UInt8) (h : o.op = .binOp .eql 24 x y yt) (hl : l.length = 32) (hm : m.length = 32) (hx : a.eval x = .agg (bs l).toArray) (hy : a.eval y = .agg (bs m).toArray) (hR : R (.bool (l == m)) w) : gives Tryd.prog o a w R :=
  gives_bin h hx hy (run_eqGuard_agg w .eql _ x y _ _ gd_dig) (run_eql_dig w l m hl hm) hR
theorem gives_eql_sec (b c r s : Int) (l m : List UInt8) (h : o.op = .binOp .eql 26 x y yt) (hl : l.length = 32) (hm : m.length = 32) (hx : a.eval x = .agg (sec b r l).toArray) (hy : a.eval y = .agg (sec c s m).toArray) (hR : R (.bool (b == c && r == s && l == m)) w) : gives Tryd.prog o a w R :=
  gives_bin h hx hy (run_eqGuard_agg w .eql _ x y _ _ gd_sec) (run_eql_sec w b c r s l m hl hm) hR
theorem gives_neq_sec (b c r s : Int) (l m : List UInt8) (h : o.op = .binOp .neq 26 x y yt) (hl : l.length = 32) (hm : m.length = 32) (hx : a.eval x = .agg (sec b r l).toArray) (hy : a.eval y = .agg (sec c s m).toArray) (hR : R (.bool (!(b == c && r == s && l == m))) w) : gives Tryd.prog o a w R :=
  gives_bin h hx hy (run_eqGuard_agg w .neq _ x y _ _ gd_sec) (run_neq_sec w b c r s l m hl hm) hR
theorem gives_load_sec (g : Nat) (b r : Int) (l : List UInt8) (h : o.op = .load 26 x) (hx : a.eval x = .pointer (some ⟨g, 0, none⟩)) (hr : Rw w g 26 (sec b r l)) (hl : l.length = 32) (hR : R (.agg (sec b r l).toArray) w) : gives Tryd.prog o a w R :=
  gives_load_st _ x h g hx _ _ hr _ Tryd.underlying26 rfl (by rw [sec_len _ _ _ hl]; kernel_rfl) hR
theorem sec_cells {g : Nat} {b r : Int} {l : List UInt8} (hr : Rw w g 26 (sec b r l)) : ∀ j v, (bs l)[j]? = some v → w.cell? ⟨g, 2 + j, none⟩ = some v := fun j v hv => hr.cell (by unfold sec; rw [Nat.add_comm, List.getElem?_cons_succ, List.getElem?_cons_succ]; exact hv)
theorem sec_rd {g : Nat} {b r : Int} {l : List UInt8} (hr : Rw w g 26 (sec b r l)) : Rd w (some ⟨g, 2, none⟩) l := fun _ => ⟨g, 2, rfl, fun j u hu => sec_cells hr j _ (by rw [bs_get, hu]; rfl)⟩
theorem gives_load_dig (g : Nat) (l : List UInt8) (h : o.op = .load 24 x) (hx : a.eval x = .pointer (some ⟨g, 2, none⟩)) (hc : ∀ j v, (bs l)[j]? = some v → w.cell? ⟨g, 2 + j, none⟩ = some v) (hl : l.length = 32) (hR : R (.agg (bs l).toArray) w) : gives Tryd.prog o a w R :=
  gives_load_at _ x h g 2 hx _ 32 5 Tryd.underlying24 (by kernel_rfl) (by rw [bs_length, hl]) hc hR
theorem gives_conv_str (s : ByteArray) (h : o.op = .convert 9 37 x) (hx : a.eval x = .string s) (hR : ∀ v w', Bytes s.data.toList w' v → Ext w w' → R v w') : gives Tryd.prog o a w R := by
  obtain ⟨c, w', hrun, h1, h2, h3⟩ := run_conv s w
  refine gives_of_run (w' := w') (v := .slice (some ⟨w.heap.size, 0, none⟩) s.size c) ?_ (hR _ _ ⟨_, c, by rw [show s.data.toList.length = s.size by rw [Array.length_toList]; rfl], by rw [Array.length_toList]; exact h3, h1.rd⟩ h2)
  unfold execOp
  simp only [h, hx, Sem.run_bind, hrun, Result.andThen_ok, Sem.run_pure]
theorem run_fd (g : Nat) (w : World) : (Instr.fieldAt 26 (.pointer (some ⟨g, 0, none⟩)) 2).run Tryd.prog w = .ok (.pointer (some ⟨g, 2, none⟩)) w := by
  simp [go_sem]
theorem run_f0 (g : Nat) (w : World) : (Instr.fieldAt 26 (.pointer (some ⟨g, 0, none⟩)) 0).run Tryd.prog w = .ok (.pointer (some ⟨g, 0, none⟩)) w := by
  simp [go_sem]
theorem run_f1 (g : Nat) (w : World) : (Instr.fieldAt 26 (.pointer (some ⟨g, 0, none⟩)) 1).run Tryd.prog w = .ok (.pointer (some ⟨g, 1, none⟩)) w := by
  simp [go_sem]
theorem run_sl (g : Nat) (w : World) : (Instr.sliceAt 24 (.pointer (some ⟨g, 2, none⟩)) none none none).run Tryd.prog w = .ok (.slice (some ⟨g, 2, none⟩) 32 32) w := by
  simp [go_sem, Tryd.underlying24]
theorem gives_sl {g : Nat} (h : o.op = .slice 24 x none none none) (hx : a.eval x = .pointer (some ⟨g, 2, none⟩)) (hR : R (.slice (some ⟨g, 2, none⟩) 32 32) w) : gives Tryd.prog o a w R := by
  refine gives_of_run (w' := w) (v := .slice (some ⟨g, 2, none⟩) 32 32) ?_ hR
  unfold execOp
  simp only [h, Option.map_none, hx, Sem.run_bind, run_sl, Result.andThen_ok, Sem.run_pure]
theorem gives_cell {ty : TypeId} {k : IntKind} {g i : Nat} {z : Int} (h : o.op = .load ty x) (hx : a.eval x = .pointer (some ⟨g, i, none⟩)) (hu : Tryd.prog.underlying ty = some (.int k)) (hc : w.cell? ⟨g, i, none⟩ = some (.int k z)) (hR : R (.int k z) w) : gives Tryd.prog o a w R := by
  have hl : (loadVar ty ⟨g, i, none⟩).run Tryd.prog w = .ok (.int k z) w := by simp [loadVar, isAgg, run_underlying hu, go_sem, hc]
  unfold gives execOp
  simp only [h, hx, Instr.loadAt, Instr.sureAddr, Sem.run_bind, Sem.run_pure, Result.andThen_ok, hl]
  exact hR
theorem gives_build_sec {z : Operand} (b r : Int) (l : List UInt8) (h : o.op = .build 26 #[(0, x), (1, y), (2, z)]) (hl : l.length = 32) (hx : a.eval x = .int .u64 b) (hy : a.eval y = .int .i64 r) (hz : a.eval z = .agg (bs l).toArray) (hR : R (.agg (sec b r l).toArray) w) : gives Tryd.prog o a w R := by
  refine gives_of_run (w' := w) (v := .agg (sec b r l).toArray) ?_ hR
  unfold execOp
  have hb := run_build (P := Tryd.prog) w 26 #[(0, .int .u64 b), (1, .int .i64 r), (2, .agg (bs l).toArray)] _ (built_sec b r l hl)
  simp only [h, List.map_toArray, List.map_cons, List.map_nil, hx, hy, hz, Sem.run_bind, hb, Result.andThen_ok, Sem.run_pure]
theorem gives_build_sec1 (r : Int) (h : o.op = .build 26 #[(1, x)]) (hx : a.eval x = .int .i64 r) (hR : R (.agg (sec 0 r zer32).toArray) w) : gives Tryd.prog o a w R := by
  refine gives_of_run (w' := w) (v := .agg (sec 0 r zer32).toArray) ?_ hR
  unfold execOp
  have hb := run_build (P := Tryd.prog) w 26 #[(1, .int .i64 r)] _ (built_sec1 r)
  simp only [h, List.map_toArray, List.map_cons, List.map_nil, hx, Sem.run_bind, hb, Result.andThen_ok, Sem.run_pure]
theorem gives_build_sec0 (h : o.op = .build 26 #[]) (hR : R (.agg (sec 0 0 zer32).toArray) w) : gives Tryd.prog o a w R := by
  refine gives_of_run (w' := w) (v := .agg (sec 0 0 zer32).toArray) ?_ hR
  unfold execOp
  have hb := run_build (P := Tryd.prog) w 26 #[] _ built_sec0
  simp only [h, List.map_toArray, List.map_nil, Sem.run_bind, hb, Result.andThen_ok, Sem.run_pure]
end
section
variable {ops : Array Oper} {rest : List Oper} {o : Oper} {a : Act} {Q : Exit → Act → World → Prop} {w : World}
theorem wpList_gv {v : Value} (hgd : Region.wanted o (yielded ops a.tmps) = true) (h : gives Tryd.prog o a w fun v' w' => v' = v ∧ w' = w) (hK : wpList Tryd.prog ops Q rest (a.put o.dst v) w) : wpList Tryd.prog ops Q (o :: rest) a w :=
  wpList_step fun K hKK => by
    rw [if_pos hgd]
    exact wp_of_gives h fun v w' ⟨hv, hw⟩ => by subst hv hw; exact hKK _ _ hK
theorem wpList_gvx {R : Value → World → Prop} (hgd : Region.wanted o (yielded ops a.tmps) = true) (h : gives Tryd.prog o a w R) (hK : ∀ v w', R v w' → wpList Tryd.prog ops Q rest (a.put o.dst v) w') : wpList Tryd.prog ops Q (o :: rest) a w :=
  wpList_step fun K hKK => by
    rw [if_pos hgd]
    exact wp_of_gives h fun v w' h' => hKK _ _ (hK v w' h')
theorem wpList_load_sec (hgd : Region.wanted o (yielded ops a.tmps) = true) (x : Operand) (ho : o.op = .load 26 x) (g : Nat) (hx : a.eval x = .pointer (some ⟨g, 0, none⟩)) (b r : Int) (l : List UInt8) (hr : Rw w g 26 (sec b r l)) (hl : l.length = 32)
    (hK : wpList Tryd.prog ops Q rest (a.put o.dst (.agg (sec b r l).toArray)) w) : wpList Tryd.prog ops Q (o :: rest) a w := wpList_gv hgd (gives_load_sec g b r l ho hx hr hl ⟨rfl, rfl⟩) hK
theorem wpList_load_dig (hgd : Region.wanted o (yielded ops a.tmps) = true) (x : Operand) (ho : o.op = .load 24 x) (g : Nat) (hx : a.eval x = .pointer (some ⟨g, 2, none⟩)) (b r : Int) (l : List UInt8) (hr : Rw w g 26 (sec b r l)) (hl : l.length = 32)
    (hK : wpList Tryd.prog ops Q rest (a.put o.dst (.agg (bs l).toArray)) w) : wpList Tryd.prog ops Q (o :: rest) a w := wpList_gv hgd (gives_load_dig g l ho hx (sec_cells hr) hl ⟨rfl, rfl⟩) hK
theorem wpList_eql_dig (hgd : Region.wanted o (yielded ops a.tmps) = true) (x y : Operand) {yt : Nat} (ho : o.op = .binOp .eql 24 x y yt) (l m : List UInt8) (hx : a.eval x = .agg (bs l).toArray) (hy : a.eval y = .agg (bs m).toArray) (hl : l.length = 32) (hm : m.length = 32)
    (hK : wpList Tryd.prog ops Q rest (a.put o.dst (.bool (l == m))) w) : wpList Tryd.prog ops Q (o :: rest) a w := wpList_gv hgd (gives_eql_dig l m ho hl hm hx hy ⟨rfl, rfl⟩) hK
theorem wpList_eql_sec (hgd : Region.wanted o (yielded ops a.tmps) = true) (x y : Operand) {yt : Nat} (ho : o.op = .binOp .eql 26 x y yt) (b c r s : Int) (l m : List UInt8) (hx : a.eval x = .agg (sec b r l).toArray) (hy : a.eval y = .agg (sec c s m).toArray) (hl : l.length = 32) (hm : m.length = 32)
    (hK : wpList Tryd.prog ops Q rest (a.put o.dst (.bool (b == c && r == s && l == m))) w) : wpList Tryd.prog ops Q (o :: rest) a w := wpList_gv hgd (gives_eql_sec b c r s l m ho hl hm hx hy ⟨rfl, rfl⟩) hK
theorem wpList_eql_sec1 (hgd : Region.wanted o (yielded ops a.tmps) = true) (x y : Operand) {yt : Nat} (ho : o.op = .binOp .eql 26 x y yt) (b r : Int) (l : List UInt8) (hx : a.eval x = .agg (sec b r l).toArray) (hy : a.eval y = .agg (sec b r l).toArray) (hl : l.length = 32)
    (hK : wpList Tryd.prog ops Q rest (a.put o.dst (.bool true)) w) : wpList Tryd.prog ops Q (o :: rest) a w := wpList_eql_sec hgd x y ho b b r r l l hx hy hl hl (by rw [beq_self_eq_true, beq_self_eq_true, beq_self_eq_true]; exact hK)
theorem wpList_neq_sec1 (hgd : Region.wanted o (yielded ops a.tmps) = true) (x y : Operand) {yt : Nat} (ho : o.op = .binOp .neq 26 x y yt) (b r : Int) (l : List UInt8) (hx : a.eval x = .agg (sec b r l).toArray) (hy : a.eval y = .agg (sec b r l).toArray) (hl : l.length = 32)
    (hK : wpList Tryd.prog ops Q rest (a.put o.dst (.bool false)) w) : wpList Tryd.prog ops Q (o :: rest) a w := wpList_gv hgd (gives_neq_sec b b r r l l ho hl hl hx hy ⟨by rw [beq_self_eq_true, beq_self_eq_true, beq_self_eq_true]; rfl, rfl⟩) hK
theorem wpList_neq_sec (hgd : Region.wanted o (yielded ops a.tmps) = true) (x y : Operand) {yt : Nat} (ho : o.op = .binOp .neq 26 x y yt) (b c r s : Int) (l m : List UInt8) (hx : a.eval x = .agg (sec b r l).toArray) (hy : a.eval y = .agg (sec c s m).toArray) (hl : l.length = 32) (hm : m.length = 32)
    (hK : wpList Tryd.prog ops Q rest (a.put o.dst (.bool (!(b == c && r == s && l == m)))) w) : wpList Tryd.prog ops Q (o :: rest) a w := wpList_gv hgd (gives_neq_sec b c r s l m ho hl hm hx hy ⟨rfl, rfl⟩) hK
theorem wpList_build_sec (hgd : Region.wanted o (yielded ops a.tmps) = true) (x y z : Operand) (ho : o.op = .build 26 #[(0, x), (1, y), (2, z)]) (b r : Int) (l : List UInt8) (hx : a.eval x = .int .u64 b) (hy : a.eval y = .int .i64 r) (hz : a.eval z = .agg (bs l).toArray) (hl : l.length = 32)
    (hK : wpList Tryd.prog ops Q rest (a.put o.dst (.agg (sec b r l).toArray)) w) : wpList Tryd.prog ops Q (o :: rest) a w := wpList_gv hgd (gives_build_sec b r l ho hl hx hy hz ⟨rfl, rfl⟩) hK
theorem wpList_build_sec1 (hgd : Region.wanted o (yielded ops a.tmps) = true) (x : Operand) (ho : o.op = .build 26 #[(1, x)]) (r : Int) (hx : a.eval x = .int .i64 r)
    (hK : wpList Tryd.prog ops Q rest (a.put o.dst (.agg (sec 0 r zer32).toArray)) w) : wpList Tryd.prog ops Q (o :: rest) a w := wpList_gv hgd (gives_build_sec1 r ho hx ⟨rfl, rfl⟩) hK
theorem wpList_build_sec0 (hgd : Region.wanted o (yielded ops a.tmps) = true) (ho : o.op = .build 26 #[])
    (hK : wpList Tryd.prog ops Q rest (a.put o.dst (.agg (sec 0 0 zer32).toArray)) w) : wpList Tryd.prog ops Q (o :: rest) a w := wpList_gv hgd (gives_build_sec0 ho ⟨rfl, rfl⟩) hK
theorem wpList_store_sec (hgd : o.guard = none) (x y : Operand) (ho : o.op = .store 26 x y) (g : Nat) (hx : a.eval x = .pointer (some ⟨g, 0, none⟩)) (b r : Int) (l : List UInt8) (hy : a.eval y = .agg (sec b r l).toArray) (b' r' : Int) (l' : List UInt8) (hr : Rw w g 26 (sec b' r' l')) (hl : l.length = 32) (hl' : l'.length = 32)
    (hK : ∀ w', Rw w' g 26 (sec b r l) → Laid1 g w w' → wpList Tryd.prog ops Q rest (a.put o.dst undef) w') : wpList Tryd.prog ops Q (o :: rest) a w :=
  wpList_store_rw hgd _ x y ho g hx _ hy _ _ hr 34 (by kernel_rfl) (by rw [sec_len _ _ _ hl]) (by rw [sec_len _ _ _ hl, sec_len _ _ _ hl']) (sec_one _ _ _) hK
end
/-- A secret out of its cell, and a number. -/
theorem ret_sec {fn : Func} {p q : Tmp} {S : Ending → World → Prop} {a : Act} {w : World} (hf : fn.results = #[.cell p 26, .tmp q]) (hd : a.defers = []) (g : Nat) (hp : a.tmps.getD p undef = .pointer (some ⟨g, 0, none⟩)) (b r : Int) (l : List UInt8) (hl : l.length = 32) (hr : Rw w g 26 (sec b r l))
    (v2 : Value) (hq : a.tmps.getD q undef = v2) (h : S (.returned (.tuple #[.agg (sec b r l).toArray, v2])) w) : bodyPost Tryd.prog fn S .ret a w := by
  have hrun : (results fn a.tmps).run Tryd.prog w = .ok (.tuple #[.agg (sec b r l).toArray, v2]) w := by
    have hp' : a.tmps[p]?.getD undef = .pointer (some ⟨g, 0, none⟩) := by simpa using hp
    have hq' : a.tmps[q]?.getD undef = v2 := by simpa using hq
    simp [results, hf, hp', hq', asAddr, run_loadVar_row w g _ 26 (sec b r l).toArray (0, 0) _ hr Tryd.underlying26 rfl (by rw [List.size_toArray, sec_len _ _ _ hl]; kernel_rfl)]
  exact bodyPost_ret hrun hd h
end Go.Proofs.YtdllppaichlnaaaDoor
namespace Go.Proofs.YtdllppaichlnaaaDoor
open Go.RowKit

theorem counts_any (r : Int) (w : World) : Calls Tryd.prog 24 #[.int .i64 r] w (fun e w' => e = .returned (.bool (okR r)) ∧ w = w') := by
  by_cases h1 : 1 ≤ r
  · by_cases h2 : r ≤ 64
    · rw [show okR r = true from decide_eq_true ⟨h1, h2⟩]
      go_enter Tryd.func24, Tryd.ntmps24
      go_wp2
      go_ret
      exact ⟨rfl, rfl⟩
    · rw [show okR r = false from decide_eq_false (fun h => h2 h.2)]
      go_enter Tryd.func24, Tryd.ntmps24
      go_wp2
      go_ret
      exact ⟨rfl, rfl⟩
  · rw [show okR r = false from decide_eq_false (fun h => h1 h.1)]
    go_enter Tryd.func24, Tryd.ntmps24
    go_wp2
    go_ret
    exact ⟨rfl, rfl⟩
/-- What is kept of a password. -/
def mkV (p : List UInt8) (a r : Int) : List Value := if okR r = true then sec a r (strU p (be64 a) r) else sec 0 0 zer32
theorem mkV_ok {p : List UInt8} {a r : Int} (h : okR r = true) : mkV p a r = sec a r (strU p (be64 a) r) := if_pos h
theorem mkV_no {p : List UInt8} {a r : Int} (h : okR r = false) : mkV p a r = sec 0 0 zer32 := if_neg (by rw [h]; decide)
theorem errR_ok {r : Int} (h : okR r = true) : errR r = 0 := if_pos h
theorem errR_no {r : Int} (h : okR r = false) : errR r = 1 := if_neg (by rw [h]; decide)
set_option maxRecDepth 20000 in
set_option maxHeartbeats 1600000 in
theorem make_yes (s : ByteArray) (a r : Int) (w : World) (ha : 0 ≤ a ∧ a < 18446744073709551616) (hs : s.size ≤ 1000000) (ht : Tab w) (hk : okR r = true) :
    Calls Tryd.prog 9 #[.string s, .int .u64 a, .int .i64 r] w (Ret w (Is (.tuple #[.agg (mkV s.data.toList a r).toArray, .int .i64 (errR r)]))) := by
  rw [mkV_ok hk, errR_ok hk]
  obtain ⟨o, HO⟩ : ∃ o, Hid (strU s.data.toList (be64 a) r = o) := ⟨_, hide rfl⟩
  have HOL : Hid (o.length = 32) := hide (by rw [← HO.out]; exact strU_len _ _ _)
  have HZ : Hid (zer32.length = 32) := hide rfl
  have KS := hide fun W (h : Ext w W) (A B : Option Addr) (c d : Nat) (hA : Rd W A s.data.toList) (hB : Rd W B (be64 a)) (hc : s.size ≤ c) (hd : 8 ≤ d) => (show Calls Tryd.prog 18 #[.slice A s.size c, .slice B 8 d, .int .i64 r] W (Ret W (Is (.tuple #[.agg (bs o).toArray, .int .i64 0]))) from (by
    have hsz : s.data.toList.length = s.size := by rw [Array.length_toList]; rfl
    have h3 := stretch_u A B c d s.data.toList (be64 a) r W hA hB (by omega) hd (by omega) (by show 8 ≤ 1000000; decide) (ht.ext h)
    rw [HO.out, errR_ok hk, hsz] at h3
    exact h3))
  rw [HO.out]
  clear ht hs hk
  go_enter Tryd.func9, Tryd.ntmps9
  go_wp2_with (first
    | (refine wpList_conv rfl (.tmp 11) rfl s rfl ?_; intro c1 w1 hm1 hx1 hc1; simp only [World.size_alloc] at hm1; have M1 := hide hm1; have C1 := hide hc1; have X1 := hide hx1; clear hm1 hx1 hc1)
    | (go_at_call 19; (with_reducible refine (uint_any a _ ha.1 ha.2).mono ?_); rintro e w2 ⟨v2, rfl, hx2, A2, c2, hv2, hc2, hr2⟩; have hv2' : v2 = .slice A2 8 c2 := hv2; subst hv2'; have M2 := hide (M1.out.ext hx2); have X2 := hide (X1.out.trans hx2); have R2 := hide hr2; have C2 := hide hc2; clear hv2 hr2 hc2 hx2)
    | (go_at_call 18; (with_reducible refine (KS.out _ ((Ext.alloc w _).trans X2.out) _ _ _ _ M2.out.rd R2.out C1.out C2.out).mono ?_); rintro e w3 ⟨v3, rfl, hx3, rfl⟩; have X3 := hide (X2.out.trans hx3); clear hx3)
    | ((with_reducible show wpList _ _ _ (⟨none, .store _ (.tmp 8) _, _, _, _, _⟩ :: _) _ _);
       refine wpList_store_rw rfl 24 (.tmp 8) (.tmp 17) rfl _ rfl (bs o) rfl 24 (bs (List.replicate 32 0)) (heap_alloc_new w3 _) 32 (by kernel_rfl) (by rw [bs_length, HOL.out]) (by rw [bs_length, bs_length, HOL.out]; rfl) (List.all_eq_true.2 (bs_one _)) ?_;
       intro w5 hr5 hl5;
       have X5 := hide ((X3.out.trans (Ext.alloc _ _)).laid hl5 X3.out.size);
       have R5 := hide hr5; clear hr5 hl5)
    | ((with_reducible show wpList _ _ _ (⟨some 25, .load _ _, _, _, _, _⟩ :: _) _ _);
       refine wpList_load_rw rfl 24 (.tmp 8) rfl _ rfl 24 (bs o) R5.out 32 5 Tryd.underlying24 (by kernel_rfl) (by rw [bs_length, HOL.out]) ?_)
    | (refine wpList_build_sec rfl (.tmp 23) (.tmp 24) (.tmp 25) rfl a r o rfl rfl rfl HOL.out ?_)
    | ((with_reducible show wpList _ _ _ (⟨none, .store _ (.tmp 6) _, _, _, _, _⟩ :: _) _ _);
       refine wpList_store_sec rfl (.tmp 6) (.tmp 26) rfl w.heap.size rfl a r o rfl 0 0 zer32 (Rw.ext (heap_alloc_new w _) X5.out) HOL.out HZ.out ?_;
       intro w7 hr7 hl7))
  exact ret_sec rfl rfl w.heap.size rfl _ _ _ HOL.out hr7 _ rfl (Ret.mk (((Ext.alloc w _).trans X5.out).laid hl7 (Nat.le_refl _)) rfl)
set_option maxRecDepth 20000 in
set_option maxHeartbeats 1600000 in
theorem make_no (s : ByteArray) (a r : Int) (w : World) (ha : 0 ≤ a ∧ a < 18446744073709551616) (hs : s.size ≤ 1000000) (ht : Tab w) (hk : okR r = false) :
    Calls Tryd.prog 9 #[.string s, .int .u64 a, .int .i64 r] w (Ret w (Is (.tuple #[.agg (mkV s.data.toList a r).toArray, .int .i64 (errR r)]))) := by
  rw [mkV_no hk, errR_no hk]
  obtain ⟨o, HO⟩ : ∃ o, Hid (strU s.data.toList (be64 a) r = o) := ⟨_, hide rfl⟩
  have HOL : Hid (o.length = 32) := hide (by rw [← HO.out]; exact strU_len _ _ _)
  have HZ : Hid (zer32.length = 32) := hide rfl
  have KS := hide fun W (h : Ext w W) (A B : Option Addr) (c d : Nat) (hA : Rd W A s.data.toList) (hB : Rd W B (be64 a)) (hc : s.size ≤ c) (hd : 8 ≤ d) => (show Calls Tryd.prog 18 #[.slice A s.size c, .slice B 8 d, .int .i64 r] W (Ret W (Is (.tuple #[.agg (bs o).toArray, .int .i64 1]))) from (by
    have hsz : s.data.toList.length = s.size := by rw [Array.length_toList]; rfl
    have h3 := stretch_u A B c d s.data.toList (be64 a) r W hA hB (by omega) hd (by omega) (by show 8 ≤ 1000000; decide) (ht.ext h)
    rw [HO.out, errR_no hk, hsz] at h3
    exact h3))
  clear ht hs hk
  go_enter Tryd.func9, Tryd.ntmps9
  go_wp2_with (first
    | (refine wpList_conv rfl (.tmp 11) rfl s rfl ?_; intro c1 w1 hm1 hx1 hc1; simp only [World.size_alloc] at hm1; have M1 := hide hm1; have C1 := hide hc1; have X1 := hide hx1; clear hm1 hx1 hc1)
    | (go_at_call 19; (with_reducible refine (uint_any a _ ha.1 ha.2).mono ?_); rintro e w2 ⟨v2, rfl, hx2, A2, c2, hv2, hc2, hr2⟩; have hv2' : v2 = .slice A2 8 c2 := hv2; subst hv2'; have M2 := hide (M1.out.ext hx2); have X2 := hide (X1.out.trans hx2); have R2 := hide hr2; have C2 := hide hc2; clear hv2 hr2 hc2 hx2)
    | (go_at_call 18; (with_reducible refine (KS.out _ ((Ext.alloc w _).trans X2.out) _ _ _ _ M2.out.rd R2.out C1.out C2.out).mono ?_); rintro e w3 ⟨v3, rfl, hx3, rfl⟩; have X3 := hide (X2.out.trans hx3); clear hx3)
    | ((with_reducible show wpList _ _ _ (⟨none, .store _ (.tmp 8) _, _, _, _, _⟩ :: _) _ _);
       refine wpList_store_rw rfl 24 (.tmp 8) (.tmp 17) rfl _ rfl (bs o) rfl 24 (bs (List.replicate 32 0)) (heap_alloc_new w3 _) 32 (by kernel_rfl) (by rw [bs_length, HOL.out]) (by rw [bs_length, bs_length, HOL.out]; rfl) (List.all_eq_true.2 (bs_one _)) ?_;
       intro w5 hr5 hl5;
       have X5 := hide ((X3.out.trans (Ext.alloc _ _)).laid hl5 X3.out.size);
       have R5 := hide hr5; clear hr5 hl5)
    | ((with_reducible show wpList _ _ _ (⟨some 25, .load _ _, _, _, _, _⟩ :: _) _ _);
       refine wpList_load_rw rfl 24 (.tmp 8) rfl _ rfl 24 (bs o) R5.out 32 5 Tryd.underlying24 (by kernel_rfl) (by rw [bs_length, HOL.out]) ?_)
    | (refine wpList_build_sec0 rfl rfl ?_)
    | ((with_reducible show wpList _ _ _ (⟨none, .store _ (.tmp 6) _, _, _, _, _⟩ :: _) _ _);
       refine wpList_store_sec rfl (.tmp 6) (.tmp 21) rfl w.heap.size rfl 0 0 zer32 rfl 0 0 zer32 (Rw.ext (heap_alloc_new w _) X5.out) HZ.out HZ.out ?_;
       intro w7 hr7 hl7))
  exact ret_sec rfl rfl w.heap.size rfl _ _ _ HZ.out hr7 _ rfl (Ret.mk (((Ext.alloc w _).trans X5.out).laid hl7 (Nat.le_refl _)) rfl)
theorem make_any (s : ByteArray) (a r : Int) (w : World) (ha : 0 ≤ a ∧ a < 18446744073709551616) (hs : s.size ≤ 1000000) (ht : Tab w) :
    Calls Tryd.prog 9 #[.string s, .int .u64 a, .int .i64 r] w (Ret w (Is (.tuple #[.agg (mkV s.data.toList a r).toArray, .int .i64 (errR r)]))) := by
  cases h : okR r with
  | true => exact make_yes s a r w ha hs ht h
  | false => exact make_no s a r w ha hs ht h
end Go.Proofs.YtdllppaichlnaaaDoor
namespace Go.Proofs.YtdllppaichlnaaaDoor
open Go.RowKit

/-- Is it that password? -/
def chkV (p : List UInt8) (sa sr : Int) (sd : List UInt8) : Bool := okR sr && (strU p (be64 sa) sr == sd)
def lsT (b : Bool) (x y : Int) : Bool := b && decide (x < y)
set_option maxRecDepth 20000 in
set_option maxHeartbeats 1600000 in
theorem check_no (sa sr : Int) (sd : List UInt8) (s : ByteArray) (n : Int) (w : World) (ha : 0 ≤ sa ∧ sa < 18446744073709551616) (hd : sd.length = 32) (hs : s.size ≤ 1000000) (ht : Tab w) (hk : okR sr = false) :
    Calls Tryd.prog 13 #[.agg (sec sa sr sd).toArray, .string s, .int .i64 n] w (Ret w (Is (.tuple #[.bool (chkV s.data.toList sa sr sd), .bool (lsT (chkV s.data.toList sa sr sd) sr n)]))) := by
  have hch : chkV s.data.toList sa sr sd = false := by unfold chkV; rw [hk]; rfl
  rw [hch]
  obtain ⟨o, HO⟩ : ∃ o, Hid (zer32 = o) := ⟨_, hide rfl⟩
  have HOL : Hid (o.length = 32) := hide (by rw [← HO.out]; exact rfl)
  have HD := hide hd
  have KM := hide fun W (h : Ext w W) => (show Calls Tryd.prog 9 #[.string s, .int .u64 sa, .int .i64 sr] W (Ret W (Is (.tuple #[.agg (sec 0 0 zer32).toArray, .int .i64 1]))) from (by
    have h3 := make_any s sa sr W ha hs (ht.ext h)
    rw [mkV_no hk, errR_no hk] at h3
    exact h3))
  obtain ⟨W1, hX1, hR1, hgg⟩ : ∃ W1, Ext w W1 ∧ Rw W1 w.heap.size 26 (sec sa sr sd) ∧ w.alloc (.cells (sec sa sr sd).toArray 26) = W1 := ⟨_, Ext.alloc _ _, Rw.new w 26 _, rfl⟩
  have X1 := hide hX1
  have R1 := hide hR1
  clear hX1 hR1 ht hs hk hch
  go_enter Tryd.func13, Tryd.ntmps13
  go_upto_region 1 with fail
  clear hgg
  have c0 := R1.out.cell (i := 0) rfl
  have c1 := R1.out.cell (i := 1) rfl
  go_upto_region 2 with (first
    | (go_at_call 9; (with_reducible refine (KM.out _ X1.out).mono ?_); rintro e w2 ⟨v2, rfl, hx2, rfl⟩; have X2 := hide (X1.out.trans hx2); have R2 := hide (R1.out.ext hx2); clear hx2)
    | ((with_reducible show wpList _ _ _ (⟨none, .store _ (.tmp 8) _, _, _, _, _⟩ :: _) _ _);
       refine wpList_store_sec rfl (.tmp 8) (.tmp 17) rfl w2.heap.size rfl _ _ _ rfl 0 0 zer32 (heap_alloc_new w2 _) rfl rfl ?_;
       intro w5 hr5 hl5;
       have X5 := hide ((X2.out.trans (Ext.alloc _ _)).laid hl5 X2.out.size);
       have R5 := hide hr5;
       have R15 := hide ((R2.out.alloc _).other hl5 (Nat.ne_of_lt R2.out.lt));
       clear hr5 hl5))
  have d1 := R15.out.cell (i := 1) rfl
  go_quiet (fail)
  go_wp2
  go_quiet (fail)
  go_wp2
  go_ret2
  exact Ret.mk ((X5.out.drewN _).drewN _) rfl
set_option maxRecDepth 20000 in
set_option maxHeartbeats 1600000 in
theorem check_right (sa sr : Int) (sd : List UInt8) (s : ByteArray) (n : Int) (w : World) (ha : 0 ≤ sa ∧ sa < 18446744073709551616) (hd : sd.length = 32) (hs : s.size ≤ 1000000) (ht : Tab w) (hk : okR sr = true) (hb : (strU s.data.toList (be64 sa) sr == sd) = true) :
    Calls Tryd.prog 13 #[.agg (sec sa sr sd).toArray, .string s, .int .i64 n] w (Ret w (Is (.tuple #[.bool (chkV s.data.toList sa sr sd), .bool (lsT (chkV s.data.toList sa sr sd) sr n)]))) := by
  have hch : chkV s.data.toList sa sr sd = true := by unfold chkV; rw [hk, hb]; rfl
  rw [hch]
  obtain ⟨o, HO⟩ : ∃ o, Hid (strU s.data.toList (be64 sa) sr = o) := ⟨_, hide rfl⟩
  have HOL : Hid (o.length = 32) := hide (by rw [← HO.out]; exact strU_len _ _ _)
  have HD := hide hd
  have KM := hide fun W (h : Ext w W) => (show Calls Tryd.prog 9 #[.string s, .int .u64 sa, .int .i64 sr] W (Ret W (Is (.tuple #[.agg (sec sa sr o).toArray, .int .i64 0]))) from (by
    have h3 := make_any s sa sr W ha hs (ht.ext h)
    rw [mkV_ok hk, errR_ok hk, HO.out] at h3
    exact h3))
  have hbe : (o == sd) = true := by rw [← HO.out]; exact hb
  have KE := hide fun W (A B : Option Addr) (hA : Rd W A o) (hB : Rd W B sd) => (show Calls Tryd.prog 23 #[.slice A 32 32, .slice B 32 32] W (Ret W (Is (.bool true))) from (by
    have h3 := equal_any A B 32 32 o sd W hA hB (by rw [HOL.out]; decide)
    rw [HOL.out, HD.out, hbe] at h3
    exact h3))
  clear hb hbe
  obtain ⟨W1, hX1, hR1, hgg⟩ : ∃ W1, Ext w W1 ∧ Rw W1 w.heap.size 26 (sec sa sr sd) ∧ w.alloc (.cells (sec sa sr sd).toArray 26) = W1 := ⟨_, Ext.alloc _ _, Rw.new w 26 _, rfl⟩
  have X1 := hide hX1
  have R1 := hide hR1
  clear hX1 hR1 ht hs hk hch
  go_enter Tryd.func13, Tryd.ntmps13
  go_upto_region 1 with fail
  clear hgg
  have c0 := R1.out.cell (i := 0) rfl
  have c1 := R1.out.cell (i := 1) rfl
  go_upto_region 2 with (first
    | (go_at_call 9; (with_reducible refine (KM.out _ X1.out).mono ?_); rintro e w2 ⟨v2, rfl, hx2, rfl⟩; have X2 := hide (X1.out.trans hx2); have R2 := hide (R1.out.ext hx2); clear hx2)
    | ((with_reducible show wpList _ _ _ (⟨none, .store _ (.tmp 8) _, _, _, _, _⟩ :: _) _ _);
       refine wpList_store_sec rfl (.tmp 8) (.tmp 17) rfl w2.heap.size rfl _ _ _ rfl 0 0 zer32 (heap_alloc_new w2 _) HOL.out rfl ?_;
       intro w5 hr5 hl5;
       have X5 := hide ((X2.out.trans (Ext.alloc _ _)).laid hl5 X2.out.size);
       have R5 := hide hr5;
       have R15 := hide ((R2.out.alloc _).other hl5 (Nat.ne_of_lt R2.out.lt));
       clear hr5 hl5))
  clear c0 c1
  have c1 := R15.out.cell (i := 1) rfl
  rename_i hK
  obtain ⟨g8, hg8⟩ : ∃ g, g = w2.heap.size := ⟨_, rfl⟩
  obtain ⟨g3, hg3⟩ : ∃ g, g = w.heap.size := ⟨_, rfl⟩
  rw [← hg8] at R5 ⊢
  rw [← hg3] at R15 ⊢
  have R5c := hide R5.out
  refine wp_region_sp (Nat.le_refl _) [
      Sp.is (.int .i64 0),
      Sp.is (.bool true),
      Sp.is (.bool true),
      Sp.is (.pointer (some ⟨g8, 2, none⟩)),
      Sp.is (.slice (some ⟨g8, 2, none⟩) 32 32),
      Sp.is (.pointer (some ⟨g3, 2, none⟩)),
      Sp.is (.slice (some ⟨g3, 2, none⟩) 32 32),
      Sp.is (.bool true),
      Sp.is (.bool true),
      Sp.is (.bool true)] (by kernel_rfl) (by kernel_rfl) ?_ ?_
  · refine ⟨?_, ?_, ?_, ?_, ?_, ?_, ?_, ?_, ?_, ?_, trivial⟩
    · intro az wz hx hB hk H
      refine .inl ⟨wanted_none rfl, ?_⟩
      refine gives_move rfl ?_
      rw [(ev (show az.tmps[9]? = some (.int .i64 0) from hk 9 rfl))]
      exact ⟨Grw.refl _ _, rfl⟩
    · intro az wz hx hB hk H
      obtain ⟨v19, h19, s19⟩ := H 0 rfl _ rfl 19 rfl
      refine .inl ⟨wanted_none rfl, ?_⟩
      refine gives_eql_int (k := .i64) (0) (0) rfl ?_ ?_ ⟨Grw.refl _ _, congrArg Value.bool (by simp)⟩
      · rw [(ev h19)]
        exact s19
      · rfl
    · intro az wz hx hB hk H
      obtain ⟨v20, h20, s20⟩ := H 1 rfl _ rfl 20 rfl
      refine .inl ⟨wanted_none rfl, ?_⟩
      refine gives_move rfl ?_
      rw [(ev h20)]
      exact ⟨Grw.refl _ _, s20⟩
    · intro az wz hx hB hk H
      obtain ⟨v21, h21, s21⟩ := H 2 rfl _ rfl 21 rfl
      have g0 : az.tmps[21]? = some (.bool true) := by rw [h21]; exact congrArg some s21
      refine .inl ⟨wanted_yes _ rfl rfl rfl g0, ?_⟩
      exact gives_field rfl (by rw [(ev (show az.tmps[8]? = some (.pointer (some ⟨g8, 0, none⟩)) from hk 8 rfl))]) (run_fd _ _) ⟨Grw.refl _ _, rfl⟩
    · intro az wz hx hB hk H
      obtain ⟨v21, h21, s21⟩ := H 2 rfl _ rfl 21 rfl
      obtain ⟨v22, h22, s22⟩ := H 3 rfl _ rfl 22 rfl
      have g0 : az.tmps[21]? = some (.bool true) := by rw [h21]; exact congrArg some s21
      refine .inl ⟨wanted_yes _ rfl rfl rfl g0, ?_⟩
      exact gives_sl rfl (by rw [ev h22]; exact s22) ⟨Grw.refl _ _, rfl⟩
    · intro az wz hx hB hk H
      obtain ⟨v21, h21, s21⟩ := H 2 rfl _ rfl 21 rfl
      have g0 : az.tmps[21]? = some (.bool true) := by rw [h21]; exact congrArg some s21
      refine .inl ⟨wanted_yes _ rfl rfl rfl g0, ?_⟩
      exact gives_field rfl (by rw [(ev (show az.tmps[3]? = some (.pointer (some ⟨g3, 0, none⟩)) from hk 3 rfl))]) (run_fd _ _) ⟨Grw.refl _ _, rfl⟩
    · intro az wz hx hB hk H
      obtain ⟨v21, h21, s21⟩ := H 2 rfl _ rfl 21 rfl
      obtain ⟨v24, h24, s24⟩ := H 5 rfl _ rfl 24 rfl
      have g0 : az.tmps[21]? = some (.bool true) := by rw [h21]; exact congrArg some s21
      refine .inl ⟨wanted_yes _ rfl rfl rfl g0, ?_⟩
      exact gives_sl rfl (by rw [ev h24]; exact s24) ⟨Grw.refl _ _, rfl⟩
    · intro az wz hx hB hk H
      obtain ⟨v21, h21, s21⟩ := H 2 rfl _ rfl 21 rfl
      obtain ⟨v23, h23, s23⟩ := H 4 rfl _ rfl 23 rfl
      obtain ⟨v25, h25, s25⟩ := H 6 rfl _ rfl 25 rfl
      have g0 : az.tmps[21]? = some (.bool true) := by rw [h21]; exact congrArg some s21
      refine .inl ⟨wanted_yes _ rfl rfl rfl g0, ?_⟩
      refine gives_call rfl Tryd.call23 (by simp only [List.map_toArray, List.map_cons, List.map_nil, ev h23, ev h25]; rw [s23, s25]) ?_
      exact (KE.out wz _ _ ((sec_rd R5.out).ext (hx.below)) ((sec_rd R15.out).ext (hx.below))).mono fun _ _ h => h.grw hB
    · intro az wz hx hB hk H
      obtain ⟨v21, h21, s21⟩ := H 2 rfl _ rfl 21 rfl
      obtain ⟨v26, h26, s26⟩ := H 7 rfl _ rfl 26 rfl
      refine .inl ⟨wanted_none rfl, ?_⟩
      refine gives_pick true rfl ?_ ?_
      · rw [(ev h21)]
        exact s21
      · show Grw _ _ _ ∧ _
        rw [if_pos rfl, (ev h26)]
        exact ⟨Grw.refl _ _, s26⟩
    · intro az wz hx hB hk H
      obtain ⟨v27, h27, s27⟩ := H 8 rfl _ rfl 27 rfl
      refine .inl ⟨wanted_none rfl, ?_⟩
      refine gives_assign rfl ?_
      rw [(ev h27)]
      exact ⟨Grw.refl _ _, s27⟩
  · intro az wz hx hd hs hv hsame
    obtain ⟨v19, h19, s19⟩ := hv 0 _ 19 rfl rfl
    obtain rfl : v19 = (.int .i64 0) := s19
    obtain ⟨v20, h20, s20⟩ := hv 1 _ 20 rfl rfl
    obtain rfl : v20 = (.bool true) := s20
    obtain ⟨v21, h21, s21⟩ := hv 2 _ 21 rfl rfl
    obtain rfl : v21 = (.bool true) := s21
    obtain ⟨v22, h22, s22⟩ := hv 3 _ 22 rfl rfl
    obtain rfl : v22 = (.pointer (some ⟨g8, 2, none⟩)) := s22
    obtain ⟨v23, h23, s23⟩ := hv 4 _ 23 rfl rfl
    obtain rfl : v23 = (.slice (some ⟨g8, 2, none⟩) 32 32) := s23
    obtain ⟨v24, h24, s24⟩ := hv 5 _ 24 rfl rfl
    obtain rfl : v24 = (.pointer (some ⟨g3, 2, none⟩)) := s24
    obtain ⟨v25, h25, s25⟩ := hv 6 _ 25 rfl rfl
    obtain rfl : v25 = (.slice (some ⟨g3, 2, none⟩) 32 32) := s25
    obtain ⟨v26, h26, s26⟩ := hv 7 _ 26 rfl rfl
    obtain rfl : v26 = (.bool true) := s26
    obtain ⟨v27, h27, s27⟩ := hv 8 _ 27 rfl rfl
    obtain rfl : v27 = (.bool true) := s27
    obtain ⟨v6, h6, s6⟩ := hv 9 _ 6 rfl rfl
    obtain rfl : v6 = (.bool true) := s6
    have hfr := frame_last (k := 10) [(19, (.int .i64 0)), (20, (.bool true)), (21, (.bool true)), (22, (.pointer (some ⟨g8, 2, none⟩))), (23, (.slice (some ⟨g8, 2, none⟩) 32 32)), (24, (.pointer (some ⟨g3, 2, none⟩))), (25, (.slice (some ⟨g3, 2, none⟩) 32 32)), (26, (.bool true)), (27, (.bool true)), (6, (.bool true))] hs (by kernel_rfl) (by simp only [List.forall_mem_cons, List.not_mem_nil, false_implies, implies_true, and_true]; exact ⟨h19, h20, h21, h22, h23, h24, h25, h26, h27, h6⟩) (fun t' h => hsame t' fun i o ho => h i o (by intro e; subst e; cases ho) ho)
    simp only [List.foldl_cons, List.foldl_nil, List.setIfInBounds_toArray, List.set_cons_succ, List.set_cons_zero] at hfr
    obtain ⟨tm, df⟩ := az
    simp only [] at hfr hd
    subst hfr hd
    clear hv hsame hs h19 h20 h21 h22 h23 h24 h25 h26 h27 h6
    have X6 := hide (X5.out.trans hx.below)
    have c1' := (R15.out.ext hx.below).cell (i := 1) rfl
    refine hK _ _ ?_
    clear hK
    rw [hg8, hg3] at *
    go_wp2
    go_quiet (fail)
    go_wp2
    go_ret2
    exact Ret.mk (X6.out.drewN _) rfl
set_option maxRecDepth 20000 in
set_option maxHeartbeats 1600000 in
theorem check_wrong (sa sr : Int) (sd : List UInt8) (s : ByteArray) (n : Int) (w : World) (ha : 0 ≤ sa ∧ sa < 18446744073709551616) (hd : sd.length = 32) (hs : s.size ≤ 1000000) (ht : Tab w) (hk : okR sr = true) (hb : (strU s.data.toList (be64 sa) sr == sd) = false) :
    Calls Tryd.prog 13 #[.agg (sec sa sr sd).toArray, .string s, .int .i64 n] w (Ret w (Is (.tuple #[.bool (chkV s.data.toList sa sr sd), .bool (lsT (chkV s.data.toList sa sr sd) sr n)]))) := by
  have hch : chkV s.data.toList sa sr sd = false := by unfold chkV; rw [hk, hb]; rfl
  rw [hch]
  obtain ⟨o, HO⟩ : ∃ o, Hid (strU s.data.toList (be64 sa) sr = o) := ⟨_, hide rfl⟩
  have HOL : Hid (o.length = 32) := hide (by rw [← HO.out]; exact strU_len _ _ _)
  have HD := hide hd
  have KM := hide fun W (h : Ext w W) => (show Calls Tryd.prog 9 #[.string s, .int .u64 sa, .int .i64 sr] W (Ret W (Is (.tuple #[.agg (sec sa sr o).toArray, .int .i64 0]))) from (by
    have h3 := make_any s sa sr W ha hs (ht.ext h)
    rw [mkV_ok hk, errR_ok hk, HO.out] at h3
    exact h3))
  have hbe : (o == sd) = false := by rw [← HO.out]; exact hb
  have KE := hide fun W (A B : Option Addr) (hA : Rd W A o) (hB : Rd W B sd) => (show Calls Tryd.prog 23 #[.slice A 32 32, .slice B 32 32] W (Ret W (Is (.bool false))) from (by
    have h3 := equal_any A B 32 32 o sd W hA hB (by rw [HOL.out]; decide)
    rw [HOL.out, HD.out, hbe] at h3
    exact h3))
  clear hb hbe
  obtain ⟨W1, hX1, hR1, hgg⟩ : ∃ W1, Ext w W1 ∧ Rw W1 w.heap.size 26 (sec sa sr sd) ∧ w.alloc (.cells (sec sa sr sd).toArray 26) = W1 := ⟨_, Ext.alloc _ _, Rw.new w 26 _, rfl⟩
  have X1 := hide hX1
  have R1 := hide hR1
  clear hX1 hR1 ht hs hk hch
  go_enter Tryd.func13, Tryd.ntmps13
  go_upto_region 1 with fail
  clear hgg
  have c0 := R1.out.cell (i := 0) rfl
  have c1 := R1.out.cell (i := 1) rfl
  go_upto_region 2 with (first
    | (go_at_call 9; (with_reducible refine (KM.out _ X1.out).mono ?_); rintro e w2 ⟨v2, rfl, hx2, rfl⟩; have X2 := hide (X1.out.trans hx2); have R2 := hide (R1.out.ext hx2); clear hx2)
    | ((with_reducible show wpList _ _ _ (⟨none, .store _ (.tmp 8) _, _, _, _, _⟩ :: _) _ _);
       refine wpList_store_sec rfl (.tmp 8) (.tmp 17) rfl w2.heap.size rfl _ _ _ rfl 0 0 zer32 (heap_alloc_new w2 _) HOL.out rfl ?_;
       intro w5 hr5 hl5;
       have X5 := hide ((X2.out.trans (Ext.alloc _ _)).laid hl5 X2.out.size);
       have R5 := hide hr5;
       have R15 := hide ((R2.out.alloc _).other hl5 (Nat.ne_of_lt R2.out.lt));
       clear hr5 hl5))
  clear c0 c1
  have c1 := R15.out.cell (i := 1) rfl
  rename_i hK
  obtain ⟨g8, hg8⟩ : ∃ g, g = w2.heap.size := ⟨_, rfl⟩
  obtain ⟨g3, hg3⟩ : ∃ g, g = w.heap.size := ⟨_, rfl⟩
  rw [← hg8] at R5 ⊢
  rw [← hg3] at R15 ⊢
  have R5c := hide R5.out
  refine wp_region_sp (Nat.le_refl _) [
      Sp.is (.int .i64 0),
      Sp.is (.bool true),
      Sp.is (.bool true),
      Sp.is (.pointer (some ⟨g8, 2, none⟩)),
      Sp.is (.slice (some ⟨g8, 2, none⟩) 32 32),
      Sp.is (.pointer (some ⟨g3, 2, none⟩)),
      Sp.is (.slice (some ⟨g3, 2, none⟩) 32 32),
      Sp.is (.bool false),
      Sp.is (.bool false),
      Sp.is (.bool false)] (by kernel_rfl) (by kernel_rfl) ?_ ?_
  · refine ⟨?_, ?_, ?_, ?_, ?_, ?_, ?_, ?_, ?_, ?_, trivial⟩
    · intro az wz hx hB hk H
      refine .inl ⟨wanted_none rfl, ?_⟩
      refine gives_move rfl ?_
      rw [(ev (show az.tmps[9]? = some (.int .i64 0) from hk 9 rfl))]
      exact ⟨Grw.refl _ _, rfl⟩
    · intro az wz hx hB hk H
      obtain ⟨v19, h19, s19⟩ := H 0 rfl _ rfl 19 rfl
      refine .inl ⟨wanted_none rfl, ?_⟩
      refine gives_eql_int (k := .i64) (0) (0) rfl ?_ ?_ ⟨Grw.refl _ _, congrArg Value.bool (by simp)⟩
      · rw [(ev h19)]
        exact s19
      · rfl
    · intro az wz hx hB hk H
      obtain ⟨v20, h20, s20⟩ := H 1 rfl _ rfl 20 rfl
      refine .inl ⟨wanted_none rfl, ?_⟩
      refine gives_move rfl ?_
      rw [(ev h20)]
      exact ⟨Grw.refl _ _, s20⟩
    · intro az wz hx hB hk H
      obtain ⟨v21, h21, s21⟩ := H 2 rfl _ rfl 21 rfl
      have g0 : az.tmps[21]? = some (.bool true) := by rw [h21]; exact congrArg some s21
      refine .inl ⟨wanted_yes _ rfl rfl rfl g0, ?_⟩
      exact gives_field rfl (by rw [(ev (show az.tmps[8]? = some (.pointer (some ⟨g8, 0, none⟩)) from hk 8 rfl))]) (run_fd _ _) ⟨Grw.refl _ _, rfl⟩
    · intro az wz hx hB hk H
      obtain ⟨v21, h21, s21⟩ := H 2 rfl _ rfl 21 rfl
      obtain ⟨v22, h22, s22⟩ := H 3 rfl _ rfl 22 rfl
      have g0 : az.tmps[21]? = some (.bool true) := by rw [h21]; exact congrArg some s21
      refine .inl ⟨wanted_yes _ rfl rfl rfl g0, ?_⟩
      exact gives_sl rfl (by rw [ev h22]; exact s22) ⟨Grw.refl _ _, rfl⟩
    · intro az wz hx hB hk H
      obtain ⟨v21, h21, s21⟩ := H 2 rfl _ rfl 21 rfl
      have g0 : az.tmps[21]? = some (.bool true) := by rw [h21]; exact congrArg some s21
      refine .inl ⟨wanted_yes _ rfl rfl rfl g0, ?_⟩
      exact gives_field rfl (by rw [(ev (show az.tmps[3]? = some (.pointer (some ⟨g3, 0, none⟩)) from hk 3 rfl))]) (run_fd _ _) ⟨Grw.refl _ _, rfl⟩
    · intro az wz hx hB hk H
      obtain ⟨v21, h21, s21⟩ := H 2 rfl _ rfl 21 rfl
      obtain ⟨v24, h24, s24⟩ := H 5 rfl _ rfl 24 rfl
      have g0 : az.tmps[21]? = some (.bool true) := by rw [h21]; exact congrArg some s21
      refine .inl ⟨wanted_yes _ rfl rfl rfl g0, ?_⟩
      exact gives_sl rfl (by rw [ev h24]; exact s24) ⟨Grw.refl _ _, rfl⟩
    · intro az wz hx hB hk H
      obtain ⟨v21, h21, s21⟩ := H 2 rfl _ rfl 21 rfl
      obtain ⟨v23, h23, s23⟩ := H 4 rfl _ rfl 23 rfl
      obtain ⟨v25, h25, s25⟩ := H 6 rfl _ rfl 25 rfl
      have g0 : az.tmps[21]? = some (.bool true) := by rw [h21]; exact congrArg some s21
      refine .inl ⟨wanted_yes _ rfl rfl rfl g0, ?_⟩
      refine gives_call rfl Tryd.call23 (by simp only [List.map_toArray, List.map_cons, List.map_nil, ev h23, ev h25]; rw [s23, s25]) ?_
      exact (KE.out wz _ _ ((sec_rd R5.out).ext (hx.below)) ((sec_rd R15.out).ext (hx.below))).mono fun _ _ h => h.grw hB
    · intro az wz hx hB hk H
      obtain ⟨v21, h21, s21⟩ := H 2 rfl _ rfl 21 rfl
      obtain ⟨v26, h26, s26⟩ := H 7 rfl _ rfl 26 rfl
      refine .inl ⟨wanted_none rfl, ?_⟩
      refine gives_pick true rfl ?_ ?_
      · rw [(ev h21)]
        exact s21
      · show Grw _ _ _ ∧ _
        rw [if_pos rfl, (ev h26)]
        exact ⟨Grw.refl _ _, s26⟩
    · intro az wz hx hB hk H
      obtain ⟨v27, h27, s27⟩ := H 8 rfl _ rfl 27 rfl
      refine .inl ⟨wanted_none rfl, ?_⟩
      refine gives_assign rfl ?_
      rw [(ev h27)]
      exact ⟨Grw.refl _ _, s27⟩
  · intro az wz hx hd hs hv hsame
    obtain ⟨v19, h19, s19⟩ := hv 0 _ 19 rfl rfl
    obtain rfl : v19 = (.int .i64 0) := s19
    obtain ⟨v20, h20, s20⟩ := hv 1 _ 20 rfl rfl
    obtain rfl : v20 = (.bool true) := s20
    obtain ⟨v21, h21, s21⟩ := hv 2 _ 21 rfl rfl
    obtain rfl : v21 = (.bool true) := s21
    obtain ⟨v22, h22, s22⟩ := hv 3 _ 22 rfl rfl
    obtain rfl : v22 = (.pointer (some ⟨g8, 2, none⟩)) := s22
    obtain ⟨v23, h23, s23⟩ := hv 4 _ 23 rfl rfl
    obtain rfl : v23 = (.slice (some ⟨g8, 2, none⟩) 32 32) := s23
    obtain ⟨v24, h24, s24⟩ := hv 5 _ 24 rfl rfl
    obtain rfl : v24 = (.pointer (some ⟨g3, 2, none⟩)) := s24
    obtain ⟨v25, h25, s25⟩ := hv 6 _ 25 rfl rfl
    obtain rfl : v25 = (.slice (some ⟨g3, 2, none⟩) 32 32) := s25
    obtain ⟨v26, h26, s26⟩ := hv 7 _ 26 rfl rfl
    obtain rfl : v26 = (.bool false) := s26
    obtain ⟨v27, h27, s27⟩ := hv 8 _ 27 rfl rfl
    obtain rfl : v27 = (.bool false) := s27
    obtain ⟨v6, h6, s6⟩ := hv 9 _ 6 rfl rfl
    obtain rfl : v6 = (.bool false) := s6
    have hfr := frame_last (k := 10) [(19, (.int .i64 0)), (20, (.bool true)), (21, (.bool true)), (22, (.pointer (some ⟨g8, 2, none⟩))), (23, (.slice (some ⟨g8, 2, none⟩) 32 32)), (24, (.pointer (some ⟨g3, 2, none⟩))), (25, (.slice (some ⟨g3, 2, none⟩) 32 32)), (26, (.bool false)), (27, (.bool false)), (6, (.bool false))] hs (by kernel_rfl) (by simp only [List.forall_mem_cons, List.not_mem_nil, false_implies, implies_true, and_true]; exact ⟨h19, h20, h21, h22, h23, h24, h25, h26, h27, h6⟩) (fun t' h => hsame t' fun i o ho => h i o (by intro e; subst e; cases ho) ho)
    simp only [List.foldl_cons, List.foldl_nil, List.setIfInBounds_toArray, List.set_cons_succ, List.set_cons_zero] at hfr
    obtain ⟨tm, df⟩ := az
    simp only [] at hfr hd
    subst hfr hd
    clear hv hsame hs h19 h20 h21 h22 h23 h24 h25 h26 h27 h6
    have X6 := hide (X5.out.trans hx.below)
    have c1' := (R15.out.ext hx.below).cell (i := 1) rfl
    refine hK _ _ ?_
    clear hK
    rw [hg8, hg3] at *
    go_wp2
    go_quiet (fail)
    go_wp2
    go_ret2
    exact Ret.mk (X6.out.drewN _) rfl
theorem check_any (sa sr : Int) (sd : List UInt8) (s : ByteArray) (n : Int) (w : World) (ha : 0 ≤ sa ∧ sa < 18446744073709551616) (hd : sd.length = 32) (hs : s.size ≤ 1000000) (ht : Tab w) :
    Calls Tryd.prog 13 #[.agg (sec sa sr sd).toArray, .string s, .int .i64 n] w (Ret w (Is (.tuple #[.bool (chkV s.data.toList sa sr sd), .bool (lsT (chkV s.data.toList sa sr sd) sr n)]))) := by
  cases h : okR sr with
  | false => exact check_no sa sr sd s n w ha hd hs ht h
  | true =>
    cases hb : strU s.data.toList (be64 sa) sr == sd with
    | true => exact check_right sa sr sd s n w ha hd hs ht h hb
    | false => exact check_wrong sa sr sd s n w ha hd hs ht h hb
end Go.Proofs.YtdllppaichlnaaaDoor
namespace Go.Proofs.YtdllppaichlnaaaDoor
open Go.RowKit

set_option maxRecDepth 100000 in
theorem ex_unlike : (strU [98] (be64 1) 2 == strU [97] (be64 1) 2) = false := by decide +kernel
theorem ex_ok : okR 2 = true := rfl
set_option maxRecDepth 20000 in
set_option maxHeartbeats 1600000 in
theorem awake_any (w : World) (ht : Tab w) : Calls Tryd.prog 8 #[] w (Ret w (Is (.bool true))) := by
  have HX := hide ex_unlike
  obtain ⟨o, HO⟩ : ∃ o, Hid (strU [97] (be64 1) 2 = o) := ⟨_, hide rfl⟩
  have HOL : Hid (o.length = 32) := hide (by rw [← HO.out]; exact strU_len _ _ _)
  have KM := hide fun W (h : Ext w W) => (show Calls Tryd.prog 9 #[.string ⟨#[97]⟩, .int .u64 1, .int .i64 2] W (Ret W (Is (.tuple #[.agg (sec 1 2 o).toArray, .int .i64 0]))) from (by
    have h3 := make_any ⟨#[97]⟩ 1 2 W (by omega) (by decide) (ht.ext h)
    rw [mkV_ok ex_ok, errR_ok ex_ok] at h3
    rw [← HO.out]
    exact h3))
  have KC := hide fun W (h : Ext w W) (n : Int) => (show Calls Tryd.prog 13 #[.agg (sec 1 2 o).toArray, .string ⟨#[97]⟩, .int .i64 n] W (Ret W (Is (.tuple #[.bool true, .bool (decide (2 < n))]))) from (by
    have h3 := check_any 1 2 o ⟨#[97]⟩ n W (by omega) HOL.out (by decide) (ht.ext h)
    have e : chkV (⟨#[97]⟩ : ByteArray).data.toList 1 2 o = true := by
      unfold chkV
      rw [show (⟨#[97]⟩ : ByteArray).data.toList = [97] from rfl, HO.out, beq_self_eq_true]
      rfl
    rw [e] at h3
    exact h3))
  have KN := hide fun W (h : Ext w W) (n : Int) => (show Calls Tryd.prog 13 #[.agg (sec 1 2 o).toArray, .string ⟨#[98]⟩, .int .i64 n] W (Ret W (Is (.tuple #[.bool false, .bool false]))) from (by
    have h3 := check_any 1 2 o ⟨#[98]⟩ n W (by omega) HOL.out (by decide) (ht.ext h)
    have e : chkV (⟨#[98]⟩ : ByteArray).data.toList 1 2 o = false := by
      have := HX.out
      rw [HO.out] at this
      unfold chkV
      rw [show (⟨#[98]⟩ : ByteArray).data.toList = [98] from rfl, this]
      rfl
    rw [e] at h3
    exact h3))
  clear HX ht
  go_enter Tryd.func8, Tryd.ntmps8
  go_wp2_with (first
    | (go_at_call 9; (with_reducible refine (KM.out _ (Ext.refl _)).mono ?_); rintro e w2 ⟨v2, rfl, hx2, rfl⟩; have X2 := hide hx2; clear hx2)
    | ((with_reducible show wpList _ _ _ (⟨none, .store _ (.tmp 1) _, _, _, _, _⟩ :: _) _ _);
       refine wpList_store_sec rfl (.tmp 1) (.tmp 11) rfl w2.heap.size rfl 1 2 o rfl 0 0 zer32 (heap_alloc_new w2 _) HOL.out rfl ?_;
       intro w3 hr3 hl3;
       have X3 := hide ((X2.out.trans (Ext.alloc _ _)).laid hl3 X2.out.size);
       have R3 := hide hr3; clear hr3 hl3)
    | (refine wpList_load_sec rfl (.tmp 1) rfl _ rfl 1 2 o R3.out HOL.out ?_)
    | (refine wpList_load_sec rfl (.tmp 1) rfl _ rfl 1 2 o R4.out HOL.out ?_)
    | (refine wpList_load_sec rfl (.tmp 1) rfl _ rfl 1 2 o R5.out HOL.out ?_)
    | (go_at_call 13; (with_reducible refine (KC.out _ X3.out 3).mono ?_); rintro e w4 ⟨v4, rfl, hx4, rfl⟩; have X4 := hide (X3.out.trans hx4); have R4 := hide (R3.out.ext hx4); clear hx4)
    | (go_at_call 13; (with_reducible refine (KC.out _ X4.out 2).mono ?_); rintro e w5 ⟨v5, rfl, hx5, rfl⟩; have X5 := hide (X4.out.trans hx5); have R5 := hide (R4.out.ext hx5); clear hx5)
    | (go_at_call 13; (with_reducible refine (KN.out _ X5.out 2).mono ?_); rintro e w6 ⟨v6, rfl, hx6, rfl⟩; have X6 := hide (X5.out.trans hx6); clear hx6))
  go_ret
  exact Ret.mk X6.out rfl
end Go.Proofs.YtdllppaichlnaaaDoor
