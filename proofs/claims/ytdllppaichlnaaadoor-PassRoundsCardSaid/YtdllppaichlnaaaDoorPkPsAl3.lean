/-
  The reference's ways to the same sums: a word by its bytes, choice and majority by 'or', all the bytes padded at once. No program is spoken of.
  The reference's SHA-256: Sum's contract.
  The tag by two whole digests, as the reference makes it. No program is spoken of.
  Two slices of the call's own that grow by turns: an append to one keeps the other.
  The reference's tag: Tag's contract.
-/
import Derived.Deep.MidRow
import Derived.BigQuiet
import Derived.BigRegion
import Derived.Maps.AppendAt
import Derived.Test.YtdllppaichlnaaaDoorPkPsAl0
import Derived.Test.YtdllppaichlnaaaDoorPkPsAl2
set_option linter.unusedVariables false
set_option linter.unusedSimpArgs false

namespace Go.Proofs.YtdllppaichlnaaaDoor

theorem or_add (n a b : Nat) (h : b < 2 ^ n) : a * 2 ^ n ||| b = a * 2 ^ n + b := by
  rw [Nat.mul_comm, ← Nat.two_pow_add_eq_or_of_lt h]
theorem word4_add (a b c d : Nat) (hb : b < 256) (hc : c < 256) (hd : d < 256) : word4 a b c d = ((a * 256 + b) * 256 + c) * 256 + d := by
  unfold word4
  have h1 := or_add 24 a (b * 65536) (by omega)
  have h2 := or_add 16 (a * 256 + b) (c * 256) (by omega)
  have h3 := or_add 8 ((a * 256 + b) * 256 + c) d (by omega)
  rw [show (2 : Nat) ^ 24 = 16777216 from rfl] at h1
  rw [show (2 : Nat) ^ 16 = 65536 from rfl] at h2
  rw [show (2 : Nat) ^ 8 = 256 from rfl] at h3
  rw [h1, show a * 16777216 + b * 65536 = (a * 256 + b) * 65536 by omega, h2, show (a * 256 + b) * 65536 + c * 256 = ((a * 256 + b) * 256 + c) * 256 by omega, h3]
/-- A word so far, from k of its bytes. -/
def partW (l : List UInt8) (i : Nat) : Nat → Nat
  | 0 => 0
  | k + 1 => (partW l i k * 256 + byteAt l (4 * i + k)) % 4294967296
theorem partW_four (l : List UInt8) (i : Nat) : partW l i 4 = word4 (byteAt l (4 * i)) (byteAt l (4 * i + 1)) (byteAt l (4 * i + 2)) (byteAt l (4 * i + 3)) := by
  have h0 := byteAt_lt l (4 * i)
  have h1 := byteAt_lt l (4 * i + 1)
  have h2 := byteAt_lt l (4 * i + 2)
  have h3 := byteAt_lt l (4 * i + 3)
  rw [word4_add _ _ _ _ h1 h2 h3]
  simp only [partW, Nat.add_zero]
  omega
theorem chf_or (x y z : Nat) (hx : x < 4294967296) : (x &&& y) ||| ((4294967295 - x) &&& z) = chf x y z := by
  unfold chf
  apply Nat.eq_of_testBit_eq
  intro i
  have h := Nat.testBit_two_pow_sub_succ (n := 32) (x := x) hx i
  rw [show 2 ^ 32 - (x + 1) = 4294967295 - x by omega] at h
  simp only [Nat.testBit_or, Nat.testBit_xor, Nat.testBit_and, h]
  cases x.testBit i <;> cases y.testBit i <;> cases z.testBit i <;> simp
theorem maj_or (x y z : Nat) : ((x &&& y) ||| (x &&& z)) ||| (y &&& z) = maj x y z := by
  unfold maj
  apply Nat.eq_of_testBit_eq
  intro i
  simp only [Nat.testBit_or, Nat.testBit_xor, Nat.testBit_and]
  cases x.testBit i <;> cases y.testBit i <;> cases z.testBit i <;> rfl
theorem absS_append (s : Sta) (a b : List UInt8) (m : Nat) (ha : a.length = 64 * m) (n : Nat) : absS s (a ++ b) (m + n) = absS (absS s a m) b n := by
  induction n with
  | zero =>
    rw [Nat.add_zero, absS]
    have : ∀ k, k ≤ m → absS s (a ++ b) k = absS s a k := by
      intro k
      induction k with
      | zero => intro _; rfl
      | succ k ih =>
        intro hk
        rw [absS, absS, ih (by omega), List.drop_append_of_le_length (by omega), List.take_append_of_le_length (by rw [List.length_drop]; omega)]
    exact this m (Nat.le_refl m)
  | succ n ih =>
    rw [← Nat.add_assoc, absS, absS, ih, show 64 * (m + n) = a.length + 64 * n by omega, List.drop_append]
    rw [List.drop_of_length_le (show a.length ≤ a.length + 64 * n by omega), List.nil_append, Nat.add_sub_cancel_left]
theorem absorb_append (s : Sta) (a b : List UInt8) (h : a.length % 64 = 0) : absorb s (a ++ b) = absorb (absorb s a) b := by
  unfold absorb
  have e : (a ++ b).length / 64 = a.length / 64 + b.length / 64 := by rw [List.length_append]; omega
  rw [e]
  exact absS_append s a b (a.length / 64) (by omega) (b.length / 64)
/-- All the bytes, padded. -/
def padS (l : List UInt8) (n : Nat) : List UInt8 := l ++ [128] ++ List.replicate n 0
def fullS (l : List UInt8) : List UInt8 := padS l (padLen l.length) ++ be8 (8 * l.length % 18446744073709551616)
theorem padLen_mod (n : Nat) : padLen (n % 64) = padLen n := by unfold padLen; omega
theorem padS_length (l : List UInt8) (n : Nat) : (padS l n).length = l.length + 1 + n := by simp [padS]; omega
theorem pad_done (l : List UInt8) : (padS l (padLen l.length)).length % 64 = 56 := by rw [padS_length]; unfold padLen; omega
theorem pad_more (l : List UInt8) (n : Nat) (h : n ≤ padLen l.length) (hm : (padS l n).length % 64 ≠ 56) : n < padLen l.length := by
  rcases Nat.lt_or_ge n (padLen l.length) with h1 | h1
  · exact h1
  · exfalso
    have : n = padLen l.length := by omega
    rw [this] at hm
    exact hm (pad_done l)
theorem pad_end (l : List UInt8) (n : Nat) (h : n ≤ padLen l.length) (hm : (padS l n).length % 64 = 56) : n = padLen l.length := by
  rw [padS_length] at hm
  unfold padLen at *
  omega
theorem fullS_length (l : List UInt8) : (fullS l).length % 64 = 0 := by
  unfold fullS
  rw [List.length_append]
  have := pad_done l
  have h8 : (be8 (8 * l.length % 18446744073709551616)).length = 8 := rfl
  omega
theorem sha_full (l : List UInt8) : sha l = (absorb start0 (fullS l)).out := by
  unfold sha sumS
  have hw : (l.take (l.length - l.length % 64)).length = l.length - l.length % 64 := by simp
  rw [← absorb_append _ _ _ (by rw [hw]; omega)]
  congr 2
  unfold endingS fullS padS
  have hd : (l.drop (l.length - l.length % 64)).length = l.length % 64 := by rw [List.length_drop]; omega
  rw [hd, padLen_mod, Nat.zero_add]
  simp only [← List.append_assoc, List.take_append_drop]
/-- The eight bytes behind, as many as are there. -/
theorem be8_next (n k : Nat) (h : k < 8) : (be8 n).take (k + 1) = (be8 n).take k ++ [b8n (n / 2 ^ (8 * (7 - k)))] := by
  rcases k with _ | _ | _ | _ | _ | _ | _ | _ | k
  case succ.succ.succ.succ.succ.succ.succ.succ => omega
  all_goals simp [be8]
end Go.Proofs.YtdllppaichlnaaaDoor
namespace Go.Proofs.YtdllppaichlnaaaDoor
open Go.RowKit

theorem Wds.range {w : World} {g : Nat} {t : TypeId} {a b : List Nat} (h : Wds w g t (a ++ b)) : w.rangeAt g 0 (us a) := fun j v hv => by
  rw [Nat.zero_add]
  refine Rw.cell h ?_
  have hlt : j < (us a).length := (List.getElem?_eq_some_iff.1 hv).1
  rw [← hv]
  unfold us
  rw [List.map_append, List.getElem?_append_left (by simpa [us] using hlt)]
theorem info_u32 : (Tryd.prog.info? 31).map (fun i => (i.zero, i.size, i.bytes)) = some (some (.int .u32 0), 1, 4) := by kernel_rfl
theorem run_make_words (W : World) : (Instr.makeSlice 80 (.int .i64 64) (.int .i64 64)).run Tryd.prog W =
    .ok (.slice (some ⟨W.heap.size, 0, none⟩) 64 64) (W.alloc (.cells (us (List.replicate 64 0)).toArray 31)) := by
  obtain ⟨i0, hi, hz0, hz1, hz2⟩ := info_parts info_u32
  have h := run_make (P := Tryd.prog) W 80 31 i0 (.int .u32 0) Tryd.underlying80 hi hz0 .i64 .i64 64 64 (by omega) (by omega) (by rw [hz2]; omega) (by omega)
  have e : madeCells #[Value.int .u32 0] 64 = (us (List.replicate 64 0)).toArray := by kernel_rfl
  rw [← e]
  simpa [hz1, Value.cells] using h
theorem Ext.setDrew {w w' : World} (h : Ext w w') {p : Addr} (hp : w.heap.size ≤ p.block) (u : Value) : Ext w (w'.setCell p u).drew :=
  Below.trans (Below.set h hp u) (Below.mono (Ext.drew _) (Below.size (Below.set h hp u)))
theorem Below.set8 {B : Nat} {w w' : World} {g : Nat} (h : Below B w w') (hg : B ≤ g) (u0 u1 u2 u3 u4 u5 u6 u7 : Value) :
    Below B w ((((((((w'.setCell ⟨g, 0, none⟩ u0).setCell ⟨g, 1, none⟩ u1).setCell ⟨g, 2, none⟩ u2).setCell ⟨g, 3, none⟩ u3).setCell ⟨g, 4, none⟩ u4).setCell ⟨g, 5, none⟩ u5).setCell ⟨g, 6, none⟩ u6).setCell ⟨g, 7, none⟩ u7) :=
  Below.set (p := ⟨g, 7, none⟩) (Below.set (p := ⟨g, 6, none⟩) (Below.set (p := ⟨g, 5, none⟩) (Below.set (p := ⟨g, 4, none⟩) (Below.set (p := ⟨g, 3, none⟩) (Below.set (p := ⟨g, 2, none⟩) (Below.set (p := ⟨g, 1, none⟩) (Below.set (p := ⟨g, 0, none⟩) h hg u0) hg u1) hg u2) hg u3) hg u4) hg u5) hg u6) hg u7
theorem us_start : us start0.list = us startW := rfl
theorem fullS_count (l : List UInt8) : ∃ m, (fullS l).length = 64 * m := ⟨(fullS l).length / 64, by have := fullS_length l; omega⟩
theorem fullS_le (l : List UInt8) : (fullS l).length ≤ l.length + 80 := by
  unfold fullS
  rw [List.length_append, padS_length]
  have : (be8 (8 * l.length % 18446744073709551616)).length = 8 := rfl
  unfold padLen
  omega

set_option maxRecDepth 20000 in
set_option maxHeartbeats 12800000 in
theorem rsum_any (tb : List Nat) (htb : Hid (tb = startW ++ roundW)) (A : Option Addr) (c : Nat) (l : List UInt8) (w : World) (hr : Rd w A l) (hl : l.length ≤ 140737488350000) :
    Calls Tryd.prog 33 #[.agg (us tb).toArray, .slice A l.length c] w (Ret w (Is (.agg (bs (sha l)).toArray))) := by
  obtain ⟨n, HN⟩ : ∃ n, Hid (l.length = n) := ⟨_, hide rfl⟩
  obtain ⟨o, HO⟩ : ∃ o, Hid (sha l = o) := ⟨_, hide rfl⟩
  have HFL := hide (fullS_le l)
  rw [HO.out, HN.out]
  rw [HN.out] at hl
  obtain ⟨pn, HPN⟩ : ∃ pn, Hid (padLen l.length = pn) := ⟨_, hide rfl⟩
  have hpn : pn < 64 := by rw [← HPN.out]; exact Nat.mod_lt _ (by decide)
  go_enter Tryd.func33, Tryd.ntmps33
  go_wp2_with (first
    | (at_builtin; refine wpList_cat rfl (.tmp 29) (.tmp 30) rfl (w.heap.size + 2) _ [] l A n c rfl rfl HN.out.symm (Own.nil _ _) ((hr.ext (Ext.alloc _ _)).ext (Ext.alloc _ _)) (by simp) (by simp; have := HN.out; omega) ?_; intro v1 w1 hown1 hb1; rw [List.nil_append] at hown1;
       have hT1 : Hid (Wds w1 w.heap.size 35 tb) := hide (Rw.below (heap_alloc2_old w _ _) hb1 (by omega));
       have hZ1 : Hid (Rw w1 (w.heap.size + 1) 24 (bs (List.replicate 32 0))) := hide (Rw.below (heap_alloc2_new w _ _) hb1 (by omega));
       have hx1 : Ext w w1 := Below.trans ((Ext.alloc w _).trans (Ext.alloc _ _)) (Below.mono hb1 (by omega));
       have hs1 : w.heap.size + 2 ≤ w1.heap.size := by (have := hb1.size; simpa using this);
       have HO1 := hide hown1;
       clear hb1 hown1)
    | (at_builtin; refine wpList_push rfl (.tmp 32) (.tmp 33) rfl (w.heap.size + 2) _ _ rfl rfl HO1.out (by decide) (by decide) hs1 (by have := HN.out; omega) ?_; intro v2 w2 hown2 hb2;
       have HO2 : Hid (Own w2 (w.heap.size + 2) v2 (padS l 0)) := hide (by rw [padS, List.replicate_zero, List.append_nil]; exact hown2);
       clear HO1 hown2))
  obtain ⟨B, hB⟩ : ∃ B, B = w.heap.size + 2 := ⟨_, rfl⟩
  obtain ⟨g, hg⟩ : ∃ g, g = w.heap.size := ⟨_, rfl⟩
  rw [← hB] at hb2 HO2 hs1
  rw [← hg] at hT1 hZ1 ⊢
  have hgl : w.heap.size ≤ g ∧ g + 1 < B := by omega
  clear hB hg
  have HX1 := hide hx1
  clear hx1
  go_loopw [5] (fun v wr => ∃ k : Nat, k ≤ pn ∧ Hid (Own wr B v (padS l k)) ∧ Below B w1 wr) (fun v _ => match v with | .slice _ m _ => n + 100 - m | _ => 0)
  case atStart => exact ⟨0, Nat.zero_le _, HO2, hb2⟩
  clear HO2 hb2
  case round =>
    obtain ⟨k, hk, HOk, hbk⟩ := hrel
    have hok := HOk.out.bytes
    obtain ⟨C, c9, rfl, hlc9, hr9⟩ := hok
    rw [padS_length, HN.out] at hlc9
    rw [padS_length, HN.out] at HOk ⊢
    obtain ⟨m, HM⟩ : ∃ m, Hid (m = n + 1 + k) := ⟨_, hide rfl⟩
    rw [← HM.out] at HOk ⊢
    have hm2 : m ≤ n + 65 := by rw [HM.out]; omega
    have HLN : Hid ((padS l k).length = m) := hide (by rw [padS_length, HN.out, HM.out])
    by_cases hgo : m % 64 = 56
    · have HF : Hid (padS l k = padS l pn) := hide (by
        have h1 := pad_end l k (by rw [HPN.out]; exact hk) (by rw [HLN.out]; exact hgo)
        rw [h1, HPN.out])
      rw [HF.out] at HOk HLN
      have hgo2 : (m : Int) % 64 = 56 := by omega
      obtain ⟨wb, hwb⟩ : ∃ x, x = wr := ⟨_, rfl⟩
      subst hwb
      clear hgo hr9 hlc9 HF
      obtain ⟨t, H35⟩ : ∃ t, Hid (t = 8 * n) := ⟨_, hide rfl⟩
      have et : (n : Int) * 8 = (t : Int) := by rw [H35.out]; omega
      obtain ⟨F, HF⟩ : ∃ F, Hid (fullS l = F) := ⟨_, hide rfl⟩
      have HF2 : Hid (padS l pn ++ be8 t = F) := hide (by
        rw [← HF.out, fullS, HPN.out, H35.out, ← HN.out, Nat.mod_eq_of_lt (by have := HN.out; omega)])
      have HSHA : Hid (o = (absorb start0 F).out) := hide (by rw [← HO.out, sha_full, HF.out])
      obtain ⟨nb, hnb⟩ : ∃ nb, F.length = 64 * nb := by rw [← HF.out]; exact fullS_count l
      have HNB := hide hnb
      have hbn : 64 * nb ≤ n + 80 := by have h1 := HFL.out; rw [HF.out, HN.out, hnb] at h1; exact h1
      have HSB := hide (show B ≤ wb.heap.size from Nat.le_trans hs1 (Below.size hbk))
      have HLP := hide (show (padS l pn).length ≤ n + 65 by rw [HLN.out]; exact hm2)
      clear hnb HF HFL HO HM hm2 HLN hk hs1
      go_wp2
      clear hgo2 et
      go_loopw [5, 7] (fun v i wr => ∃ k : Nat, k ≤ 8 ∧ i = .int .i64 (7 - (k : Int)) ∧ Hid (Own wr B v (padS l pn ++ (be8 t).take k)) ∧ Below B wb wr) (fun _ i _ => (intOf i + 1).toNat)
      case atStart => exact ⟨0, by omega, rfl, hide (by rw [List.take_zero, List.append_nil]; exact HOk.out), Below.refl _ _⟩
      clear HOk
      case round =>
        obtain ⟨k, hk8, rfl, HOk, hbk2⟩ := hrel
        by_cases hlt : k < 8
        · obtain ⟨j, hj⟩ : ∃ j, k + j = 7 := ⟨7 - k, by omega⟩
          have HJ := hide hj
          rw [show 7 - (k : Int) = (j : Int) by omega]
          have hsB : B ≤ wr.heap.size := Nat.le_trans HSB.out (Below.size hbk2)
          have HLQ := hide (show (padS l pn ++ (be8 t).take k).length < 140737488355328 by rw [List.length_append, List.length_take]; have := HLP.out; omega)
          have hj7 : j ≤ 7 := by omega
          clear hlt hj
          go_wp2_with (at_builtin; refine wpList_push rfl (.tmp 50) (.tmp 56) rfl B _ _ rfl rfl HOk.out (Int.emod_nonneg _ (by decide)) (Int.emod_lt_of_pos _ (by decide)) hsB HLQ.out ?_; intro v6 w6 hown6 hb6; have HO6 := hide hown6; clear hown6)
          have HO7 : Hid (Own w6 B v6 (padS l pn ++ (be8 t).take (k + 1))) := hide (by
            have h1 := HO6.out
            rw [b8n_b8 (t / 2 ^ (8 * j)) (by rw [Int.natCast_emod, Int.natCast_ediv, Int.natCast_pow]; rfl), List.append_assoc] at h1
            rw [be8_next t k (by have := HJ.out; omega), show 7 - k = j by have := HJ.out; omega]
            exact h1)
          exact ⟨⟨k + 1, by have := HJ.out; omega, by have := HJ.out; congr 1; omega, HO7, Below.trans hbk2 hb6⟩, by have := HJ.out; simp [intOf]⟩
        · have hge : ¬ (0 : Int) ≤ 7 - (k : Int) := by omega
          have HOF := hide HOk.out
          rw [List.take_of_length_le (show (be8 t).length ≤ k by show 8 ≤ k; omega), HF2.out] at HOF
          obtain ⟨C5, c5, rfl, hlc5, hr5⟩ := HOF.out.bytes
          rw [HNB.out] at hlc5 ⊢
          have HR5 := hide hr5
          obtain ⟨wc, hwc⟩ : ∃ x, x = wr := ⟨_, rfl⟩
          subst hwc
          have hT5 : Hid (Wds wc g 35 tb) := hide (Wds.below (Wds.below hT1.out hbk (by omega)) hbk2 (by omega))
          have hZ5 : Hid (Rw wc (g + 1) 24 (bs (List.replicate 32 0))) := hide (Rw.below (Rw.below hZ1.out hbk (by omega)) hbk2 (by omega))
          have hX5 : Hid (Ext w wc) := hide (Below.trans HX1.out (Below.mono (Below.trans hbk hbk2) (by omega)))
          have HRG : Hid (wc.rangeAt g 0 (us startW)) := hide (Wds.range (t := 35) (b := roundW) (by have h1 := hT5.out; rw [htb.out] at h1; exact h1))
          have HSZ := hide (show B ≤ wc.heap.size from Nat.le_trans HSB.out (Below.size hbk2))
          clear HOk HOF hbk2 hbk hr5 hT1 hZ1 HX1 HSB hlt hk8
          go_wp2_with (first
            | ((with_reducible show wpList _ _ _ (⟨some 59, .load _ _, _, _, _, _⟩ :: _) _ _);
               refine wpList_load_mid rfl 32 (.tmp 58) rfl g 0 rfl (us startW) _ HRG.out Tryd.underlying32 rfl (by kernel_rfl) ?_)
            | ((with_reducible show wpList _ _ _ (⟨none, .store _ (.tmp 8) _, _, _, _, _⟩ :: _) _ _);
               refine wpList_store_rw rfl 32 (.tmp 8) (.tmp 59) rfl _ rfl (us startW) rfl 32 (us (List.replicate 8 0)) (heap_alloc_new wc _) 8 (by kernel_rfl) rfl rfl (us_one _) ?_;
               intro w5 hr5 hl5;
               have HH5 : Hid (Wds w5 wc.heap.size 32 start0.list) := hide hr5;
               have hT6 : Hid (Wds w5 g 35 tb) := hide (Wds.other (Wds.ext hT5.out (Ext.alloc _ _)) hl5 (by have := HSZ.out; omega));
               have hZ6 : Hid (Rw w5 (g + 1) 24 (bs (List.replicate 32 0))) := hide (Rw.other (Rw.ext hZ5.out (Ext.alloc _ _)) hl5 (by have := HSZ.out; omega));
               have HX6 : Hid (Ext w w5) := hide ((hX5.out.trans (Ext.alloc _ _)).laid hl5 (by have := hX5.out.size; omega));
               have HBC6 : Hid (Below wc.heap.size wc w5) := hide ((Ext.alloc wc _).laid hl5 (Nat.le_refl _));
               have HS6 := hide hl5.below.size;
               clear hr5 hl5))
          have HRA : Hid (∀ W, Below wc.heap.size wc W → Rd W C5 F) := hide fun W h => HR5.out.ext h
          generalize hgh : wc.heap.size = gh at *
          have hgh2 : g + 1 < gh := by have := HSZ.out; omega
          clear hT5 hZ5 hX5 HRG HR5 HSZ hgh
          go_loopw [9] (fun i wr => ∃ k : Nat, k ≤ nb ∧ i = .int .i64 (64 * (k : Int)) ∧ Hid (Wds wr gh 32 (absS start0 F k).list) ∧ Hid (Wds wr g 35 tb) ∧ Hid (Rw wr (g + 1) 24 (bs (List.replicate 32 0))) ∧ Hid (Below gh wc wr) ∧ Hid (Ext w wr)) (fun i _ => (64 * (nb : Int) - intOf i).toNat)
          case atStart => exact ⟨0, Nat.zero_le _, rfl, HH5, hT6, hZ6, HBC6, HX6⟩
          clear HH5 hT6 hZ6 HBC6 HX6
          case round =>
            obtain ⟨bk, hbk, rfl, HH, hT, hZ, hBC, hX⟩ := hrel
            have hR := hide (HRA.out _ hBC.out)
            by_cases hlt : bk < nb
            · have hlt2 : 64 * (bk : Int) < ((64 * nb : Nat) : Int) := by omega
              obtain ⟨b5, off5, rfl, hrc⟩ := hR.out (by intro e; have := HNB.out; rw [e] at this; simp at this; omega)
              have HRC := hide hrc
              clear hrc hR
              obtain ⟨bl, HBL⟩ : ∃ bl, Hid (bl = (F.drop (64 * bk)).take 64) := ⟨_, hide rfl⟩
              have HBB := hide (show ∀ i, i < 64 → bl[i]? = F[64 * bk + i]? from fun i hi => by rw [HBL.out, List.getElem?_take, if_pos hi, List.getElem?_drop])
              have hbl : bl.length = 64 := by rw [HBL.out, List.length_take, List.length_drop, HNB.out]; omega
              have HBS := hide hbl
              obtain ⟨cs, HCS⟩ : ∃ cs : Array Value, Hid (cs = (us (List.replicate 64 0)).toArray) := ⟨_, hide rfl⟩
              have hmk := fun W => run_make_words W
              rw [← HCS.out] at hmk
              obtain ⟨w0, hw0⟩ : ∃ x, x = wr := ⟨_, rfl⟩
              subst hw0
              clear hbl
              go_wp2
              generalize hW : w0.alloc (.cells cs 31) = w6
              obtain ⟨gw, HGW⟩ : ∃ gw, Hid (gw = w0.heap.size) := ⟨_, hide rfl⟩
              rw [← HGW.out]
              have HX6 : Hid (Ext w0 w6) := hide (by rw [← hW]; exact Ext.alloc _ _)
              have HW6 : Hid (Wds w6 gw 31 (List.replicate 64 0)) := hide (by rw [← hW, HGW.out, HCS.out]; exact heap_alloc_new _ _)
              have HGG : Hid (gh + 1 ≤ gw) := hide (by rw [HGW.out]; have h1 := Rw.lt HH.out; omega)
              clear hmk hW
              have hlb : 64 * bk + 64 ≤ 64 * nb := by omega
              go_loopw [11] (fun i wr => ∃ a : Nat, a ≤ 16 ∧ i = .int .i64 (a : Int) ∧ Hid (Wds wr gw 31 (firstW bl a ++ List.replicate (64 - a) 0)) ∧ Hid (Ext w0 wr)) (fun i _ => 16 - (intOf i).toNat)
              case atStart => exact ⟨0, by omega, rfl, HW6, HX6⟩
              clear HW6
              case round =>
                obtain ⟨a, ha, rfl, HW, HB⟩ := hrel
                by_cases hla : a < 16
                · obtain ⟨wd, hwd⟩ : ∃ x, x = wr := ⟨_, rfl⟩
                  subst hwd
                  have HFL := hide (firstW_length bl a)
                  go_wp2
                  go_loopw [12] (fun i wr => ∃ q : Nat, q ≤ 4 ∧ i = .int .i64 (q : Int) ∧ Hid (Wds wr gw 31 (firstW bl a ++ partW bl a q :: List.replicate (63 - a) 0)) ∧ Hid (Ext w0 wr)) (fun i _ => 4 - (intOf i).toNat)
                  case atStart => exact ⟨0, by omega, rfl, hide (by have h1 := HW.out; rw [show 64 - a = (63 - a) + 1 by omega, List.replicate_succ] at h1; exact h1), HB⟩
                  clear HW HB
                  case round =>
                    obtain ⟨q, hq, rfl, HW, HB⟩ := hrel
                    by_cases hlq : q < 4
                    · obtain ⟨y, hy⟩ : ∃ y, F[64 * bk + 4 * a + q]? = some y := ⟨_, List.getElem?_eq_getElem (by rw [HNB.out]; omega)⟩
                      have cy := (Ext.keeps HB.out).cell (HRC.out _ _ hy)
                      obtain ⟨x, HXX⟩ : ∃ x, Hid (partW bl a q = x) := ⟨_, hide rfl⟩
                      rw [HXX.out] at HW
                      have cx := Wds.cell HW.out (i := a) (n := x) (by rw [List.getElem?_append_right (by rw [HFL.out]; exact Nat.le_refl _), HFL.out, Nat.sub_self]; rfl)
                      have fx := Wds.frozen HW.out a
                      have hy2 := y.toNat_lt
                      have HBY := hide (byteAt_some (show bl[4 * a + q]? = some y by rw [HBB.out _ (by omega), ← Nat.add_assoc]; exact hy))
                      clear hy
                      go_wp2
                      go_region
                      go_wp2
                      refine ⟨⟨q + 1, by omega, by go_num, hide ?_, hide ?_⟩, by simp [intOf]; omega⟩
                      · refine Wds.put (w := wr) HW.out a (partW bl a (q + 1)) ?_ ?_
                        · rw [partW, HXX.out, HBY.out]
                          omega
                        · rw [List.set_append_right _ _ (by rw [HFL.out]; exact Nat.le_refl _), HFL.out, Nat.sub_self]
                          rfl
                      · exact Ext.setDrew (p := ⟨gw, a, none⟩) HB.out (by show w0.heap.size ≤ gw; rw [HGW.out]; exact Nat.le_refl _) _
                    · have hge2 : ¬ (q : Int) < 4 := by omega
                      have HW2 : Hid (Wds wr gw 31 (firstW bl (a + 1) ++ List.replicate (64 - (a + 1)) 0)) := hide (by
                        have e : q = 4 := by omega
                        have h1 := HW.out
                        rw [e, partW_four] at h1
                        rw [firstW, show 64 - (a + 1) = 63 - a by omega, List.append_assoc]
                        exact h1)
                      clear HW hlq hq
                      go_wp2
                      exact ⟨⟨a + 1, by omega, by go_num, HW2, HB⟩, by simp [intOf]; omega⟩
                · have hge2 : ¬ (a : Int) < 16 := by omega
                  have HW2 : Hid (Wds wr gw 31 (firstW bl 16 ++ List.replicate 48 0)) := hide (by
                    have e : a = 16 := by omega
                    have h1 := HW.out
                    rw [e] at h1
                    exact h1)
                  obtain ⟨wd, hwd⟩ : ∃ x, x = wr := ⟨_, rfl⟩
                  subst hwd
                  clear HW hla ha
                  go_wp2
                  go_loopw [13] (fun i wr => ∃ p : Nat, 16 ≤ p ∧ p ≤ 64 ∧ i = .int .i64 (p : Int) ∧ Hid (Wds wr gw 31 (moreW (firstW bl 16) (p - 16) ++ List.replicate (64 - p) 0)) ∧ Hid (Ext w0 wr)) (fun i _ => 64 - (intOf i).toNat)
                  case atStart => exact ⟨16, Nat.le_refl _, by omega, rfl, HW2, HB⟩
                  clear HW2 HB
                  case round =>
                    obtain ⟨p, hp0, hp, rfl, HW, HB⟩ := hrel
                    by_cases hlp : p < 64
                    · have hlen : (moreW (firstW bl 16) (p - 16)).length = p := by rw [moreW_length, firstW_length]; omega
                      have hmlt := moreW_lt _ (firstW_lt bl 16) (p - 16)
                      obtain ⟨q, HQ⟩ : ∃ q, Hid (moreW (firstW bl 16) (p - 16) = q) := ⟨_, hide rfl⟩
                      have hw := HW.out
                      rw [HQ.out] at hw hlen hmlt
                      obtain ⟨we, hwe⟩ : ∃ x, x = wr := ⟨_, rfl⟩
                      subst hwe
                      have gt : ∀ j, 0 < j → j ≤ 16 → ∃ x, q.getD (p - j) 0 = x ∧ x < 4294967296 ∧ Hid (∀ W, Wds W gw 31 (q ++ List.replicate (64 - p) 0) → W.cell? ⟨gw, p - j, none⟩ = some (.int .u32 (x : Int))) := fun j h1 h2 => by
                        have hlt : p - j < q.length := by omega
                        refine ⟨q[p - j], ?_, hmlt _ (List.getElem_mem _), hide fun W hW => hW.cell ?_⟩
                        · rw [List.getD_eq_getElem?_getD, List.getElem?_eq_getElem hlt]; rfl
                        · rw [List.getElem?_append_left hlt, List.getElem?_eq_getElem hlt]
                      obtain ⟨x2, g2, l2, C2⟩ := gt 2 (by omega) (by omega)
                      obtain ⟨x15, g15, l15, C15⟩ := gt 15 (by omega) (by omega)
                      obtain ⟨x7, g7, l7, C7⟩ := gt 7 (by omega) (by omega)
                      obtain ⟨x16, g16, l16, C16⟩ := gt 16 (by omega) (by omega)
                      have HN2 := hide (show moreW (firstW bl 16) (p + 1 - 16) = q ++ [(sig1 x2 + x7 + sig0 x15 + x16) % 4294967296] by
                        rw [show p + 1 - 16 = (p - 16) + 1 by omega, moreW, HQ.out]
                        unfold nextW
                        rw [show 16 + (p - 16) = p by omega, g2, g7, g15, g16])
                      obtain ⟨y, hy⟩ : ∃ y, (q ++ List.replicate (64 - p) 0)[p]? = some y := ⟨_, List.getElem?_eq_getElem (by simp; omega)⟩
                      have HY := hide hy
                      have b2 : (2 : Int) ≤ p := by omega
                      have b15 : (15 : Int) ≤ p := by omega
                      have b7 : (7 : Int) ≤ p := by omega
                      have b16 : (16 : Int) ≤ p := by omega
                      have hlp2 : (p : Int) < 64 := by omega
                      have K7 := hide fun W => (show Calls Tryd.prog 40 #[.int .u32 (x15 : Int), .int .i64 7] W (Drw (.int .u32 (rotr 7 x15 : Int)) W) from rturn_any 7 (by decide) (by decide) x15 l15 W)
                      have K18 := hide fun W => (show Calls Tryd.prog 40 #[.int .u32 (x15 : Int), .int .i64 18] W (Drw (.int .u32 (rotr 18 x15 : Int)) W) from rturn_any 18 (by decide) (by decide) x15 l15 W)
                      have K17 := hide fun W => (show Calls Tryd.prog 40 #[.int .u32 (x2 : Int), .int .i64 17] W (Drw (.int .u32 (rotr 17 x2 : Int)) W) from rturn_any 17 (by decide) (by decide) x2 l2 W)
                      have K19 := hide fun W => (show Calls Tryd.prog 40 #[.int .u32 (x2 : Int), .int .i64 19] W (Drw (.int .u32 (rotr 19 x2 : Int)) W) from rturn_any 19 (by decide) (by decide) x2 l2 W)
                      have HLEN := hide hlen
                      have HSW := hide hw
                      have y1 := u32_xor_nat (rotr 7 x15) (rotr 18 x15) (rotr_lt _ _ l15) (rotr_lt _ _ l15)
                      have y2 : bits .xor .u32 ((rotr 7 x15 ^^^ rotr 18 x15 : Nat) : Int) ((x15 : Int) / 8) = (sig0 x15 : Int) := by
                        have := u32_xor_nat (rotr 7 x15 ^^^ rotr 18 x15) (x15 / 8) (xor_lt32 (rotr_lt _ _ l15) (rotr_lt _ _ l15)) (by omega)
                        rw [Int.natCast_ediv] at this
                        exact this
                      have x1 := u32_xor_nat (rotr 17 x2) (rotr 19 x2) (rotr_lt _ _ l2) (rotr_lt _ _ l2)
                      have x3 : bits .xor .u32 ((rotr 17 x2 ^^^ rotr 19 x2 : Nat) : Int) ((x2 : Int) / 1024) = (sig1 x2 : Int) := by
                        have := u32_xor_nat (rotr 17 x2 ^^^ rotr 19 x2) (x2 / 1024) (xor_lt32 (rotr_lt _ _ l2) (rotr_lt _ _ l2)) (by omega)
                        rw [Int.natCast_ediv] at this
                        exact this
                      have c15 := C15.out _ hw
                      clear hy gt g2 g15 g7 g16 hw hmlt hlen HW
                      go_wp2
                      go_quiet (first
                        | (go_at_call 40; (with_reducible show Calls _ _ #[_, Value.int .i64 7] _ _); exact Calls.quiet_of (K7.out _))
                        | (go_at_call 40; (with_reducible show Calls _ _ #[_, Value.int .i64 18] _ _); exact Calls.quiet_of (K18.out _)))
                      generalize hwf : we.drewN nq = wf
                      have HSF : Hid (Wds wf gw 31 (q ++ List.replicate (64 - p) 0)) := hide (by rw [← hwf]; exact HSW.out)
                      have HBF : Hid (Ext w0 wf) := hide (by rw [← hwf]; exact HB.out.drewN _)
                      clear hwf HB HSW c15 K7 K18 y1 y2
                      have c2 := C2.out _ HSF.out
                      go_wp2
                      go_quiet (first
                        | (go_at_call 40; (with_reducible show Calls _ _ #[_, Value.int .i64 17] _ _); exact Calls.quiet_of (K17.out _))
                        | (go_at_call 40; (with_reducible show Calls _ _ #[_, Value.int .i64 19] _ _); exact Calls.quiet_of (K19.out _)))
                      generalize hwg : wf.drewN nq = wg
                      have HSG : Hid (Wds wg gw 31 (q ++ List.replicate (64 - p) 0)) := hide (by rw [← hwg]; exact HSF.out)
                      have HBG : Hid (Ext w0 wg) := hide (by rw [← hwg]; exact HBF.out.drewN _)
                      clear hwg HBF HSF c2 K17 K19 x1 x3
                      have c16 := C16.out _ HSG.out
                      have c7 := C7.out _ HSG.out
                      have cc := HSG.out.cell HY.out
                      have cf := HSG.out.frozen p
                      go_wp2
                      go_region
                      go_wp2
                      refine ⟨⟨p + 1, by omega, by omega, by go_num, hide ?_, hide ?_⟩, by simp [intOf]; omega⟩
                      · refine Wds.put (w := wg) HSG.out p ((sig1 x2 + x7 + sig0 x15 + x16) % 4294967296) (by omega) ?_
                        rw [HN2.out, set_mid _ _ _ _ HLEN.out.symm (by omega)]
                        rfl
                      · exact Ext.setDrew (p := ⟨gw, p, none⟩) HBG.out (by show w0.heap.size ≤ gw; rw [HGW.out]; exact Nat.le_refl _) _
                    · have hge2 : ¬ (p : Int) < 64 := by omega
                      have HSCH : Hid (Wds wr gw 31 (sched bl)) := hide (by
                        have e : p = 64 := by omega
                        have h1 := HW.out
                        rw [e, show 64 - 64 = 0 from rfl, List.replicate_zero, List.append_nil] at h1
                        exact h1)
                      have HBL2 := HB
                      obtain ⟨we, hwe⟩ : ∃ x, x = wr := ⟨_, rfl⟩
                      subst hwe
                      obtain ⟨s0, HS0⟩ : ∃ s, Hid (absS start0 F bk = s) := ⟨_, hide rfl⟩
                      have HSOK := hide (show s0.ok by rw [← HS0.out]; exact absS_ok start0_ok F bk)
                      have HSN := hide (show absS start0 F (bk + 1) = s0.plus (s0.rounds (sched bl) 64) by rw [absS, HS0.out, ← HBL.out]; rfl)
                      have HHW := Wds.ext HH.out HB.out
                      rw [HS0.out] at HHW
                      have v0 := HHW.cell (i := 0) (n := s0.a) rfl
                      have v1' := HHW.cell (i := 1) (n := s0.b) rfl
                      have v2' := HHW.cell (i := 2) (n := s0.c) rfl
                      have v3 := HHW.cell (i := 3) (n := s0.d) rfl
                      have v4 := HHW.cell (i := 4) (n := s0.e) rfl
                      have v5 := HHW.cell (i := 5) (n := s0.f) rfl
                      have v6' := HHW.cell (i := 6) (n := s0.g) rfl
                      have v7 := HHW.cell (i := 7) (n := s0.h) rfl
                      have HHS := hide HHW
                      clear HW hlp hp HB HHW hp0
                      go_wp2
                      clear v0 v1' v2' v3 v4 v5 v6' v7
                      go_loopw [16, 17, 18, 19, 20, 21, 22, 23, 24] (fun xa xb xc xd xe xf xg xh i wr => ∃ r : Nat, r ≤ 64 ∧ ∃ st : Sta, Hid (s0.rounds (sched bl) r = st) ∧ xa = .int .u32 (st.a : Int) ∧ xb = .int .u32 (st.b : Int) ∧ xc = .int .u32 (st.c : Int) ∧ xd = .int .u32 (st.d : Int) ∧ xe = .int .u32 (st.e : Int) ∧ xf = .int .u32 (st.f : Int) ∧ xg = .int .u32 (st.g : Int) ∧ xh = .int .u32 (st.h : Int) ∧ i = .int .i64 (r : Int) ∧ Hid (Ext we wr)) (fun _ _ _ _ _ _ _ _ i _ => 64 - (intOf i).toNat)
                      case atStart => exact ⟨0, by omega, s0, hide rfl, rfl, rfl, rfl, rfl, rfl, rfl, rfl, rfl, rfl, hide (Ext.refl _)⟩
                      case round =>
                        obtain ⟨r, hr64, ⟨sa, sb, sc, sd, se, sf, sg, sh⟩, HST, rfl, rfl, rfl, rfl, rfl, rfl, rfl, rfl, rfl, HBR⟩ := hrel
                        by_cases hlr : r < 64
                        · have hok := Sta.rounds_ok HSOK.out (sched bl) r
                          rw [HST.out] at hok
                          have osa : sa < 4294967296 := hok.a
                          have osb : sb < 4294967296 := hok.b
                          have osc : sc < 4294967296 := hok.c
                          have osd : sd < 4294967296 := hok.d
                          have ose : se < 4294967296 := hok.e
                          have osf : sf < 4294967296 := hok.f
                          have osg : sg < 4294967296 := hok.g
                          have osh : sh < 4294967296 := hok.h
                          obtain ⟨q, hq⟩ : ∃ q, (sched bl)[r]? = some q := ⟨_, List.getElem?_eq_getElem (by rw [sched_length]; exact hlr)⟩
                          obtain ⟨rk, hrk⟩ : ∃ q, roundW[r]? = some q := ⟨_, List.getElem?_eq_getElem (by simpa [roundW] using hlr)⟩
                          have HN3 := hide (show s0.rounds (sched bl) (r + 1) = (Sta.mk sa sb sc sd se sf sg sh).next rk q by rw [Sta.rounds, HST.out, List.getD_eq_getElem?_getD, List.getD_eq_getElem?_getD, hq, hrk]; rfl)
                          obtain ⟨wh, hwh⟩ : ∃ x, x = wr := ⟨_, rfl⟩
                          subst hwh
                          have cq := (Wds.ext HSCH.out HBR.out).cell hq
                          have ck := (Wds.ext (Wds.ext hT.out HBL2.out) HBR.out).cell (i := 8 + r) (n := rk) (by rw [htb.out, List.getElem?_append_right (show startW.length ≤ 8 + r from Nat.le_add_right 8 r), show 8 + r - startW.length = r from Nat.add_sub_cancel_left 8 r]; exact hrk)
                          have e1 := u32_xor_nat (rotr 6 se) (rotr 11 se) (rotr_lt _ _ ose) (rotr_lt _ _ ose)
                          have e2 : bits .xor .u32 ((rotr 6 se ^^^ rotr 11 se : Nat) : Int) (rotr 25 se : Int) = (tri 6 11 25 se : Int) := u32_xor_nat (rotr 6 se ^^^ rotr 11 se) (rotr 25 se) (xor_lt32 (rotr_lt _ _ ose) (rotr_lt _ _ ose)) (rotr_lt _ _ ose)
                          have e3 := u32_and_nat se sf ose osf
                          have e4 := not_word se ose
                          have e5 := u32_and_nat (4294967295 - se) sg (by omega) osg
                          have e6 : bits .or .u32 ((se &&& sf : Nat) : Int) (((4294967295 - se) &&& sg : Nat) : Int) = (chf se sf sg : Int) := by rw [← chf_or se sf sg ose]; exact u32_or_nat _ _ (and_lt32 ose) (and_lt32 (by omega))
                          have es : ¬ IntKind.u32.signed = true := by decide
                          have K6 := hide fun W => (show Calls Tryd.prog 40 #[.int .u32 (se : Int), .int .i64 6] W (Drw (.int .u32 (rotr 6 se : Int)) W) from rturn_any 6 (by decide) (by decide) se ose W)
                          have K11 := hide fun W => (show Calls Tryd.prog 40 #[.int .u32 (se : Int), .int .i64 11] W (Drw (.int .u32 (rotr 11 se : Int)) W) from rturn_any 11 (by decide) (by decide) se ose W)
                          have K25 := hide fun W => (show Calls Tryd.prog 40 #[.int .u32 (se : Int), .int .i64 25] W (Drw (.int .u32 (rotr 25 se : Int)) W) from rturn_any 25 (by decide) (by decide) se ose W)
                          have K2 := hide fun W => (show Calls Tryd.prog 40 #[.int .u32 (sa : Int), .int .i64 2] W (Drw (.int .u32 (rotr 2 sa : Int)) W) from rturn_any 2 (by decide) (by decide) sa osa W)
                          have K13 := hide fun W => (show Calls Tryd.prog 40 #[.int .u32 (sa : Int), .int .i64 13] W (Drw (.int .u32 (rotr 13 sa : Int)) W) from rturn_any 13 (by decide) (by decide) sa osa W)
                          have K22 := hide fun W => (show Calls Tryd.prog 40 #[.int .u32 (sa : Int), .int .i64 22] W (Drw (.int .u32 (rotr 22 sa : Int)) W) from rturn_any 22 (by decide) (by decide) sa osa W)
                          have hlr2 : (r : Int) < 64 := by omega
                          clear hq hrk hok
                          go_wp2
                          go_quiet (first
                            | (go_at_call 40; (with_reducible show Calls _ _ #[_, Value.int .i64 6] _ _); exact Calls.quiet_of (K6.out _))
                            | (go_at_call 40; (with_reducible show Calls _ _ #[_, Value.int .i64 11] _ _); exact Calls.quiet_of (K11.out _))
                            | (go_at_call 40; (with_reducible show Calls _ _ #[_, Value.int .i64 25] _ _); exact Calls.quiet_of (K25.out _)))
                          generalize hwi : wh.drewN nq = wi
                          have HBI : Hid (Ext we wi) := hide (by rw [← hwi]; exact HBR.out.drewN _)
                          clear hwi HBR cq ck K6 K11 K25 e1 e2 e3 e4 e5 e6
                          have f1 := u32_xor_nat (rotr 2 sa) (rotr 13 sa) (rotr_lt _ _ osa) (rotr_lt _ _ osa)
                          have f2 : bits .xor .u32 ((rotr 2 sa ^^^ rotr 13 sa : Nat) : Int) (rotr 22 sa : Int) = (tri 2 13 22 sa : Int) := u32_xor_nat (rotr 2 sa ^^^ rotr 13 sa) (rotr 22 sa) (xor_lt32 (rotr_lt _ _ osa) (rotr_lt _ _ osa)) (rotr_lt _ _ osa)
                          have f3 := u32_and_nat sa sb osa osb
                          have f4 := u32_and_nat sa sc osa osc
                          have f5 := u32_and_nat sb sc osb osc
                          have f6 := u32_or_nat (sa &&& sb) (sa &&& sc) (and_lt32 osa) (and_lt32 osa)
                          have f7 : bits .or .u32 (((sa &&& sb) ||| (sa &&& sc) : Nat) : Int) ((sb &&& sc : Nat) : Int) = (maj sa sb sc : Int) := by rw [← maj_or sa sb sc]; exact u32_or_nat _ _ (or_lt32 (and_lt32 osa) (and_lt32 osa)) (and_lt32 osb)
                          obtain ⟨t1, HT1, ht1⟩ : ∃ z : Nat, Hid ((Sta.mk sa sb sc sd se sf sg sh).t1 rk q = z) ∧ z < 4294967296 := ⟨_, hide rfl, Nat.mod_lt _ (by decide)⟩
                          have et : (((sh : Int) + (tri 6 11 25 se : Int) + (chf se sf sg : Int) + (rk : Int)) % 4294967296 + (q : Int)) % 4294967296 = (t1 : Int) := by
                            rw [← HT1.out]
                            simp only [Sta.t1]
                            omega
                          obtain ⟨t2, HT2, ht2⟩ : ∃ z : Nat, Hid ((Sta.mk sa sb sc sd se sf sg sh).t2 = z) ∧ z < 4294967296 := ⟨_, hide rfl, Nat.mod_lt _ (by decide)⟩
                          have eu : ((tri 2 13 22 sa : Int) + (maj sa sb sc : Int)) % 4294967296 = (t2 : Int) := by
                            rw [← HT2.out]
                            simp only [Sta.t2]
                            omega
                          rw [et]
                          clear et
                          go_wp2_with (first
                            | (go_at_call 40; (with_reducible show Calls _ _ #[_, Value.int .i64 2] _ _); refine (K2.out _).mono ?_; rintro e w2 ⟨rfl, m2, rfl⟩)
                            | (go_at_call 40; (with_reducible show Calls _ _ #[_, Value.int .i64 13] _ _); refine (K13.out _).mono ?_; rintro e w13 ⟨rfl, m13, rfl⟩)
                            | (go_at_call 40; (with_reducible show Calls _ _ #[_, Value.int .i64 22] _ _); refine (K22.out _).mono ?_; rintro e w22 ⟨rfl, m22, rfl⟩))
                          exact ⟨⟨r + 1, by omega, Sta.mk ((t1 + t2) % 4294967296) sa sb sc ((sd + t1) % 4294967296) se sf sg, hide (by rw [HN3.out]; simp only [Sta.next]; rw [HT1.out, HT2.out]), by congr 1, rfl, rfl, rfl, by congr 1, rfl, rfl, rfl, by go_num, hide (HBI.out.drewN _)⟩, by simp [intOf]; omega⟩
                        · have hge3 : ¬ (r : Int) < 64 := by omega
                          have HST2 : Hid (absS start0 F (bk + 1) = s0.plus (Sta.mk sa sb sc sd se sf sg sh)) := hide (by
                            have e : r = 64 := by omega
                            have h1 := HST.out
                            rw [e] at h1
                            rw [HSN.out, h1])
                          have HHR : Hid (Wds wr gh 32 s0.list) := hide (Wds.ext HHS.out HBR.out)
                          obtain ⟨oa, ob, oc, od, oe, of', og, oh⟩ := s0
                          have v0 := HHR.out.cell (i := 0) (n := oa) rfl
                          have v1' := HHR.out.cell (i := 1) (n := ob) rfl
                          have v2' := HHR.out.cell (i := 2) (n := oc) rfl
                          have v3 := HHR.out.cell (i := 3) (n := od) rfl
                          have v4 := HHR.out.cell (i := 4) (n := oe) rfl
                          have v5 := HHR.out.cell (i := 5) (n := of') rfl
                          have v6' := HHR.out.cell (i := 6) (n := og) rfl
                          have v7 := HHR.out.cell (i := 7) (n := oh) rfl
                          have f0 := HHR.out.frozen 0
                          have f1 := HHR.out.frozen 1
                          have f2 := HHR.out.frozen 2
                          have f3 := HHR.out.frozen 3
                          have f4 := HHR.out.frozen 4
                          have f5 := HHR.out.frozen 5
                          have f6 := HHR.out.frozen 6
                          have f7 := HHR.out.frozen 7
                          have HBW0 : Hid (Below gh w0 wr) := hide (Below.mono (HBL2.out.trans HBR.out) (by have := HGG.out; rw [HGW.out] at this; omega))
                          go_wp2
                          refine ⟨⟨bk + 1, by omega, by congr 1 <;> omega, hide ?_, hide ?_, hide ?_, hide ?_, hide ?_⟩, by simp [intOf] <;> omega⟩
                          · rw [HST2.out]
                            have p0 := Wds.put HHR.out 0 ((oa + sa) % 4294967296) (show ((oa : Int) + (sa : Int)) % 4294967296 = (((oa + sa) % 4294967296 : Nat) : Int) by omega) rfl
                            have p1 := Wds.put p0 1 ((ob + sb) % 4294967296) (show ((ob : Int) + (sb : Int)) % 4294967296 = (((ob + sb) % 4294967296 : Nat) : Int) by omega) rfl
                            have p2 := Wds.put p1 2 ((oc + sc) % 4294967296) (show ((oc : Int) + (sc : Int)) % 4294967296 = (((oc + sc) % 4294967296 : Nat) : Int) by omega) rfl
                            have p3 := Wds.put p2 3 ((od + sd) % 4294967296) (show ((od : Int) + (sd : Int)) % 4294967296 = (((od + sd) % 4294967296 : Nat) : Int) by omega) rfl
                            have p4 := Wds.put p3 4 ((oe + se) % 4294967296) (show ((oe : Int) + (se : Int)) % 4294967296 = (((oe + se) % 4294967296 : Nat) : Int) by omega) rfl
                            have p5 := Wds.put p4 5 ((of' + sf) % 4294967296) (show ((of' : Int) + (sf : Int)) % 4294967296 = (((of' + sf) % 4294967296 : Nat) : Int) by omega) rfl
                            have p6 := Wds.put p5 6 ((og + sg) % 4294967296) (show ((og : Int) + (sg : Int)) % 4294967296 = (((og + sg) % 4294967296 : Nat) : Int) by omega) rfl
                            have p7 := Wds.put p6 7 ((oh + sh) % 4294967296) (show ((oh : Int) + (sh : Int)) % 4294967296 = (((oh + sh) % 4294967296 : Nat) : Int) by omega) rfl
                            exact p7
                          · exact Wds.below (Wds.ext (Wds.ext hT.out HBL2.out) HBR.out) (Below.set8 (Below.refl gh wr) (Nat.le_refl _) _ _ _ _ _ _ _ _) (by omega)
                          · exact Rw.below (Rw.ext (Rw.ext hZ.out HBL2.out) HBR.out) (Below.set8 (Below.refl gh wr) (Nat.le_refl _) _ _ _ _ _ _ _ _) (by omega)
                          · exact Below.trans hBC.out (Below.set8 HBW0.out (Nat.le_refl _) _ _ _ _ _ _ _ _)
                          · exact Below.trans hX.out (Below.mono (Below.set8 HBW0.out (Nat.le_refl _) _ _ _ _ _ _ _ _) (by omega))
            · have hge : ¬ 64 * (bk : Int) < ((64 * nb : Nat) : Int) := by omega
              obtain ⟨sN, HSN⟩ : ∃ s, Hid (absorb start0 F = s) := ⟨_, hide rfl⟩
              have HHN : Hid (Wds wr gh 32 sN.list) := hide (by
                have e : bk = nb := by omega
                have h1 := HH.out
                rw [e] at h1
                rw [← HSN.out]
                unfold absorb
                rw [HNB.out, Nat.mul_div_cancel_left nb (by decide)]
                exact h1)
              have HOO : Hid (o = sN.out) := hide (by rw [HSHA.out, HSN.out])
              have hol : o.length = 32 := by rw [HOO.out]; rfl
              have HOL := hide hol
              obtain ⟨wz, hwz⟩ : ∃ x, x = wr := ⟨_, rfl⟩
              subst hwz
              obtain ⟨cs, HCS⟩ : ∃ cs : Array Value, Hid (cs = (bs (List.replicate 32 0)).toArray) := ⟨_, hide rfl⟩
              have HGL := hide (Rw.lt HH.out)
              clear hol HH hlt hbk
              go_wp2
              go_loopw [28] (fun i wr => ∃ p : Nat, p ≤ 32 ∧ i = .int .i64 (p : Int) ∧ Hid (Rw wr wz.heap.size 24 (bs (o.take p ++ List.replicate (32 - p) 0))) ∧ Hid (Wds wr gh 32 sN.list) ∧ Hid (Rw wr (g + 1) 24 (bs (List.replicate 32 0))) ∧ Hid (Ext wz wr)) (fun i _ => 32 - (intOf i).toNat)
              case atStart => exact ⟨0, by omega, rfl, hide (heap_alloc_new wz _), hide (Wds.ext HHN.out (Ext.alloc wz _)), hide (Rw.ext hZ.out (Ext.alloc wz _)), hide (Ext.alloc wz _)⟩
              clear HHN hZ
              case round =>
                obtain ⟨p, hp, rfl, HR, HH, hZ, hXZ⟩ := hrel
                by_cases hlp : p < 32
                · obtain ⟨k4, j4, hkj, hj4⟩ : ∃ k4 j4 : Nat, p = 4 * k4 + j4 ∧ j4 < 4 := ⟨p / 4, p % 4, by omega, by omega⟩
                  obtain ⟨x, hxk⟩ : ∃ x, sN.list[k4]? = some x := ⟨_, List.getElem?_eq_getElem (show k4 < 8 by omega)⟩
                  have HOG := hide (show o[p]? = some (b8n (x / 2 ^ (24 - 8 * j4))) by rw [HOO.out, hkj]; exact out_get sN k4 j4 x hj4 hxk)
                  have cx := HH.out.cell hxk
                  have q1 : (p : Int) / 4 = (k4 : Int) := by omega
                  have q2 : (p : Int) % 4 = (j4 : Int) := by omega
                  have hk8 : k4 < 8 := by omega
                  have HHP := hide hkj
                  obtain ⟨yy, hyy⟩ : ∃ y, (bs (o.take p ++ List.replicate (32 - p) 0))[p]? = some y := ⟨_, List.getElem?_eq_getElem (by rw [bs_length, List.length_append, List.length_take, List.length_replicate, HOL.out]; omega)⟩
                  have cy := Rw.cell HR.out hyy
                  have fy := Rw.frozen HR.out p
                  clear hxk hyy hkj
                  go_wp2
                  refine ⟨⟨p + 1, by omega, by go_num, hide ?_, hide ?_, hide ?_, hide ?_⟩, by simp [intOf]; omega⟩
                  · exact byte_step HR.out HOL.out HOG.out (word_byte x j4)
                  · exact Wds.far HH.out (by show gh ≠ wz.heap.size; have := HGL.out; omega) _
                  · exact Rw.far hZ.out (by show g + 1 ≠ wz.heap.size; have := HGL.out; omega) _
                  · exact Below.set hXZ.out (by show wz.heap.size ≤ wz.heap.size; exact Nat.le_refl _) _
                · have hge2 : ¬ (p : Int) < 32 := by omega
                  have HRF : Hid (Rw wr wz.heap.size 24 (bs o)) := hide (by
                    have e : p = 32 := by omega
                    have h1 := HR.out
                    rw [e, List.take_of_length_le (by rw [HOL.out]; exact Nat.le_refl _), show 32 - 32 = 0 from rfl, List.replicate_zero, List.append_nil] at h1
                    exact h1)
                  have HXW : Hid (Ext w wr) := hide (hX.out.trans hXZ.out)
                  clear HR hlp hp
                  go_wp2_with (first
                    | ((with_reducible show wpList _ _ _ (⟨some 293, .load _ _, _, _, _, _⟩ :: _) _ _);
                       refine wpList_load_rw rfl 24 (.tmp 27) rfl _ rfl 24 (bs o) HRF.out 32 5 Tryd.underlying24 (by kernel_rfl) (by rw [bs_length, HOL.out]) ?_)
                    | ((with_reducible show wpList _ _ _ (⟨none, .store _ (.tmp 4) _, _, _, _, _⟩ :: _) _ _);
                       refine wpList_store_rw rfl 24 (.tmp 4) (.tmp 293) rfl _ rfl (bs o) rfl 24 (bs (List.replicate 32 0)) hZ.out 32 (by kernel_rfl) (by rw [bs_length, HOL.out]) (by rw [bs_length, bs_length, HOL.out]; rfl) (List.all_eq_true.2 (bs_one _)) ?_;
                       intro w9 hr9 hl9))
                  exact ret_rw rfl rfl _ rfl _ _ hr9 32 5 Tryd.underlying24 (by kernel_rfl) (by rw [bs_length, HOL.out]) (Ret.mk (HXW.out.laid hl9 (by omega)) rfl)
    · have hk2 : k + 1 ≤ pn := by
        have h1 := pad_more l k (by rw [HPN.out]; exact hk) (by rw [HLN.out]; exact hgo)
        rw [HPN.out] at h1
        exact h1
      have hgo2 : ¬ (m : Int) % 64 = 56 := by omega
      have hsz := Below.size hbk
      have hsB : B ≤ wr.heap.size := Nat.le_trans hs1 hsz
      clear hgo hr9 hlc9
      go_wp2_with (at_builtin; refine wpList_push rfl (.tmp 39) (.tmp 40) rfl B _ _ rfl rfl HOk.out (by decide) (by decide) hsB (by rw [HLN.out]; omega) ?_; intro v6 w6 hown6 hb6; have HO6 : Hid (Own w6 B v6 (padS l (k + 1))) := hide (by rw [padS, List.replicate_succ', ← List.append_assoc]; exact hown6); clear hown6)
      obtain ⟨C6, c6, rfl, _, _⟩ := HO6.out.bytes
      refine ⟨⟨k + 1, hk2, HO6, Below.trans hbk hb6⟩, ?_⟩
      rw [padS_length, HN.out]
      show n + 100 - _ < n + 100 - _
      rw [HM.out]
      omega
end Go.Proofs.YtdllppaichlnaaaDoor
namespace Go.Proofs.YtdllppaichlnaaaDoor

theorem absorb_block (s : Sta) (blk : List UInt8) (h : blk.length = 64) : absorb s blk = mixedS s blk := by
  unfold absorb
  rw [h]
  show mixedS s ((blk.drop 0).take 64) = _
  rw [List.drop_zero, List.take_of_length_le (by omega)]
theorem sumS_full (s : Sta) (a : Nat) (l : List UInt8) : sumS s a l = (absorb s (padS l (padLen l.length) ++ be8 (8 * (a + l.length) % 18446744073709551616))).out := by
  unfold sumS
  have hw : (l.take (l.length - l.length % 64)).length = l.length - l.length % 64 := by simp
  rw [← absorb_append _ _ _ (by rw [hw]; omega)]
  congr 2
  unfold endingS padS
  have hd : (l.drop (l.length - l.length % 64)).length = l.length % 64 := by rw [List.length_drop]; omega
  rw [hd, padLen_mod]
  simp only [← List.append_assoc, List.take_append_drop]
theorem sha_block (blk p : List UInt8) (h : blk.length = 64) : sha (blk ++ p) = sumS (mixedS start0 blk) 64 p := by
  rw [sha_full, sumS_full, ← absorb_block _ _ h, ← absorb_append _ _ _ (by rw [h])]
  congr 2
  unfold fullS padS
  have e : padLen (64 + p.length) = padLen p.length := by unfold padLen; omega
  rw [List.length_append, h, e]
  simp only [List.append_assoc]
/-- HMAC by two digests. -/
theorem tag_sha (key p : List UInt8) : tagK key p = sha (xorB 92 (keyB key) ++ sha (xorB 54 (keyB key) ++ p)) := by
  have h1 : (xorB 54 (keyB key)).length = 64 := by rw [xorB, List.length_map, keyB_length]
  have h2 : (xorB 92 (keyB key)).length = 64 := by rw [xorB, List.length_map, keyB_length]
  rw [sha_block _ _ h2, sha_block _ _ h1]
  rfl
end Go.Proofs.YtdllppaichlnaaaDoor
namespace Go.Proofs.YtdllppaichlnaaaDoor
open Go.RowKit

/-- Their blocks are not the same one. -/
def Apart (u v : Value) : Prop := u.ownBlock = none ∨ u.ownBlock ≠ v.ownBlock
theorem Apart.of_self {u v : Value} (h : Apart u v) : Apart v u := by
  rcases h with h | h
  · rcases hvb : v.ownBlock with _ | g
    · exact .inl hvb
    · exact .inr (by rw [h, hvb]; exact fun e => by cases e)
  · exact .inr fun e => h e.symm
theorem run_cat_at (w : World) (base ty : Nat) (v : Value) (l m : List UInt8) (A : Option Addr) (c : Nat) (hown : Own w base v l) (hr : Rd w A m) (hbase : base ≤ w.heap.size) (hlen : l.length + m.length ≤ 140737488355328) :
    ∃ v' w', (Builtin.append_ #[37, 37] ty #[v, .slice A m.length c]).run Tryd.prog w = .ok v' w' ∧ Own w' base v' (l ++ m) ∧ Below base w w' ∧
      (∀ u k, Own w base u k → Apart u v → Own w' base u k ∧ Apart u v' ∧ Apart v' u) := by
  obtain ⟨i0, hi, hz0, hz1, hz2⟩ := info_parts info_u8
  rcases A with _ | a
  · have hm : m = [] := by
      cases m with
      | nil => rfl
      | cons x xs => obtain ⟨_, _, hA, _⟩ := hr (by simp); cases hA
    subst hm
    exact ⟨v, w, run_append_from_nil w base _ ty _ i0 1 Tryd.underlying37 hi v _ _ hown c, by rw [List.append_nil]; exact hown, Below.refl _ _, fun u k hu hap => ⟨hu, hap, hap.of_self⟩⟩
  have hcells : ∀ j u, (bs m)[j]? = some u → w.cell? (a.add j) = some u := by
    intro j u hu
    by_cases hn : m = []
    · subst hn; simp [bs] at hu
    · exact hr.cells rfl hn j u hu
  obtain ⟨v', w', hrun, h2, h3, _, hat⟩ := run_append_own_at (P := Tryd.prog) w base 37 ty 5 i0 _ 1 1 Tryd.underlying37 hi hz0 hz1 hz2 rfl (by decide) v _ _ hown a m.length c (bs m) (by rw [bs_length]; simp)
    hcells (bs_one m) (by unfold maxLen; omega) (by omega) hbase
  refine ⟨v', w', hrun, ?_, (Below.refl _ _).grown h3 hbase (fun k hk => (hown.lt k hk).1), fun u k hu hap => ⟨World.ownsRow.kept hu h3 hap, ?_⟩⟩
  · unfold Own
    rw [bs_append, List.length_append]
    exact h2
  · have hlt := World.ownsRow.lt hu
    have key : u.ownBlock = none ∨ u.ownBlock ≠ v'.ownBlock := by
      rcases hat with e | e
      · rw [e]; exact hap
      · rcases hub : u.ownBlock with _ | g
        · exact .inl rfl
        · refine .inr fun e2 => ?_
          rw [e] at e2
          have h1 := (hlt g hub).2
          have h2 : g = w.heap.size := Option.some.inj e2
          omega
    refine ⟨key, ?_⟩
    rcases key with h | h
    · rcases hvb : v'.ownBlock with _ | g
      · exact .inl hvb
      · exact .inr (by rw [h, hvb]; exact fun e => by cases e)
    · exact .inr fun e => h e.symm
section
variable {ops : Array Oper} {rest : List Oper} {o : Oper} {a : Act} {Q : Exit → Act → World → Prop}
theorem wpList_push_at {w0 : World} {n : Int} (hgd : Region.wanted o (yielded ops a.tmps) = true) (s x : Operand) (ho : o.op = .call { callee := .builtin .append, args := #[s, x], argTypes := #[37, 37] })
    (base : Nat) (v : Value) (l : List UInt8) (hs : a.eval s = v) (hx : a.eval x = .slice (some ⟨w0.heap.size, 0, none⟩) 1 1) (hown : Own w0 base v l) (h0 : 0 ≤ n) (h1 : n < 256) (hbase : base ≤ w0.heap.size) (hlen : l.length < 140737488355328)
    (h : ∀ v' w', Own w' base v' (l ++ [b8 n]) → Below base w0 w' → (∀ u k, Own w0 base u k → Apart u v → Own w' base u k ∧ Apart u v' ∧ Apart v' u) → wpList Tryd.prog ops Q rest (a.put o.dst v') w') : wpList Tryd.prog ops Q (o :: rest) a (w0.alloc (.cells #[.int .u8 n] 5)) := by
  obtain ⟨v', w', hrun, h2, h3, h4⟩ := run_cat_at (w0.alloc (.cells #[.int .u8 n] 5)) base o.type v l [b8 n] (some ⟨w0.heap.size, 0, none⟩) 1 (hown.alloc _) (Rd.one w0 _ n h0 h1) (by simp; omega) (by simp; omega)
  refine wpList_wanted hgd fun K hK => ?_
  unfold Oper.wp execOp
  simp only [List.length_singleton] at hrun
  simp only [ho, resolve, invoke, builtin, Sem.run_bind, Sem.run_pure, Result.andThen_ok, List.map_toArray, List.map_cons, List.map_nil, hs, hx, hrun]
  exact hK _ _ (h v' w' h2 (((Below.refl base w0).alloc hbase _).trans h3) fun u k hu => h4 u k (hu.alloc _))
theorem wpList_cat_at {w : World} (hgd : Region.wanted o (yielded ops a.tmps) = true) (s x : Operand) (ho : o.op = .call { callee := .builtin .append, args := #[s, x], argTypes := #[37, 37] })
    (base : Nat) (v : Value) (l m : List UInt8) (A : Option Addr) (n c : Nat) (hs : a.eval s = v) (hx : a.eval x = .slice A n c) (hn : n = m.length) (hown : Own w base v l) (hr : Rd w A m) (hbase : base ≤ w.heap.size) (hlen : l.length + m.length ≤ 140737488355328)
    (h : ∀ v' w', Own w' base v' (l ++ m) → Below base w w' → (∀ u k, Own w base u k → Apart u v → Own w' base u k ∧ Apart u v' ∧ Apart v' u) → wpList Tryd.prog ops Q rest (a.put o.dst v') w') : wpList Tryd.prog ops Q (o :: rest) a w := by
  subst hn
  obtain ⟨v', w', hrun, h2, h3, h4⟩ := run_cat_at w base o.type v l m A c hown hr hbase hlen
  refine wpList_wanted hgd fun K hK => ?_
  unfold Oper.wp execOp
  simp only [ho, resolve, invoke, builtin, Sem.run_bind, Sem.run_pure, Result.andThen_ok, List.map_toArray, List.map_cons, List.map_nil, hs, hx, hrun]
  exact hK _ _ (h v' w' h2 h3 h4)
end
end Go.Proofs.YtdllppaichlnaaaDoor
namespace Go.Proofs.YtdllppaichlnaaaDoor
open Go.RowKit

theorem xorB_next (p : UInt8) (l : List UInt8) (i : Nat) (x : UInt8) (hx : l[i]? = some x) : xorB p (l.take (i + 1)) = xorB p (l.take i) ++ [x ^^^ p] := by
  unfold xorB
  rw [List.take_add_one, hx]
  simp
theorem byte_xor (x : UInt8) (p : Nat) (hp : p < 256) : b8 ((x.toNat ^^^ p : Nat) : Int) = x ^^^ UInt8.ofNat p := by
  apply UInt8.toNat_inj.1
  rw [UInt8.toNat_xor, UInt8.toNat_ofNat', Nat.mod_eq_of_lt (show p < 2 ^ 8 from hp)]
  have h : x.toNat ^^^ p < 256 := Nat.xor_lt_two_pow (n := 8) x.toNat_lt hp
  have h2 := b8_toNat (n := ((x.toNat ^^^ p : Nat) : Int)) (by omega) (by omega)
  omega
theorem keyB_small (key : List UInt8) (h : ¬ 64 < key.length) : keyB key = key ++ List.replicate (64 - key.length) 0 := by unfold keyB; rw [if_neg h]
theorem keyB_big (key : List UInt8) (h : 64 < key.length) : keyB key = sha key ++ List.replicate 32 0 := by unfold keyB; rw [if_pos h]

set_option maxRecDepth 20000 in
set_option maxHeartbeats 6400000 in
theorem rtag_any (tb : List Nat) (htb : Hid (tb = startW ++ roundW)) (A B0 : Option Addr) (c d : Nat) (key p : List UInt8) (w : World) (hA : Rd w A key) (hP : Rd w B0 p) (hk : key.length ≤ 140737488340000) (hp : p.length ≤ 140737488340000) :
    Calls Tryd.prog 20 #[.agg (us tb).toArray, .slice A key.length c, .slice B0 p.length d] w (Ret w (Is (.agg (bs (tagK key p)).toArray))) := by
  obtain ⟨nk, HNK⟩ : ∃ n, Hid (key.length = n) := ⟨_, hide rfl⟩
  obtain ⟨np, HNP⟩ : ∃ n, Hid (p.length = n) := ⟨_, hide rfl⟩
  obtain ⟨kb, HKB⟩ : ∃ k, Hid (keyB key = k) := ⟨_, hide rfl⟩
  have HKL : Hid (kb.length = 64) := hide (by rw [← HKB.out]; exact keyB_length key)
  obtain ⟨q1, HQ1⟩ : ∃ q, Hid (xorB 54 kb ++ p = q) := ⟨_, hide rfl⟩
  obtain ⟨o1, HO1⟩ : ∃ o, Hid (sha q1 = o) := ⟨_, hide rfl⟩
  have HL1 : Hid (o1.length = 32) := hide (by rw [← HO1.out]; rfl)
  obtain ⟨q2, HQ2⟩ : ∃ q, Hid (xorB 92 kb ++ o1 = q) := ⟨_, hide rfl⟩
  obtain ⟨o2, HO2⟩ : ∃ o, Hid (sha q2 = o) := ⟨_, hide rfl⟩
  have HL2 : Hid (o2.length = 32) := hide (by rw [← HO2.out]; rfl)
  have HT : Hid (tagK key p = o2) := hide (by rw [tag_sha, HKB.out, HQ1.out, HO1.out, HQ2.out, HO2.out])
  have HPS := hide hp
  have HQ1L : Hid (q1.length ≤ 140737488350000) := hide (by rw [← HQ1.out]; simp only [xorB, List.length_append, List.length_map, HKL.out]; omega)
  have HQ2L : Hid (q2.length ≤ 140737488350000) := hide (by rw [← HQ2.out]; simp only [xorB, List.length_append, List.length_map, HKL.out, HL1.out]; omega)
  have HKS := hide hk
  have KR := hide fun (C : Option Addr) (e : Nat) (q : List UInt8) W (h : Rd W C q) (hl : q.length ≤ 140737488350000) => rsum_any tb htb C e q W h hl
  rw [HT.out, HNK.out, HNP.out]
  by_cases hbig : 64 < key.length
  · have hbi : (64 : Int) < (nk : Int) := by rw [← HNK.out]; omega
    obtain ⟨ok, HOK⟩ : ∃ o, Hid (sha key = o) := ⟨_, hide rfl⟩
    have HOKL : Hid (ok.length = 32) := hide (by rw [← HOK.out]; rfl)
    have HKK : Hid (kb = ok ++ List.replicate 32 0) := hide (by rw [← HKB.out, keyB_big key hbig, HOK.out])
    have KR0 := hide fun W (h : Ext w W) => (show Calls Tryd.prog 33 #[.agg (us tb).toArray, .slice A nk c] W (Ret W (Is (.agg (bs ok).toArray))) from (by
      have h3 := KR.out A c key W (hA.ext h) (by omega)
      rw [HOK.out, HNK.out] at h3
      exact h3))
    clear hbig hk hp
    go_enter Tryd.func20, Tryd.ntmps20
    go_wp2_with (first
      | ((with_reducible show wpList _ _ _ (⟨some 16, .load _ _, _, _, _, _⟩ :: _) _ _);
         refine wpList_load_row rfl 35 (.tmp 3) rfl w.heap.size rfl 35 (us tb).toArray (0, 0) _ (heap_alloc2_old w _ _) Tryd.underlying35 rfl (by rw [List.size_toArray, us_length, htb.out]; kernel_rfl) ?_)
      | (go_at_call 33; refine (KR0.out _ ((Ext.alloc w _).trans (Ext.alloc _ _))).mono ?_; rintro e w1 ⟨v1, rfl, hw1, rfl⟩;
         have hT1 : Hid (Wds w1 w.heap.size 35 tb) := hide (Wds.ext (heap_alloc2_old w _ _) hw1);
         have hZ1 : Hid (Rw w1 (w.heap.size + 1) 24 (bs (List.replicate 32 0))) := hide (Rw.ext (heap_alloc2_new w _ _) hw1);
         have hx1 : Ext w w1 := ((Ext.alloc w _).trans (Ext.alloc _ _)).trans hw1;
         have hs1 : w.heap.size + 2 ≤ w1.heap.size := by (have := hw1.size; simpa using this))
      | ((with_reducible show wpList _ _ _ (⟨none, .store _ (.tmp 8) _, _, _, _, _⟩ :: _) _ _);
         refine wpList_store_rw rfl 24 (.tmp 8) (.tmp 18) rfl _ rfl (bs ok) rfl 24 (bs (List.replicate 32 0)) (heap_alloc_new w1 _) 32 (by kernel_rfl) (by rw [bs_length, HOKL.out]) (by rw [bs_length, bs_length, HOKL.out]; rfl) (List.all_eq_true.2 (bs_one _)) ?_;
         intro w2 hr2 hl2;
         have hT2 : Hid (Wds w2 w.heap.size 35 tb) := hide (Wds.other (Wds.ext hT1.out (Ext.alloc _ _)) hl2 (by omega));
         have hZ2 : Hid (Rw w2 (w.heap.size + 1) 24 (bs (List.replicate 32 0))) := hide (Rw.other (Rw.ext hZ1.out (Ext.alloc _ _)) hl2 (by omega));
         have hx2 : Ext w w2 := (hx1.trans (Ext.alloc _ _)).laid hl2 hx1.size;
         have hs2 : w.heap.size + 2 ≤ w2.heap.size := by (have := hl2.below.size; simp at this; omega))
      | (at_builtin; refine wpList_cat rfl (.tmp 19) (.tmp 20) rfl (w.heap.size + 2) _ [] ok _ 32 32 rfl rfl HOKL.out.symm (Own.nil _ _) (Rw.rd hr2) hs2 (by simp; rw [HOKL.out]; decide) ?_; intro v3 w3 hown3 hb3; rw [List.nil_append] at hown3;
         have hT3 : Hid (Wds w3 w.heap.size 35 tb) := hide (Wds.below hT2.out hb3 (by omega));
         have hZ3 : Hid (Rw w3 (w.heap.size + 1) 24 (bs (List.replicate 32 0))) := hide (Rw.below hZ2.out hb3 (by omega));
         have hx3 : Ext w w3 := Below.trans hx2 (Below.mono hb3 (by omega));
         have hs3 : w.heap.size + 2 ≤ w3.heap.size := by (have := hb3.size; omega);
         have HO3 := hide hown3; clear hown3))
    have HKF : Hid (∀ j, ok.length + j = 64 → ok ++ List.replicate j 0 = kb) := hide fun j hj => by rw [HKK.out, show j = 32 by have := HOKL.out; omega]
    have HK64 : Hid (ok.length ≤ 64) := hide (by rw [HOKL.out]; decide)
    obtain ⟨B, hB⟩ : ∃ B, B = w.heap.size + 2 := ⟨_, rfl⟩
    obtain ⟨g, hg⟩ : ∃ g, g = w.heap.size := ⟨_, rfl⟩
    rw [← hB] at hb3 HO3 hs3
    rw [← hg] at hT3 hZ3 ⊢
    have hgl : w.heap.size ≤ g ∧ g + 1 < B := by omega
    have HX3 := hide hx3
    clear hB hg hx3 hb3
    go_loopw [7] (fun v wr => ∃ j : Nat, ok.length + j ≤ 64 ∧ Hid (Own wr B v (ok ++ List.replicate j 0)) ∧ Below B w3 wr) (fun v _ => match v with | .slice _ m _ => 1000 - m | _ => 0)
    case atStart => exact ⟨0, by have := HK64.out; omega, hide (by rw [List.replicate_zero, List.append_nil]; exact HO3.out), Below.refl _ _⟩
    clear HO3
    case round =>
      obtain ⟨j, hj, HOj, hbj⟩ := hrel
      obtain ⟨C, c9, rfl, hlc9, hr9⟩ := HOj.out.bytes
      obtain ⟨m, HM⟩ : ∃ m, Hid ((ok ++ List.replicate j (0 : UInt8)).length = m) := ⟨_, hide rfl⟩
      have HML : Hid (ok.length + j = m) := hide (by rw [← HM.out]; simp)
      rw [HM.out] at HOj hlc9 ⊢
      rw [HML.out] at hj
      obtain ⟨wb, hwb⟩ : ∃ x, x = wr := ⟨_, rfl⟩
      subst hwb
      have hsB : B ≤ wb.heap.size := Nat.le_trans hs3 (Below.size hbj)
      by_cases hgo : m < 64
      · have hgo2 : (m : Int) < 64 := by omega
        clear hr9 hlc9
        go_wp2_with (at_builtin; refine wpList_push rfl (.tmp 28) (.tmp 29) rfl B _ _ rfl rfl HOj.out (by decide) (by decide) hsB (by rw [HM.out]; omega) ?_; intro v6 w6 hown6 hb6; have HO6 : Hid (Own w6 B v6 (ok ++ List.replicate (j + 1) 0)) := hide (by rw [List.replicate_succ', ← List.append_assoc]; exact hown6); clear hown6)
        obtain ⟨C6, c6, rfl, _, _⟩ := HO6.out.bytes
        refine ⟨⟨j + 1, by have := HML.out; omega, HO6, Below.trans hbj hb6⟩, ?_⟩
        show 1000 - (ok ++ List.replicate (j + 1) (0 : UInt8)).length < 1000 - m
        rw [List.length_append, List.length_replicate]
        have := HML.out
        omega
      · have hgo2 : ¬ (m : Int) < 64 := by omega
        have hk2 : ok ++ List.replicate j 0 = kb := HKF.out j (by have := HML.out; omega)
        rw [hk2] at hr9
        have HR9 := hide hr9
        have HTb : Hid (Wds wb g 35 tb) := hide (Wds.below hT3.out hbj (by omega))
        have HZb : Hid (Rw wb (g + 1) 24 (bs (List.replicate 32 0))) := hide (Rw.below hZ3.out hbj (by omega))
        have HXb : Hid (Ext w wb) := hide (Below.trans HX3.out (Below.mono hbj (by omega)))
        clear hr9 hk2 HOj
        have hm64 : 64 ≤ m := by omega
        go_wp2
        go_loopw [9, 10, 11] (fun vi vo i wr => ∃ a : Nat, a ≤ 64 ∧ i = .int .i64 (a : Int) ∧ Hid (Own wr wb.heap.size vi (xorB 54 (kb.take a))) ∧ Hid (Own wr wb.heap.size vo (xorB 92 (kb.take a))) ∧ Hid (Apart vi vo) ∧ Hid (Ext wb wr)) (fun _ _ i _ => 64 - (intOf i).toNat)
        case atStart => exact ⟨0, by omega, rfl, hide (Own.nil _ _), hide (Own.nil _ _), hide (.inl rfl), hide (Ext.refl _)⟩
        case round =>
          obtain ⟨a, ha, rfl, HI, HU, HAP, HX⟩ := hrel
          by_cases hla : a < 64
          · obtain ⟨b9, off9, x, rfl, hxa, hcx0⟩ := HR9.out.at (k := a) (by rw [HKL.out]; exact hla)
            have hcx := (Ext.keeps HX.out).cell hcx0
            have HC0 := hide hcx0
            have HXA := hide hxa
            have hla2 : (a : Int) < (m : Int) := by omega
            have hla3 : (a : Int) < 64 := by omega
            have hla4 : a < m := by omega
            have hx2 := x.toNat_lt
            have e1 : bits .xor .u8 (x.toNat : Int) 54 = ((x.toNat ^^^ 54 : Nat) : Int) := u8_xor_nat x.toNat 54 (by omega) (by decide)
            have e2 : bits .xor .u8 (x.toNat : Int) 92 = ((x.toNat ^^^ 92 : Nat) : Int) := u8_xor_nat x.toNat 92 (by omega) (by decide)
            have z1 : x.toNat ^^^ 54 < 256 := Nat.xor_lt_two_pow (n := 8) x.toNat_lt (by decide)
            have z2 : x.toNat ^^^ 92 < 256 := Nat.xor_lt_two_pow (n := 8) x.toNat_lt (by decide)
            have HLI : Hid ((xorB 54 (kb.take a)).length < 140737488355328 ∧ (xorB 92 (kb.take a)).length < 140737488355328) := hide (by simp only [xorB, List.length_map, List.length_take]; omega)
            have hsx := HX.out.size
            clear hcx0 hxa
            go_wp2_with (first
              | (at_builtin; refine wpList_push_at rfl (.tmp 35) (.tmp 41) rfl wb.heap.size _ _ rfl rfl HI.out (by omega) (by omega) hsx HLI.out.1 ?_; intro v6 w6 hown6 hb6 hk6;
                 obtain ⟨hU6, hap6, hap6'⟩ := hk6 _ _ HU.out HAP.out.of_self;
                 have HI6 := hide hown6; have HU6 := hide hU6; have HAP6 := hide hap6'; have HAQ6 := hide hap6;
                 have HX6 : Hid (Ext wb w6) := hide (Below.trans HX.out hb6);
                 have hs6 := HX6.out.size;
                 have hcx6 := (Ext.keeps HX6.out).cell HC0.out;
                 clear hown6 hb6 hk6 hU6 hap6 hap6')
              | (at_builtin; refine wpList_push_at rfl (.tmp 43) (.tmp 49) rfl wb.heap.size _ _ rfl rfl HU6.out (by omega) (by omega) hs6 HLI.out.2 ?_; intro v7 w7 hown7 hb7 hk7;
                 obtain ⟨hI7, hap7, hap7'⟩ := hk7 _ _ HI6.out HAP6.out;
                 have HX7 : Hid (Ext wb w7) := hide (Below.trans HX6.out hb7)))
            refine ⟨⟨a + 1, by omega, by go_num, hide ?_, hide ?_, hide hap7, HX7⟩, by simp [intOf]; omega⟩
            · rw [xorB_next 54 kb a x HXA.out, ← show b8 ((x.toNat ^^^ 54 : Nat) : Int) = x ^^^ 54 from byte_xor x 54 (by decide)]; exact hI7
            · rw [xorB_next 92 kb a x HXA.out, ← show b8 ((x.toNat ^^^ 92 : Nat) : Int) = x ^^^ 92 from byte_xor x 92 (by decide)]; exact hown7
          · have hge2 : ¬ (a : Int) < 64 := by omega
            have ea : a = 64 := by omega
            have hI := HI.out
            have hU := HU.out
            rw [ea, List.take_of_length_le (by rw [HKL.out]; exact Nat.le_refl _)] at hI hU
            have HI2 := hide hI
            have HU2 := hide hU
            have HLX : Hid ((xorB 54 kb).length = 64 ∧ (xorB 92 kb).length = 64) := hide (by simp only [xorB, List.length_map, HKL.out, and_self])
            have hsx := HX.out.size
            clear hI hU HI HU ea hla ha
            go_wp2_with (first
              | (at_builtin; refine wpList_cat_at rfl (.tmp 51) (.tmp 52) rfl wb.heap.size _ _ p B0 np d rfl rfl HNP.out.symm HI2.out ((hP.ext HXb.out).ext HX.out) hsx (by rw [HLX.out.1]; have := HPS.out; omega) ?_; intro v6 w6 hown6 hb6 hk6; rw [HQ1.out] at hown6;
                 obtain ⟨hU6, _, _⟩ := hk6 _ _ HU2.out HAP.out.of_self;
                 have HU6 := hide hU6;
                 have HX6 : Hid (Ext wb w6) := hide (Below.trans HX.out hb6);
                 have HT6 : Hid (Wds w6 g 35 tb) := hide (Wds.ext HTb.out HX6.out);
                 have HZ6 : Hid (Rw w6 (g + 1) 24 (bs (List.replicate 32 0))) := hide (Rw.ext HZb.out HX6.out);
                 obtain ⟨C6, c6, rfl, hlc6, hr6⟩ := Own.bytes hown6;
                 have HR6 := hide hr6; have HLC6 := hide hlc6;
                 clear hown6 hb6 hk6 hU6 hr6 hlc6)
              | ((with_reducible show wpList _ _ _ (⟨some 54, .load _ _, _, _, _, _⟩ :: _) _ _);
                 refine wpList_load_row rfl 35 (.tmp 3) rfl g rfl 35 (us tb).toArray (0, 0) _ HT6.out Tryd.underlying35 rfl (by rw [List.size_toArray, us_length, htb.out]; kernel_rfl) ?_)
              | (go_at_call 33; (with_reducible refine (KR.out C6 c6 q1 _ HR6.out HQ1L.out).mono ?_); rw [HO1.out]; rintro e w7 ⟨v7, rfl, hw7, rfl⟩;
                 have HU7 : Hid (Own w7 wb.heap.size _ (xorB 92 kb)) := hide (HU6.out.ext hw7);
                 have HX7 : Hid (Ext wb w7) := hide (HX6.out.trans hw7);
                 have HT7 : Hid (Wds w7 g 35 tb) := hide (Wds.ext HT6.out hw7);
                 have HZ7 : Hid (Rw w7 (g + 1) 24 (bs (List.replicate 32 0))) := hide (Rw.ext HZ6.out hw7))
              | ((with_reducible show wpList _ _ _ (⟨none, .store _ (.tmp 12) _, _, _, _, _⟩ :: _) _ _);
                 refine wpList_store_rw rfl 24 (.tmp 12) (.tmp 56) rfl _ rfl (bs o1) rfl 24 (bs (List.replicate 32 0)) (heap_alloc_new w7 _) 32 (by kernel_rfl) (by rw [bs_length, HL1.out]) (by rw [bs_length, bs_length, HL1.out]; rfl) (List.all_eq_true.2 (bs_one _)) ?_;
                 intro w8 hr8 hl8;
                 have hw8 : Ext w7 w8 := (Ext.alloc w7 _).laid hl8 (Nat.le_refl _);
                 have HU8 : Hid (Own w8 wb.heap.size _ (xorB 92 kb)) := hide (HU7.out.ext hw8);
                 have HX8 : Hid (Ext wb w8) := hide (HX7.out.trans hw8);
                 have HT8 : Hid (Wds w8 g 35 tb) := hide (Wds.ext HT7.out hw8);
                 have HZ8 : Hid (Rw w8 (g + 1) 24 (bs (List.replicate 32 0))) := hide (Rw.ext HZ7.out hw8);
                 have hs8 := HX8.out.size)
              | (at_builtin; refine wpList_cat rfl (.tmp 57) (.tmp 58) rfl wb.heap.size _ _ o1 _ 32 32 rfl rfl HL1.out.symm HU8.out (Rw.rd hr8) hs8 (by rw [HLX.out.2, HL1.out]; decide) ?_; intro v9 w9 hown9 hb9; rw [HQ2.out] at hown9;
                 have HX9 : Hid (Ext wb w9) := hide (Below.trans HX8.out hb9);
                 have HT9 : Hid (Wds w9 g 35 tb) := hide (Wds.ext HTb.out HX9.out);
                 have HZ9 : Hid (Rw w9 (g + 1) 24 (bs (List.replicate 32 0))) := hide (Rw.ext HZb.out HX9.out);
                 obtain ⟨C9, c10, rfl, hlc10, hr10⟩ := Own.bytes hown9;
                 have HR10 := hide hr10;
                 clear hown9 hb9 hr10 hlc10)
              | ((with_reducible show wpList _ _ _ (⟨some 60, .load _ _, _, _, _, _⟩ :: _) _ _);
                 refine wpList_load_row rfl 35 (.tmp 3) rfl g rfl 35 (us tb).toArray (0, 0) _ HT9.out Tryd.underlying35 rfl (by rw [List.size_toArray, us_length, htb.out]; kernel_rfl) ?_)
              | (go_at_call 33; (with_reducible refine (KR.out C9 c10 q2 _ HR10.out HQ2L.out).mono ?_); rw [HO2.out]; rintro e w10 ⟨v10, rfl, hw10, rfl⟩)
              | ((with_reducible show wpList _ _ _ (⟨none, .store _ (.tmp 6) _, _, _, _, _⟩ :: _) _ _);
                 refine wpList_store_rw rfl 24 (.tmp 6) (.tmp 62) rfl _ rfl (bs o2) rfl 24 (bs (List.replicate 32 0)) (Rw.ext HZ9.out hw10) 32 (by kernel_rfl) (by rw [bs_length, HL2.out]) (by rw [bs_length, bs_length, HL2.out]; rfl) (List.all_eq_true.2 (bs_one _)) ?_;
                 intro w11 hr11 hl11))
            exact ret_rw rfl rfl _ rfl _ _ hr11 32 5 Tryd.underlying24 (by kernel_rfl) (by rw [bs_length, HL2.out]) (Ret.mk (((HXb.out.trans HX9.out).trans hw10).laid hl11 (by omega)) rfl)
  · have hbi : ¬ (64 : Int) < (nk : Int) := by rw [← HNK.out]; omega
    have HK64 : Hid (key.length ≤ 64) := hide (by omega)
    have HKF : Hid (∀ j, key.length + j = 64 → key ++ List.replicate j 0 = kb) := hide fun j hj => by rw [← HKB.out, keyB_small key hbig, show j = 64 - key.length by omega]
    clear hbig hk hp
    go_enter Tryd.func20, Tryd.ntmps20
    go_wp2_with (first
      | (at_builtin; refine wpList_cat rfl (.tmp 22) (.tmp 23) rfl (w.heap.size + 2) _ [] key A nk c rfl rfl HNK.out.symm (Own.nil _ _) ((hA.ext (Ext.alloc _ _)).ext (Ext.alloc _ _)) (by simp) (by simp; have := HK64.out; omega) ?_; intro v3 w3 hown3 hb3; rw [List.nil_append] at hown3;
         have hT3 : Hid (Wds w3 w.heap.size 35 tb) := hide (Wds.below (heap_alloc2_old w _ _) hb3 (by omega));
         have hZ3 : Hid (Rw w3 (w.heap.size + 1) 24 (bs (List.replicate 32 0))) := hide (Rw.below (heap_alloc2_new w _ _) hb3 (by omega));
         have hx3 : Ext w w3 := Below.trans ((Ext.alloc w _).trans (Ext.alloc _ _)) (Below.mono hb3 (by omega));
         have hs3 : w.heap.size + 2 ≤ w3.heap.size := by (have := hb3.size; simpa using this);
         have HO3 := hide hown3; clear hown3))
    obtain ⟨B, hB⟩ : ∃ B, B = w.heap.size + 2 := ⟨_, rfl⟩
    obtain ⟨g, hg⟩ : ∃ g, g = w.heap.size := ⟨_, rfl⟩
    rw [← hB] at hb3 HO3 hs3
    rw [← hg] at hT3 hZ3 ⊢
    have hgl : w.heap.size ≤ g ∧ g + 1 < B := by omega
    have HX3 := hide hx3
    clear hB hg hx3 hb3
    go_loopw [7] (fun v wr => ∃ j : Nat, key.length + j ≤ 64 ∧ Hid (Own wr B v (key ++ List.replicate j 0)) ∧ Below B w3 wr) (fun v _ => match v with | .slice _ m _ => 1000 - m | _ => 0)
    case atStart => exact ⟨0, by have := HK64.out; omega, hide (by rw [List.replicate_zero, List.append_nil]; exact HO3.out), Below.refl _ _⟩
    clear HO3
    case round =>
      obtain ⟨j, hj, HOj, hbj⟩ := hrel
      obtain ⟨C, c9, rfl, hlc9, hr9⟩ := HOj.out.bytes
      obtain ⟨m, HM⟩ : ∃ m, Hid ((key ++ List.replicate j (0 : UInt8)).length = m) := ⟨_, hide rfl⟩
      have HML : Hid (key.length + j = m) := hide (by rw [← HM.out]; simp)
      rw [HM.out] at HOj hlc9 ⊢
      rw [HML.out] at hj
      obtain ⟨wb, hwb⟩ : ∃ x, x = wr := ⟨_, rfl⟩
      subst hwb
      have hsB : B ≤ wb.heap.size := Nat.le_trans hs3 (Below.size hbj)
      by_cases hgo : m < 64
      · have hgo2 : (m : Int) < 64 := by omega
        clear hr9 hlc9
        go_wp2_with (at_builtin; refine wpList_push rfl (.tmp 28) (.tmp 29) rfl B _ _ rfl rfl HOj.out (by decide) (by decide) hsB (by rw [HM.out]; omega) ?_; intro v6 w6 hown6 hb6; have HO6 : Hid (Own w6 B v6 (key ++ List.replicate (j + 1) 0)) := hide (by rw [List.replicate_succ', ← List.append_assoc]; exact hown6); clear hown6)
        obtain ⟨C6, c6, rfl, _, _⟩ := HO6.out.bytes
        refine ⟨⟨j + 1, by have := HML.out; omega, HO6, Below.trans hbj hb6⟩, ?_⟩
        show 1000 - (key ++ List.replicate (j + 1) (0 : UInt8)).length < 1000 - m
        rw [List.length_append, List.length_replicate]
        have := HML.out
        omega
      · have hgo2 : ¬ (m : Int) < 64 := by omega
        have hk2 : key ++ List.replicate j 0 = kb := HKF.out j (by have := HML.out; omega)
        rw [hk2] at hr9
        have HR9 := hide hr9
        have HTb : Hid (Wds wb g 35 tb) := hide (Wds.below hT3.out hbj (by omega))
        have HZb : Hid (Rw wb (g + 1) 24 (bs (List.replicate 32 0))) := hide (Rw.below hZ3.out hbj (by omega))
        have HXb : Hid (Ext w wb) := hide (Below.trans HX3.out (Below.mono hbj (by omega)))
        clear hr9 hk2 HOj
        have hm64 : 64 ≤ m := by omega
        go_wp2
        go_loopw [9, 10, 11] (fun vi vo i wr => ∃ a : Nat, a ≤ 64 ∧ i = .int .i64 (a : Int) ∧ Hid (Own wr wb.heap.size vi (xorB 54 (kb.take a))) ∧ Hid (Own wr wb.heap.size vo (xorB 92 (kb.take a))) ∧ Hid (Apart vi vo) ∧ Hid (Ext wb wr)) (fun _ _ i _ => 64 - (intOf i).toNat)
        case atStart => exact ⟨0, by omega, rfl, hide (Own.nil _ _), hide (Own.nil _ _), hide (.inl rfl), hide (Ext.refl _)⟩
        case round =>
          obtain ⟨a, ha, rfl, HI, HU, HAP, HX⟩ := hrel
          by_cases hla : a < 64
          · obtain ⟨b9, off9, x, rfl, hxa, hcx0⟩ := HR9.out.at (k := a) (by rw [HKL.out]; exact hla)
            have hcx := (Ext.keeps HX.out).cell hcx0
            have HC0 := hide hcx0
            have HXA := hide hxa
            have hla2 : (a : Int) < (m : Int) := by omega
            have hla3 : (a : Int) < 64 := by omega
            have hla4 : a < m := by omega
            have hx2 := x.toNat_lt
            have e1 : bits .xor .u8 (x.toNat : Int) 54 = ((x.toNat ^^^ 54 : Nat) : Int) := u8_xor_nat x.toNat 54 (by omega) (by decide)
            have e2 : bits .xor .u8 (x.toNat : Int) 92 = ((x.toNat ^^^ 92 : Nat) : Int) := u8_xor_nat x.toNat 92 (by omega) (by decide)
            have z1 : x.toNat ^^^ 54 < 256 := Nat.xor_lt_two_pow (n := 8) x.toNat_lt (by decide)
            have z2 : x.toNat ^^^ 92 < 256 := Nat.xor_lt_two_pow (n := 8) x.toNat_lt (by decide)
            have HLI : Hid ((xorB 54 (kb.take a)).length < 140737488355328 ∧ (xorB 92 (kb.take a)).length < 140737488355328) := hide (by simp only [xorB, List.length_map, List.length_take]; omega)
            have hsx := HX.out.size
            clear hcx0 hxa
            go_wp2_with (first
              | (at_builtin; refine wpList_push_at rfl (.tmp 35) (.tmp 41) rfl wb.heap.size _ _ rfl rfl HI.out (by omega) (by omega) hsx HLI.out.1 ?_; intro v6 w6 hown6 hb6 hk6;
                 obtain ⟨hU6, hap6, hap6'⟩ := hk6 _ _ HU.out HAP.out.of_self;
                 have HI6 := hide hown6; have HU6 := hide hU6; have HAP6 := hide hap6'; have HAQ6 := hide hap6;
                 have HX6 : Hid (Ext wb w6) := hide (Below.trans HX.out hb6);
                 have hs6 := HX6.out.size;
                 have hcx6 := (Ext.keeps HX6.out).cell HC0.out;
                 clear hown6 hb6 hk6 hU6 hap6 hap6')
              | (at_builtin; refine wpList_push_at rfl (.tmp 43) (.tmp 49) rfl wb.heap.size _ _ rfl rfl HU6.out (by omega) (by omega) hs6 HLI.out.2 ?_; intro v7 w7 hown7 hb7 hk7;
                 obtain ⟨hI7, hap7, hap7'⟩ := hk7 _ _ HI6.out HAP6.out;
                 have HX7 : Hid (Ext wb w7) := hide (Below.trans HX6.out hb7)))
            refine ⟨⟨a + 1, by omega, by go_num, hide ?_, hide ?_, hide hap7, HX7⟩, by simp [intOf]; omega⟩
            · rw [xorB_next 54 kb a x HXA.out, ← show b8 ((x.toNat ^^^ 54 : Nat) : Int) = x ^^^ 54 from byte_xor x 54 (by decide)]; exact hI7
            · rw [xorB_next 92 kb a x HXA.out, ← show b8 ((x.toNat ^^^ 92 : Nat) : Int) = x ^^^ 92 from byte_xor x 92 (by decide)]; exact hown7
          · have hge2 : ¬ (a : Int) < 64 := by omega
            have ea : a = 64 := by omega
            have hI := HI.out
            have hU := HU.out
            rw [ea, List.take_of_length_le (by rw [HKL.out]; exact Nat.le_refl _)] at hI hU
            have HI2 := hide hI
            have HU2 := hide hU
            have HLX : Hid ((xorB 54 kb).length = 64 ∧ (xorB 92 kb).length = 64) := hide (by simp only [xorB, List.length_map, HKL.out, and_self])
            have hsx := HX.out.size
            clear hI hU HI HU ea hla ha
            go_wp2_with (first
              | (at_builtin; refine wpList_cat_at rfl (.tmp 51) (.tmp 52) rfl wb.heap.size _ _ p B0 np d rfl rfl HNP.out.symm HI2.out ((hP.ext HXb.out).ext HX.out) hsx (by rw [HLX.out.1]; have := HPS.out; omega) ?_; intro v6 w6 hown6 hb6 hk6; rw [HQ1.out] at hown6;
                 obtain ⟨hU6, _, _⟩ := hk6 _ _ HU2.out HAP.out.of_self;
                 have HU6 := hide hU6;
                 have HX6 : Hid (Ext wb w6) := hide (Below.trans HX.out hb6);
                 have HT6 : Hid (Wds w6 g 35 tb) := hide (Wds.ext HTb.out HX6.out);
                 have HZ6 : Hid (Rw w6 (g + 1) 24 (bs (List.replicate 32 0))) := hide (Rw.ext HZb.out HX6.out);
                 obtain ⟨C6, c6, rfl, hlc6, hr6⟩ := Own.bytes hown6;
                 have HR6 := hide hr6; have HLC6 := hide hlc6;
                 clear hown6 hb6 hk6 hU6 hr6 hlc6)
              | ((with_reducible show wpList _ _ _ (⟨some 54, .load _ _, _, _, _, _⟩ :: _) _ _);
                 refine wpList_load_row rfl 35 (.tmp 3) rfl g rfl 35 (us tb).toArray (0, 0) _ HT6.out Tryd.underlying35 rfl (by rw [List.size_toArray, us_length, htb.out]; kernel_rfl) ?_)
              | (go_at_call 33; (with_reducible refine (KR.out C6 c6 q1 _ HR6.out HQ1L.out).mono ?_); rw [HO1.out]; rintro e w7 ⟨v7, rfl, hw7, rfl⟩;
                 have HU7 : Hid (Own w7 wb.heap.size _ (xorB 92 kb)) := hide (HU6.out.ext hw7);
                 have HX7 : Hid (Ext wb w7) := hide (HX6.out.trans hw7);
                 have HT7 : Hid (Wds w7 g 35 tb) := hide (Wds.ext HT6.out hw7);
                 have HZ7 : Hid (Rw w7 (g + 1) 24 (bs (List.replicate 32 0))) := hide (Rw.ext HZ6.out hw7))
              | ((with_reducible show wpList _ _ _ (⟨none, .store _ (.tmp 12) _, _, _, _, _⟩ :: _) _ _);
                 refine wpList_store_rw rfl 24 (.tmp 12) (.tmp 56) rfl _ rfl (bs o1) rfl 24 (bs (List.replicate 32 0)) (heap_alloc_new w7 _) 32 (by kernel_rfl) (by rw [bs_length, HL1.out]) (by rw [bs_length, bs_length, HL1.out]; rfl) (List.all_eq_true.2 (bs_one _)) ?_;
                 intro w8 hr8 hl8;
                 have hw8 : Ext w7 w8 := (Ext.alloc w7 _).laid hl8 (Nat.le_refl _);
                 have HU8 : Hid (Own w8 wb.heap.size _ (xorB 92 kb)) := hide (HU7.out.ext hw8);
                 have HX8 : Hid (Ext wb w8) := hide (HX7.out.trans hw8);
                 have HT8 : Hid (Wds w8 g 35 tb) := hide (Wds.ext HT7.out hw8);
                 have HZ8 : Hid (Rw w8 (g + 1) 24 (bs (List.replicate 32 0))) := hide (Rw.ext HZ7.out hw8);
                 have hs8 := HX8.out.size)
              | (at_builtin; refine wpList_cat rfl (.tmp 57) (.tmp 58) rfl wb.heap.size _ _ o1 _ 32 32 rfl rfl HL1.out.symm HU8.out (Rw.rd hr8) hs8 (by rw [HLX.out.2, HL1.out]; decide) ?_; intro v9 w9 hown9 hb9; rw [HQ2.out] at hown9;
                 have HX9 : Hid (Ext wb w9) := hide (Below.trans HX8.out hb9);
                 have HT9 : Hid (Wds w9 g 35 tb) := hide (Wds.ext HTb.out HX9.out);
                 have HZ9 : Hid (Rw w9 (g + 1) 24 (bs (List.replicate 32 0))) := hide (Rw.ext HZb.out HX9.out);
                 obtain ⟨C9, c10, rfl, hlc10, hr10⟩ := Own.bytes hown9;
                 have HR10 := hide hr10;
                 clear hown9 hb9 hr10 hlc10)
              | ((with_reducible show wpList _ _ _ (⟨some 60, .load _ _, _, _, _, _⟩ :: _) _ _);
                 refine wpList_load_row rfl 35 (.tmp 3) rfl g rfl 35 (us tb).toArray (0, 0) _ HT9.out Tryd.underlying35 rfl (by rw [List.size_toArray, us_length, htb.out]; kernel_rfl) ?_)
              | (go_at_call 33; (with_reducible refine (KR.out C9 c10 q2 _ HR10.out HQ2L.out).mono ?_); rw [HO2.out]; rintro e w10 ⟨v10, rfl, hw10, rfl⟩)
              | ((with_reducible show wpList _ _ _ (⟨none, .store _ (.tmp 6) _, _, _, _, _⟩ :: _) _ _);
                 refine wpList_store_rw rfl 24 (.tmp 6) (.tmp 62) rfl _ rfl (bs o2) rfl 24 (bs (List.replicate 32 0)) (Rw.ext HZ9.out hw10) 32 (by kernel_rfl) (by rw [bs_length, HL2.out]) (by rw [bs_length, bs_length, HL2.out]; rfl) (List.all_eq_true.2 (bs_one _)) ?_;
                 intro w11 hr11 hl11))
            exact ret_rw rfl rfl _ rfl _ _ hr11 32 5 Tryd.underlying24 (by kernel_rfl) (by rw [bs_length, HL2.out]) (Ret.mk (((HXb.out.trans HX9.out).trans hw10).laid hl11 (by omega)) rfl)
end Go.Proofs.YtdllppaichlnaaaDoor
