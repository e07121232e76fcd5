/-
  Lines: the document's own line of a request.
-/
import Derived.Test.YtmanflfanoddgaaDoorLinF
import Derived.Test.YtmanflfanoddgaaDoorLinH
import Derived.Test.YtmanflfanoddgaaDoorLinI
import Derived.Test.YtmanflfanoddgaaDoorLinY
import Derived.Outline
import Derived.Deep.Cut
import Derived.Deep.CutRange
namespace Go.Proofs.YtmanflfanoddgaaDoor
open Go.RowKit

theorem chs_ok {l : List UInt8} {p k : Nat} {c : Chr} (h : (chs l p)[k]? = some c) : okP c.r c.n = (okC c && decide (32 ≤ c.r) && decide (c.r ≠ 127)) := by
  induction l using chs_ind generalizing p k with
  | h0 => simp [chs_nil] at h
  | h1 l hne ih =>
    rw [chs_step l p hne] at h
    cases k with
    | zero => simp at h; subst h; exact okP_split l p
    | succ k => exact ih (by simpa using h)
theorem wordW_ge (l : List UInt8) : l.length ≤ (wordW l).length := by
  have := (escQ_length l).1
  unfold wordW
  split
  · omega
  · simp only [List.length_cons, List.length_append, List.length_nil]; omega
theorem lineW_ge (wd : List UInt8) (args : List (List UInt8)) (x : List UInt8) (h : x ∈ args) : x.length < (lineW wd args).length := by
  unfold lineW
  rw [List.length_append]
  have : x.length < (args.flatMap fun x => 32 :: wordW x).length := by
    induction args with
    | nil => cases h
    | cons y t ih =>
      rw [List.flatMap_cons, List.length_append, List.length_cons]
      rcases List.mem_cons.1 h with rfl | h
      · have := wordW_ge x; omega
      · have := ih h; omega
  omega
theorem verbN_place {v : Int} (h1 : 1 ≤ v) (h2 : v ≤ 11) : ∃ (k : Nat) (wd : List UInt8) (a : Int), v = (k : Int) + 1 ∧ k < 11 ∧ vtab[k]? = some (v, wd, a) ∧ verbN v = some (v, wd, a) ∧ verbS wd = some (v, wd, a) := by
  obtain ⟨k, rfl⟩ : ∃ k : Nat, v = (k : Int) + 1 := ⟨(v - 1).toNat, by omega⟩
  have hk : k < vtab.length := by show k < 11; omega
  have hr := List.getElem?_eq_getElem hk
  generalize vtab[k] = r at hr
  obtain ⟨n, wd, a⟩ := r
  have hn := (vtab_num k n wd a hr).1
  subst hn
  have hf := vtab_facts _ (List.mem_of_getElem? hr)
  exact ⟨k, wd, a, rfl, by omega, hr, hf.2.2.2.1, hf.2.2.1⟩
theorem verbN_out {v : Int} (h : v < 1 ∨ 11 < v) : verbN v = none := by
  cases hv : verbN v with
  | none => rfl
  | some r =>
    obtain ⟨hm, hr⟩ := verbN_mem hv
    have : ∀ r ∈ vtab, 1 ≤ r.1 ∧ r.1 ≤ 11 := by decide
    have := this r hm
    omega
theorem canS_all {x : List UInt8} (h : ∀ (j : Nat) (c : Chr), (chs x 0)[j]? = some c → okP c.r c.n = true) : canS x = true := by
  unfold canS
  rw [List.all_eq_true]
  intro c hc
  obtain ⟨j, hj⟩ := List.getElem?_of_mem hc
  exact h j c hj
theorem canS_not {x : List UInt8} {j : Nat} {c : Chr} (h : (chs x 0)[j]? = some c) (hc : okP c.r c.n = false) : canS x = false := by
  unfold canS
  rw [List.all_eq_false]
  exact ⟨c, List.mem_of_getElem? h, by simp [hc]⟩

theorem small_text3 {x : List UInt8} (h : x.length ≤ 1048576) : (⟨x.toArray⟩ : ByteArray).size ≤ 4398046511104 := by
  show x.toArray.size ≤ _
  rw [List.size_toArray]; omega
theorem small_text4 {x : List UInt8} (h : x.length ≤ 1048576) : (⟨x.toArray⟩ : ByteArray).size ≤ 1048576 := by
  show x.toArray.size ≤ _
  rw [List.size_toArray]; exact h

set_option maxRecDepth 20000 in
set_option maxHeartbeats 8000000 in
theorem rwrite_any (v : Int) (args : List (List UInt8)) (A : Option Addr) (c : Nat) (w : World) (hA : RdV w A (tvs args)) (hz : ∀ x ∈ args, x.length ≤ 1048576) (hT : Tabs w) :
    Calls Tryd.prog 40 #[.agg #[.int .u8 v, .slice A args.length c]] w (Ret w (Is (.tuple #[.string ⟨(writeS v args).1.toArray⟩, .int .i64 ((writeS v args).2 : Int)]))) := by
  obtain ⟨m, HM⟩ : ∃ n, Hid (args.length = n) := ⟨_, rfl⟩
  obtain ⟨F, HF⟩ : ∃ F, Hid ((.tuple #[.string ⟨(writeS v args).1.toArray⟩, .int .i64 ((writeS v args).2 : Int)] : Value) = F) := ⟨_, hide rfl⟩
  rw [HM.out, HF.out]
  by_cases hout : v < 1 ∨ 11 < v
  · have HL : Hid (F = .tuple #[.string ⟨#[]⟩, .int .i64 3]) := by
      rw [← HF.out]
      unfold writeS
      rw [verbN_out hout]
      exact hide rfl
    rcases hout with h | h
    · go_enter Tryd.func40, Tryd.ntmps40
      go_wp2
      go_ret2
      rw [HL.out]
      exact Ret.mk ((Ext.alloc _ _).trans (Ext.alloc _ _)) rfl
    · have h1 : ¬ v < 1 := by omega
      go_enter Tryd.func40, Tryd.ntmps40
      go_wp2
      go_ret2
      rw [HL.out]
      exact Ret.mk ((Ext.alloc _ _).trans (Ext.alloc _ _)) rfl
  · obtain ⟨k0, wd, a, rfl, hk0, hvt, hvn, hvs⟩ := verbN_place (v := v) (by omega) (by omega)
    have HVN := hide hvn
    have hs := vtab_small _ (verbN_mem hvn).1
    simp only at hs
    obtain ⟨hw6, ha0, ha4⟩ := hs
    have KV := hide fun V => (show Calls Tryd.prog 71 #[.string ⟨wd.toArray⟩] V (Ret V (Is (.tuple #[.int .u8 ((k0 : Int) + 1), .int .i64 a]))) from (by
      have h := rverb_any ⟨wd.toArray⟩ V
      rw [show (⟨wd.toArray⟩ : ByteArray).toList = wd from ByteArray.toList_mk wd, hvs] at h
      exact h))
    obtain ⟨arr, HARR⟩ : ∃ arr, Hid (wordsL.toArray = arr) := ⟨_, hide rfl⟩
    have ca : arr[k0]? = some (.string ⟨wd.toArray⟩) := by rw [← HARR.out]; simp [wordsL, hvt]
    have hasz : k0 < arr.size := (Array.getElem?_eq_some_iff.1 ca).1
    have HE0 : Hid (arr[k0] = .string ⟨wd.toArray⟩) := hide (Array.getElem?_eq_some_iff.1 ca).2
    clear ca
    have HRQ := hide (((Rw.new w 72 [.int .u8 ((k0 : Int) + 1), .slice A m c])).alloc (.cells arr 9))
    have HCQ := hide (HRQ.out.cell (i := 1) rfl)
    have hx0 : Ext w ((w.alloc (.cells #[.int .u8 ((k0 : Int) + 1), .slice A m c] 72)).alloc (.cells arr 9)) := (Ext.alloc _ _).trans (Ext.alloc _ _)
    have HARR2 : Hid (#[Value.string ⟨#[99, 114, 101, 97, 116, 101]⟩, Value.string ⟨#[100, 114, 111, 112]⟩, Value.string ⟨#[108, 111, 103, 105, 110]⟩, Value.string ⟨#[99, 104, 101, 99, 107]⟩, Value.string ⟨#[114, 101, 118, 111, 107, 101]⟩, Value.string ⟨#[112, 97, 115, 115]⟩, Value.string ⟨#[114, 111, 108, 101]⟩, Value.string ⟨#[117, 110, 108, 111, 99, 107]⟩, Value.string ⟨#[119, 104, 111]⟩, Value.string ⟨#[108, 105, 115, 116]⟩, Value.string ⟨#[97, 117, 100, 105, 116]⟩] = arr) := hide HARR.out
    clear hvt hvn hvs hout
    have hkb : ¬ (k0 : Int) + 1 < 1 := by omega
    have hkc : ¬ 11 < (k0 : Int) + 1 := by omega
    by_cases hla : a = (m : Int)
    · subst hla
      have hm4 : m ≤ 4 := by omega
      have HW : Hid (∀ b, b = args.all canS → writeS ((k0 : Int) + 1) args = if b then (if 300 < (lineW wd args).length then ([], 2) else (lineW wd args, 0)) else ([], 3)) := hide fun b hb => by
        unfold writeS; rw [HVN.out]; simp only; rw [if_pos (by rw [HM.out]), hb]
      have HLT := hide (lineT_length wd args 1048576 hw6 hz)
      have HZ := hide hz
      clear hz ha0 ha4 hw6
      have hne : ((m : Int) != (m : Int)) = false := by simp
      go_enter Tryd.func40, Tryd.ntmps40
      go_upto_region 5 with (fail)
      rw [HARR2.out]
      go_wp2_with fail
      rw [HE0.out]
      go_wp2_with (go_at_call 71; refine (KV.out _).mono ?_; rintro e w1 ⟨v1, rfl, hx1, rfl⟩; have c1 := (Ext.keeps hx1).cell HCQ.out; have hxw := hx0.trans hx1)
      have HC1 := hide c1
      clear c1 HE0 hasz HCQ HRQ hx1 hx0
      go_loopw [8, 9, 10] (fun i _ _ wr => ∃ j : Nat, j ≤ m ∧ i = .int .i64 (j : Int) ∧ Hid (∀ (l : Nat) (x : List UInt8), l < j → args[l]? = some x → canS x = true) ∧ Ext w1 wr) (fun i _ _ _ => m - (intOf i).toNat)
      case atStart => exact ⟨0, Nat.zero_le _, rfl, hide (fun l x h => absurd h (Nat.not_lt_zero _)), Ext.refl _⟩
      case round =>
        obtain ⟨j, hj, rfl, HC, hx⟩ := hrel
        by_cases hlt : j < m
        · have hji : (j : Int) < (m : Int) := by omega
          have hjl : j < args.length := by rw [HM.out]; exact hlt
          obtain ⟨x, HGX⟩ : ∃ x, Hid (args[j]? = some x) := ⟨_, hide (List.getElem?_eq_getElem hjl)⟩
          obtain ⟨b, off, rfl, hcx⟩ := (hA.ext (hxw.trans hx)).at (tvs_get args j x HGX.out)
          have cq := (Ext.keeps hx).cell HC1.out
          have HXZ := hide (HZ.out x (List.mem_of_getElem? HGX.out))
          obtain ⟨L, HL0⟩ : ∃ L, Hid (chs x 0 = L) := ⟨_, hide rfl⟩
          have KC := hide fun W (h : Ext w W) => (show Calls Tryd.prog 72 #[.string ⟨x.toArray⟩] W (Ret W (Chs L)) from (by
            have h := chars_any ⟨x.toArray⟩ W (small_text3 HXZ.out) (hT.ext h)
            rw [show (⟨x.toArray⟩ : ByteArray).data.toList = x from rfl, HL0.out] at h
            exact h))
          have HLL : Hid (L.length ≤ 1048576) := hide (by rw [← HL0.out]; exact Nat.le_trans (chs_le _ _) HXZ.out)
          have hll := HLL.out
          clear hjl
          go_wp2_with (go_at_call 72; refine (KC.out _ (hxw.trans hx)).mono ?_; rintro e w3 ⟨v3, rfl, hx3, A3, c3, rfl, hr3⟩)
          go_loopw [10] (fun i wr => ∃ q : Nat, q ≤ L.length ∧ i = .int .i64 (q : Int) ∧ Hid (∀ (l : Nat) (y : Chr), l < q → L[l]? = some y → okP y.r y.n = true) ∧ Ext w3 wr) (fun i _ => L.length - (intOf i).toNat)
          case atStart => exact ⟨0, Nat.zero_le _, rfl, hide (fun l x h => absurd h (Nat.not_lt_zero _)), Ext.refl _⟩
          case round =>
            obtain ⟨q, hq, rfl, HQ, hy⟩ := hrel
            by_cases hql : q < L.length
            · have hqi : (q : Int) < (L.length : Int) := by omega
              obtain ⟨b4, off4, ch, rfl, HG4, cA, cB, cC⟩ := chr_at (RdC.ext hr3 hy) hql
              obtain ⟨pl, HPL⟩ : ∃ pl, Hid (okP ch.r ch.n = pl) := ⟨_, hide rfl⟩
              have KP := hide fun W => (show Calls Tryd.prog 73 #[.agg #[.int .i32 (ch.r : Int), .int .i64 (ch.p : Int), .bool (okC ch)]] W (Ret W (Is (.bool pl))) from (by
                have h := plain_any ch.r ch.p (okC ch) W
                rw [← chs_ok (by rw [HL0.out]; exact HG4), HPL.out] at h
                exact h))
              have HG := hide HG4
              clear HG4
              cases pl with
              | false =>
                have HL : Hid (F = .tuple #[.string ⟨#[]⟩, .int .i64 3]) := by
                  rw [← HF.out, HW.out false (take_can HGX.out (canS_not (by rw [HL0.out]; exact HG.out) HPL.out)).symm]
                  exact hide rfl
                go_wp2_with (go_at_call 73; refine (KP.out _).mono ?_; rintro e w5 ⟨v5, rfl, hx5, rfl⟩)
                go_ret2
                rw [HL.out]
                exact Ret.mk ((((hxw.trans hx).trans hx3).trans hy).trans hx5) rfl
              | true =>
                go_wp2_with (go_at_call 73; refine (KP.out _).mono ?_; rintro e w5 ⟨v5, rfl, hx5, rfl⟩)
                refine ⟨⟨q + 1, by omega, by go_num, hide ?_, hy.trans hx5⟩, by simp [intOf]; omega⟩
                intro l y hl hy2
                rcases Nat.lt_or_ge l q with h | h
                · exact HQ.out l y h hy2
                · obtain rfl : l = q := by omega
                  rw [HG.out] at hy2
                  injection hy2 with hy2
                  subst hy2
                  exact HPL.out
            · have hqi : ¬ (q : Int) < (L.length : Int) := by omega
              have HCX : Hid (canS x = true) := hide (canS_all fun l y hy2 => by
                rw [HL0.out] at hy2
                exact HQ.out l y (by
                  rcases Nat.lt_or_ge l L.length with h | h
                  · omega
                  · rw [List.getElem?_eq_none h] at hy2; cases hy2) hy2)
              go_wp2
              refine ⟨⟨j + 1, by omega, by go_num, hide ?_, (hx.trans hx3).trans hy⟩, by simp [intOf]; omega⟩
              intro l y hl hy2
              rcases Nat.lt_or_ge l j with h | h
              · exact HC.out l y h hy2
              · obtain rfl : l = j := by omega
                rw [HGX.out] at hy2
                injection hy2 with hy2
                subst hy2
                exact HCX.out
        · obtain rfl : j = m := by omega
          have hji : ¬ (j : Int) < (j : Int) := Int.lt_irrefl _
          have HW2 := hide (HW.out true (all_can fun l y hy => HC.out l y (by
            rcases Nat.lt_or_ge l j with h | h
            · exact h
            · rw [List.getElem?_eq_none (by rw [HM.out]; exact h)] at hy; cases hy) hy).symm)
          clear HC HW
          have hxr := hxw.trans hx
          have HC2 := hide ((Ext.keeps hx).cell HC1.out)
          clear HC1 KV hxw hx
          go_wp2
          go_loopw [4, 11] (fun s i wt => ∃ (k : Nat) (sb : ByteArray), k ≤ j ∧ s = .string sb ∧ i = .int .i64 (k : Int) ∧ Hid (sb.data.toList = lineT wd args k) ∧ Hid (∀ (l : Nat) (x : List UInt8), l < k → args[l]? = some x → x.length ≤ 300) ∧ Ext wr wt) (fun _ i _ => j - (intOf i).toNat)
          case atStart => exact ⟨0, ⟨wd.toArray⟩, Nat.zero_le _, rfl, rfl, hide (by rw [lineT_zero]), hide (fun l x h => absurd h (Nat.not_lt_zero _)), Ext.refl _⟩
          case round =>
            obtain ⟨k, sb, hk, rfl, rfl, HSB, H3, hx⟩ := hrel
            by_cases hkm : k < j
            · have hki : (k : Int) < (j : Int) := by omega
              have hkl : k < args.length := by rw [HM.out]; exact hkm
              obtain ⟨x, HGX⟩ : ∃ x, Hid (args[k]? = some x) := ⟨_, hide (List.getElem?_eq_getElem hkl)⟩
              obtain ⟨b, off, rfl, hcx⟩ := (hA.ext (hxr.trans hx)).at (tvs_get args k x HGX.out)
              have cq := (Ext.keeps hx).cell HC2.out
              obtain ⟨xb, HXB⟩ : ∃ xb : ByteArray, Hid ((⟨x.toArray⟩ : ByteArray) = xb) := ⟨_, hide rfl⟩
              have HXS : Hid (xb.size = x.length) := hide (by rw [← HXB.out]; show x.toArray.size = _; rw [List.size_toArray])
              rw [HXB.out] at hcx
              clear hkl
              by_cases h3 : 300 < x.length
              · have h3i : (300 : Int) < (xb.size : Int) := by rw [HXS.out]; omega
                have HL : Hid (F = .tuple #[.string ⟨#[]⟩, .int .i64 2]) := by
                  rw [← HF.out, HW2.out]; rw [if_pos trivial, if_pos (by have := lineW_ge wd args x (List.mem_of_getElem? HGX.out); omega)]
                  exact hide rfl
                go_wp2
                go_ret2
                rw [HL.out]
                exact Ret.mk (hxr.trans hx) rfl
              · have h3i : ¬ (300 : Int) < (xb.size : Int) := by rw [HXS.out]; omega
                obtain ⟨y, HY⟩ : ∃ y : ByteArray, Hid ((⟨(wordW x).toArray⟩ : ByteArray) = y) := ⟨_, hide rfl⟩
                have HYL : Hid (y.data.toList = wordW x) := hide (by rw [← HY.out])
                have KW := hide fun W => (show Calls Tryd.prog 74 #[.string xb] W (Ret W (Is (.string y))) from (by
                  have h := rword_any ⟨x.toArray⟩ W (small_text4 (HZ.out x (List.mem_of_getElem? HGX.out)))
                  rw [show (⟨x.toArray⟩ : ByteArray).data.toList = x from rfl, HY.out, HXB.out] at h
                  exact h))
                have HS1 : Hid (y.size ≤ 700) := hide (by rw [size_of_list HYL.out]; have := wordW_length x; omega)
                have HS2 : Hid (sb.size ≤ 10000000) := hide (by
                  rw [size_of_list HSB.out]
                  have h1 := HLT.out k
                  have h2 : k * (2 * 1048576 + 3) ≤ 4 * (2 * 1048576 + 3) := Nat.mul_le_mul_right _ (by omega)
                  omega)
                have hs1 : ¬ 9223372036854775807 < 1 + y.size := by have := HS1.out; omega
                have hs2 : ¬ 9223372036854775807 < sb.size + (1 + y.size) := by have h1 := HS1.out; have h2 := HS2.out; omega
                go_wp2_with (go_at_call 74; refine (KW.out _).mono ?_; rintro e w5 ⟨v5, rfl, hx5, rfl⟩)
                refine ⟨⟨k + 1, _, by omega, rfl, by go_num, hide ?_, hide ?_, hx.trans hx5⟩, by simp [intOf]; omega⟩
                · rw [lineT_succ wd args k x HGX.out, cat_data, cat_data, HSB.out, HYL.out]
                  simp
                · intro l y2 hl hy2
                  rcases Nat.lt_or_ge l k with h | h
                  · exact H3.out l y2 h hy2
                  · obtain rfl : l = k := by omega
                    rw [HGX.out] at hy2
                    injection hy2 with hy2
                    subst hy2
                    omega
            · obtain rfl : k = j := by omega
              have hki : ¬ (k : Int) < (k : Int) := Int.lt_irrefl _
              have HE : Hid (lineT wd args k = lineW wd args) := hide (lineT_all wd args k (by rw [HM.out]; exact Nat.le_refl _))
              have HSZ : Hid (sb.size = (lineW wd args).length) := hide (by rw [size_of_list HSB.out, HE.out])
              by_cases h3 : 300 < sb.size
              · have h3i : (300 : Int) < (sb.size : Int) := by omega
                have HL : Hid (F = .tuple #[.string ⟨#[]⟩, .int .i64 2]) := by
                  rw [← HF.out, HW2.out]; rw [if_pos trivial, if_pos (by rw [← HSZ.out]; exact h3)]
                  exact hide rfl
                go_wp2
                go_ret2
                rw [HL.out]
                exact Ret.mk (hxr.trans hx) rfl
              · have h3i : ¬ (300 : Int) < (sb.size : Int) := by omega
                have HL : Hid (F = .tuple #[.string sb, .int .i64 0]) := by
                  rw [← HF.out, HW2.out]; rw [if_pos trivial, if_neg (by rw [← HSZ.out]; exact h3), ← HE.out, ← HSB.out]
                  exact hide rfl
                go_wp2
                go_ret2
                rw [HL.out]
                exact Ret.mk (hxr.trans hx) rfl
    · have HL : Hid (F = .tuple #[.string ⟨#[]⟩, .int .i64 3]) := by
        rw [← HF.out]
        unfold writeS
        rw [HVN.out]
        simp only
        rw [if_neg (by rw [HM.out]; exact fun h => hla h.symm)]
        exact hide rfl
      have hne : (a != (m : Int)) = true := by simpa using hla
      clear hla
      go_enter Tryd.func40, Tryd.ntmps40
      go_upto_region 5 with (fail)
      rw [HARR2.out]
      go_wp2_with fail
      rw [HE0.out]
      go_wp2_with (go_at_call 71; refine (KV.out _).mono ?_; rintro e w1 ⟨v1, rfl, hx1, rfl⟩; have c1 := (Ext.keeps hx1).cell HCQ.out)
      go_ret2
      rw [HL.out]
      exact Ret.mk (hx0.trans hx1) rfl
end Go.Proofs.YtmanflfanoddgaaDoor
