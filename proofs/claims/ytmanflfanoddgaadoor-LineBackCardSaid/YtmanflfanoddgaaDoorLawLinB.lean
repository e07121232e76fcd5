/-
  LineBack: for every text the law answers true: the walk.
-/
import Derived.Test.YtmanflfanoddgaaDoorLawLinU
namespace Go.Proofs.YtmanflfanoddgaaDoor
open Go.RowKit

theorem parseS_few (l : List UInt8) : (parseS l).2.1.length ≤ 301 := by
  unfold parseS
  rcases h : wordsS l with ⟨W, p, e⟩
  have hc := wordsS_count h
  simp only
  split
  · simp
  · cases W with
    | nil => simp
    | cons x t =>
      simp only
      cases verbS x with
      | none => simp
      | some r =>
        simp only
        split
        · simp only
          simp at hc
          omega
        · simp
theorem parseS_place {l : List UInt8} {v : Int} {t : List (List UInt8)} {p e : Nat} (h : parseS l = (v, t, p, e)) (hl : l.length ≤ 290) : p ≤ 290 := by
  have hw : (wordsS l).2.1 ≤ 290 := by
    rw [wordsS_ok (by omega)]
    cases mR l ⟨0, [], []⟩ with
    | inl k => show l.length - k ≤ 290; omega
    | inr W => exact Nat.zero_le _
  unfold parseS at h
  rcases hq : wordsS l with ⟨W, q, f⟩
  rw [hq] at h hw
  simp only at h hw
  split at h
  · injection h with _ h; injection h with _ h; injection h with h _; omega
  · split at h
    · injection h with _ h; injection h with _ h; injection h with h _; omega
    · split at h
      · injection h with _ h; injection h with _ h; injection h with h _; omega
      · split at h
        · injection h with _ h; injection h with _ h; injection h with h _; omega
        · injection h with _ h; injection h with _ h; injection h with h _; omega
theorem blank_list (s : ByteArray) : ((⟨#[32, 32]⟩ ++ s : ByteArray) ++ ⟨#[32]⟩).data.toList = 32 :: 32 :: (s.data.toList ++ [32]) := by simp
theorem blank_size {s : ByteArray} {n : Nat} (h : s.size ≤ 290) (hn : ((⟨#[32, 32]⟩ ++ s : ByteArray) ++ ⟨#[32]⟩).size = n) : n ≤ 140737488355328 := by
  rw [← hn, size_of_list (blank_list s)]
  have := size_len s
  simp only [List.length_cons, List.length_append, List.length_nil]
  omega

set_option maxRecDepth 20000 in
set_option maxHeartbeats 8000000 in
theorem lineBack_walk (s : ByteArray) (w : World) (hs : s.size ≤ 140737488355328) (hT : Tabs w) (hV : TabV w) :
    Calls Tryd.prog 14 #[.string s] w (Ret w (Is (.bool true))) := by
  have KA := hide fun W (h : Ext w W) => awake_any W (hT.ext h)
  by_cases h290 : 290 < s.size
  · have hbi : (290 : Int) < (s.size : Int) := by omega
    go_enter Tryd.func14, Tryd.ntmps14
    go_wp2_with (first
      | (go_at_call 38; (with_reducible refine (KA.out _ hx1).mono ?_); rintro e w2 ⟨v2, rfl, hw2, rfl⟩; have hx2 := hx1.trans hw2)
      | (go_at_call 38; (with_reducible refine (KA.out _ (Ext.refl _)).mono ?_); rintro e w1 ⟨v1, rfl, hx1, rfl⟩))
    go_ret
    exact Ret.mk hx2 rfl
  · have hbi : ¬ (290 : Int) < (s.size : Int) := by omega
    have hle : s.size ≤ 290 := by omega
    have HSL := hide (size_len s)
    obtain ⟨v, t, p, e, HPS⟩ : ∃ v t p e, Hid (parseS s.data.toList = (v, t, p, e)) := ⟨_, _, _, _, hide rfl⟩
    obtain ⟨p', HPB, HPP⟩ := parse_blank (by rw [HSL.out]; exact hle) HPS.out
    rw [HSL.out] at HPP
    replace HPB := hide HPB
    have HPL := hide (parseS_place HPS.out (by rw [HSL.out]; exact hle))
    have HBI := hide hbi
    have HFW := hide (parseS_few s.data.toList)
    rw [HPS.out] at HFW
    have HLN := hide (parseS_len HPS.out)
    obtain ⟨sb, HSB⟩ : ∃ sb : ByteArray, Hid (((⟨#[32, 32]⟩ ++ s : ByteArray) ++ ⟨#[32]⟩) = sb) := ⟨_, hide rfl⟩
    have K1 := hide fun W (h : Ext w W) => parse_is (s := s) HPS.out W hs (hT.ext h) (hV.ext h)
    have K2 := hide fun W (h : Ext w W) => parse_is (s := ((⟨#[32, 32]⟩ ++ s : ByteArray) ++ ⟨#[32]⟩)) (v := v) (t := t) (p := p') (e := e) (by rw [blank_list]; exact HPB.out) W (blank_size hle rfl) (hT.ext h) (hV.ext h)
    have KS := hide fun V B C d1 d2 (hB : RdV V B (tvs t)) (hC : RdV V C (tvs t)) => same_any v t B C d1 d2 V HFW.out hB hC
    obtain ⟨out, g, HWS⟩ : ∃ out g, Hid (writeS v t = (out, g)) := ⟨_, _, hide rfl⟩
    obtain ⟨ob, HOB⟩ : ∃ ob : ByteArray, Hid ((⟨out.toArray⟩ : ByteArray) = ob) := ⟨_, hide rfl⟩
    have HOS : Hid (ob.size ≤ 140737488355328) := hide (bytes_small HOB.out (writeS_small HWS.out))
    have K3 := hide fun W A c (h : Ext w W) (hA : RdV W A (tvs t)) => write_is HWS.out HOB.out A c W hA (fun x hx => Nat.le_trans (HLN.out x hx) (by decide)) (hT.ext h) (hV.ext h)
    have HG := hide fun (he : e = 0) => parse_write (l := s.data.toList) (v := v) (args := t) (p := p) (by subst he; exact HPS.out)
    rw [HWS.out] at HG
    have HR := hide fun (hg : g = 0) => write_back (v := v) (args := t) (out := out) (by subst hg; exact HWS.out)
    obtain ⟨n, HN⟩ : ∃ n, Hid (t.length = n) := ⟨_, hide rfl⟩
    rw [HN.out] at K1 K2 KS K3
    have hq1 : ¬ 9223372036854775807 < 2 + s.size := by omega
    have hq2 : ¬ 9223372036854775807 < 2 + s.size + 1 := by omega
    have HS0 := hide hs
    clear hs h290
    by_cases he : e = 0
    · have hg2 := HG.out he
      simp only at hg2
      subst he
      by_cases hg : g = 0
      · have hB := HR.out hg
        have K4 := hide fun W (h : Ext w W) => parse_is (s := ob) (v := v) (t := t) (p := 0) (e := 0) (by rw [← HOB.out]; exact hB) W HOS.out (hT.ext h) (hV.ext h)
        rw [HN.out] at K4
        subst hg
        clear hB hg2 HPP
        go_enter Tryd.func14, Tryd.ntmps14
        go_wp2_with (first
        | (go_at_call 38; (with_reducible refine (KA.out _ (Ext.refl _)).mono ?_); rintro e w1 ⟨v1, rfl, hx1, rfl⟩)
        | (go_at_call 41; (with_reducible refine (K1.out _ hx1).mono ?_); rintro e w2 ⟨v2, rfl, hw2, A2, c2, rfl, hr2⟩; have hx2 : Ext w (w2.alloc (.cells #[.int .u8 v, .slice A2 n c2] 72)) := (hx1.trans hw2).trans (Ext.alloc _ _); have HQ2 := hide (Rw.new w2 72 [.int .u8 v, .slice A2 n c2]); have HV2 := hide (hr2.ext (Ext.alloc w2 (.cells #[.int .u8 v, .slice A2 n c2] 72))))
        | (go_at_call 41; (with_reducible refine (K2.out _ hx2).mono ?_); rintro e w3 ⟨v3, rfl, hw3, A3, c3, rfl, hr3⟩; have hx3 : Ext w (w3.alloc (.cells #[.int .u8 v, .slice A3 n c3] 72)) := (hx2.trans hw3).trans (Ext.alloc _ _); have HQ3 := hide ((HQ2.out.ext hw3).alloc (.cells #[.int .u8 v, .slice A3 n c3] 72)); have q20 := HQ3.out.cell (i := 0) rfl; have q21 := HQ3.out.cell (i := 1) rfl; have HV3 := hide (HV2.out.ext (hw3.trans (Ext.alloc w3 (.cells #[.int .u8 v, .slice A3 n c3] 72)))); have HP3 := hide (hr3.ext (Ext.alloc w3 (.cells #[.int .u8 v, .slice A3 n c3] 72))))
        | (go_at_call 42; (with_reducible refine (KS.out _ _ _ _ _ HV3.out HP3.out).mono ?_); rintro e w4 ⟨v4, rfl, hw4, rfl⟩; have hx4 := hx3.trans hw4; have HQ4 := hide (HQ3.out.ext hw4); have r20 := HQ4.out.cell (i := 0) rfl; have r21 := HQ4.out.cell (i := 1) rfl; have HV4 := hide (HV3.out.ext hw4))
        | (go_at_call 39; (with_reducible refine (K3.out _ A2 c2 hx4 HV4.out).mono ?_); rintro e w5 ⟨v5, rfl, hw5, rfl⟩; have hx5 := hx4.trans hw5; have HQ5 := hide (HQ4.out.ext hw5); have HV5 := hide (HV4.out.ext hw5))
        | (go_at_call 41; (with_reducible refine (K4.out _ hx5).mono ?_); rintro e w6 ⟨v6, rfl, hw6, A6, c6, rfl, hr6⟩; have hx6 : Ext w (w6.alloc (.cells #[.int .u8 v, .slice A6 n c6] 72)) := (hx5.trans hw6).trans (Ext.alloc _ _); have HQ6 := hide ((HQ5.out.ext hw6).alloc (.cells #[.int .u8 v, .slice A6 n c6] 72)); have s20 := HQ6.out.cell (i := 0) rfl; have s21 := HQ6.out.cell (i := 1) rfl; have HV6 := hide (HV5.out.ext (hw6.trans (Ext.alloc w6 (.cells #[.int .u8 v, .slice A6 n c6] 72)))); have HP6 := hide (hr6.ext (Ext.alloc w6 (.cells #[.int .u8 v, .slice A6 n c6] 72))))
        | (go_at_call 42; (with_reducible refine (KS.out _ _ _ _ _ HP6.out HV6.out).mono ?_); rintro e w7 ⟨v7, rfl, hw7, rfl⟩; have hx7 := hx6.trans hw7))
        go_ret
        exact Ret.mk hx7 rfl
      · have hg3 : g = 2 := by omega
        subst hg3
        clear hg2 hg HPP
        go_enter Tryd.func14, Tryd.ntmps14
        go_wp2_with (first
        | (go_at_call 38; (with_reducible refine (KA.out _ (Ext.refl _)).mono ?_); rintro e w1 ⟨v1, rfl, hx1, rfl⟩)
        | (go_at_call 41; (with_reducible refine (K1.out _ hx1).mono ?_); rintro e w2 ⟨v2, rfl, hw2, A2, c2, rfl, hr2⟩; have hx2 : Ext w (w2.alloc (.cells #[.int .u8 v, .slice A2 n c2] 72)) := (hx1.trans hw2).trans (Ext.alloc _ _); have HQ2 := hide (Rw.new w2 72 [.int .u8 v, .slice A2 n c2]); have HV2 := hide (hr2.ext (Ext.alloc w2 (.cells #[.int .u8 v, .slice A2 n c2] 72))))
        | (go_at_call 41; (with_reducible refine (K2.out _ hx2).mono ?_); rintro e w3 ⟨v3, rfl, hw3, A3, c3, rfl, hr3⟩; have hx3 : Ext w (w3.alloc (.cells #[.int .u8 v, .slice A3 n c3] 72)) := (hx2.trans hw3).trans (Ext.alloc _ _); have HQ3 := hide ((HQ2.out.ext hw3).alloc (.cells #[.int .u8 v, .slice A3 n c3] 72)); have q20 := HQ3.out.cell (i := 0) rfl; have q21 := HQ3.out.cell (i := 1) rfl; have HV3 := hide (HV2.out.ext (hw3.trans (Ext.alloc w3 (.cells #[.int .u8 v, .slice A3 n c3] 72)))); have HP3 := hide (hr3.ext (Ext.alloc w3 (.cells #[.int .u8 v, .slice A3 n c3] 72))))
        | (go_at_call 42; (with_reducible refine (KS.out _ _ _ _ _ HV3.out HP3.out).mono ?_); rintro e w4 ⟨v4, rfl, hw4, rfl⟩; have hx4 := hx3.trans hw4; have HQ4 := hide (HQ3.out.ext hw4); have r20 := HQ4.out.cell (i := 0) rfl; have r21 := HQ4.out.cell (i := 1) rfl; have HV4 := hide (HV3.out.ext hw4))
        | (go_at_call 39; (with_reducible refine (K3.out _ A2 c2 hx4 HV4.out).mono ?_); rintro e w5 ⟨v5, rfl, hw5, rfl⟩; have hx5 := hx4.trans hw5; have HQ5 := hide (HQ4.out.ext hw5); have HV5 := hide (HV4.out.ext hw5)))
        go_ret
        exact Ret.mk hx5 rfl
    · have hne1 : ((e : Int) != 0) = true := by simp; omega
      clear he
      by_cases h4 : e = 4
      · subst h4
        by_cases hp : p = 0
        · subst hp
          clear HPP
          go_enter Tryd.func14, Tryd.ntmps14
          go_wp2_with (first
        | (go_at_call 38; (with_reducible refine (KA.out _ (Ext.refl _)).mono ?_); rintro e w1 ⟨v1, rfl, hx1, rfl⟩)
        | (go_at_call 41; (with_reducible refine (K1.out _ hx1).mono ?_); rintro e w2 ⟨v2, rfl, hw2, A2, c2, rfl, hr2⟩; have hx2 : Ext w (w2.alloc (.cells #[.int .u8 v, .slice A2 n c2] 72)) := (hx1.trans hw2).trans (Ext.alloc _ _); have HQ2 := hide (Rw.new w2 72 [.int .u8 v, .slice A2 n c2]); have HV2 := hide (hr2.ext (Ext.alloc w2 (.cells #[.int .u8 v, .slice A2 n c2] 72))))
        | (go_at_call 41; (with_reducible refine (K2.out _ hx2).mono ?_); rintro e w3 ⟨v3, rfl, hw3, A3, c3, rfl, hr3⟩; have hx3 : Ext w (w3.alloc (.cells #[.int .u8 v, .slice A3 n c3] 72)) := (hx2.trans hw3).trans (Ext.alloc _ _); have HQ3 := hide ((HQ2.out.ext hw3).alloc (.cells #[.int .u8 v, .slice A3 n c3] 72)); have q20 := HQ3.out.cell (i := 0) rfl; have q21 := HQ3.out.cell (i := 1) rfl; have HV3 := hide (HV2.out.ext (hw3.trans (Ext.alloc w3 (.cells #[.int .u8 v, .slice A3 n c3] 72)))); have HP3 := hide (hr3.ext (Ext.alloc w3 (.cells #[.int .u8 v, .slice A3 n c3] 72))))
        | (go_at_call 42; (with_reducible refine (KS.out _ _ _ _ _ HV3.out HP3.out).mono ?_); rintro e w4 ⟨v4, rfl, hw4, rfl⟩; have hx4 := hx3.trans hw4; have HQ4 := hide (HQ3.out.ext hw4); have r20 := HQ4.out.cell (i := 0) rfl; have r21 := HQ4.out.cell (i := 1) rfl; have HV4 := hide (HV3.out.ext hw4)))
          go_ret
          exact Ret.mk hx4 rfl
        · have hp0 : (0 : Int) < (p : Int) := by omega
          by_cases hp2 : p' = p + 2
          · have hpe : ((p' : Int) != (p : Int) + 2) = false := by simp; omega
            clear HPP hp2 hp
            have hpb := HPL.out
            go_enter Tryd.func14, Tryd.ntmps14
            go_wp2_with (first
        | (go_at_call 38; (with_reducible refine (KA.out _ (Ext.refl _)).mono ?_); rintro e w1 ⟨v1, rfl, hx1, rfl⟩)
        | (go_at_call 41; (with_reducible refine (K1.out _ hx1).mono ?_); rintro e w2 ⟨v2, rfl, hw2, A2, c2, rfl, hr2⟩; have hx2 : Ext w (w2.alloc (.cells #[.int .u8 v, .slice A2 n c2] 72)) := (hx1.trans hw2).trans (Ext.alloc _ _); have HQ2 := hide (Rw.new w2 72 [.int .u8 v, .slice A2 n c2]); have HV2 := hide (hr2.ext (Ext.alloc w2 (.cells #[.int .u8 v, .slice A2 n c2] 72))))
        | (go_at_call 41; (with_reducible refine (K2.out _ hx2).mono ?_); rintro e w3 ⟨v3, rfl, hw3, A3, c3, rfl, hr3⟩; have hx3 : Ext w (w3.alloc (.cells #[.int .u8 v, .slice A3 n c3] 72)) := (hx2.trans hw3).trans (Ext.alloc _ _); have HQ3 := hide ((HQ2.out.ext hw3).alloc (.cells #[.int .u8 v, .slice A3 n c3] 72)); have q20 := HQ3.out.cell (i := 0) rfl; have q21 := HQ3.out.cell (i := 1) rfl; have HV3 := hide (HV2.out.ext (hw3.trans (Ext.alloc w3 (.cells #[.int .u8 v, .slice A3 n c3] 72)))); have HP3 := hide (hr3.ext (Ext.alloc w3 (.cells #[.int .u8 v, .slice A3 n c3] 72))))
        | (go_at_call 42; (with_reducible refine (KS.out _ _ _ _ _ HV3.out HP3.out).mono ?_); rintro e w4 ⟨v4, rfl, hw4, rfl⟩; have hx4 := hx3.trans hw4; have HQ4 := hide (HQ3.out.ext hw4); have r20 := HQ4.out.cell (i := 0) rfl; have r21 := HQ4.out.cell (i := 1) rfl; have HV4 := hide (HV3.out.ext hw4)))
            go_ret
            exact Ret.mk hx4 rfl
          · have hpe : ((p' : Int) != (p : Int) + 2) = true := by simp; omega
            have hpf : ((p' : Int) != (s.size : Int) + 3) = false := by simp; omega
            clear HPP hp2 hp
            have hpb := HPL.out
            go_enter Tryd.func14, Tryd.ntmps14
            go_wp2_with (first
        | (go_at_call 38; (with_reducible refine (KA.out _ (Ext.refl _)).mono ?_); rintro e w1 ⟨v1, rfl, hx1, rfl⟩)
        | (go_at_call 41; (with_reducible refine (K1.out _ hx1).mono ?_); rintro e w2 ⟨v2, rfl, hw2, A2, c2, rfl, hr2⟩; have hx2 : Ext w (w2.alloc (.cells #[.int .u8 v, .slice A2 n c2] 72)) := (hx1.trans hw2).trans (Ext.alloc _ _); have HQ2 := hide (Rw.new w2 72 [.int .u8 v, .slice A2 n c2]); have HV2 := hide (hr2.ext (Ext.alloc w2 (.cells #[.int .u8 v, .slice A2 n c2] 72))))
        | (go_at_call 41; (with_reducible refine (K2.out _ hx2).mono ?_); rintro e w3 ⟨v3, rfl, hw3, A3, c3, rfl, hr3⟩; have hx3 : Ext w (w3.alloc (.cells #[.int .u8 v, .slice A3 n c3] 72)) := (hx2.trans hw3).trans (Ext.alloc _ _); have HQ3 := hide ((HQ2.out.ext hw3).alloc (.cells #[.int .u8 v, .slice A3 n c3] 72)); have q20 := HQ3.out.cell (i := 0) rfl; have q21 := HQ3.out.cell (i := 1) rfl; have HV3 := hide (HV2.out.ext (hw3.trans (Ext.alloc w3 (.cells #[.int .u8 v, .slice A3 n c3] 72)))); have HP3 := hide (hr3.ext (Ext.alloc w3 (.cells #[.int .u8 v, .slice A3 n c3] 72))))
        | (go_at_call 42; (with_reducible refine (KS.out _ _ _ _ _ HV3.out HP3.out).mono ?_); rintro e w4 ⟨v4, rfl, hw4, rfl⟩; have hx4 := hx3.trans hw4; have HQ4 := hide (HQ3.out.ext hw4); have r20 := HQ4.out.cell (i := 0) rfl; have r21 := HQ4.out.cell (i := 1) rfl; have HV4 := hide (HV3.out.ext hw4)))
            go_ret
            exact Ret.mk hx4 rfl
      · have h4e : ((e : Int) == 4) = false := by simp; omega
        clear h4 HPP
        go_enter Tryd.func14, Tryd.ntmps14
        go_wp2_with (first
        | (go_at_call 38; (with_reducible refine (KA.out _ (Ext.refl _)).mono ?_); rintro e w1 ⟨v1, rfl, hx1, rfl⟩)
        | (go_at_call 41; (with_reducible refine (K1.out _ hx1).mono ?_); rintro e w2 ⟨v2, rfl, hw2, A2, c2, rfl, hr2⟩; have hx2 : Ext w (w2.alloc (.cells #[.int .u8 v, .slice A2 n c2] 72)) := (hx1.trans hw2).trans (Ext.alloc _ _); have HQ2 := hide (Rw.new w2 72 [.int .u8 v, .slice A2 n c2]); have HV2 := hide (hr2.ext (Ext.alloc w2 (.cells #[.int .u8 v, .slice A2 n c2] 72))))
        | (go_at_call 41; (with_reducible refine (K2.out _ hx2).mono ?_); rintro e w3 ⟨v3, rfl, hw3, A3, c3, rfl, hr3⟩; have hx3 : Ext w (w3.alloc (.cells #[.int .u8 v, .slice A3 n c3] 72)) := (hx2.trans hw3).trans (Ext.alloc _ _); have HQ3 := hide ((HQ2.out.ext hw3).alloc (.cells #[.int .u8 v, .slice A3 n c3] 72)); have q20 := HQ3.out.cell (i := 0) rfl; have q21 := HQ3.out.cell (i := 1) rfl; have HV3 := hide (HV2.out.ext (hw3.trans (Ext.alloc w3 (.cells #[.int .u8 v, .slice A3 n c3] 72)))); have HP3 := hide (hr3.ext (Ext.alloc w3 (.cells #[.int .u8 v, .slice A3 n c3] 72))))
        | (go_at_call 42; (with_reducible refine (KS.out _ _ _ _ _ HV3.out HP3.out).mono ?_); rintro e w4 ⟨v4, rfl, hw4, rfl⟩; have hx4 := hx3.trans hw4; have HQ4 := hide (HQ3.out.ext hw4); have r20 := HQ4.out.cell (i := 0) rfl; have r21 := HQ4.out.cell (i := 1) rfl; have HV4 := hide (HV3.out.ext hw4)))
        go_ret
        exact Ret.mk hx4 rfl
end Go.Proofs.YtmanflfanoddgaaDoor
