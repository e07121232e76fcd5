/-
  LineVerbs: for every two bytes the law answers true: the walk.
-/
import Derived.Test.YtmanflfanoddgabDoorLinG
import Derived.Test.YtmanflfanoddgabDoorLinS
import Derived.Test.YtmanflfanoddgabDoorLinU
import Derived.Outline
import Derived.Deep.Cut
import Derived.Deep.CutRange
import Derived.Below
namespace Go.Proofs.YtmanflfanoddgabDoor
open Go.RowKit

theorem verb_place (k : Nat) (h : k < 11) : ∃ wd a, vtab[k]? = some (((k : Int) + 1), wd, a) := by
  match k, h with
  | 0, _ | 1, _ | 2, _ | 3, _ | 4, _ | 5, _ | 6, _ | 7, _ | 8, _ | 9, _ | 10, _ => exact ⟨_, _, rfl⟩
  | k + 11, h => omega
theorem lineX_next (wd : List UInt8) (m : Nat) : lineX wd (m + 1) = lineX wd m ++ [32, 120] := by
  unfold lineX
  rw [List.replicate_succ']
  simp
theorem xs_next (m : Nat) : xs (m + 1) = xs m ++ [[120]] := List.replicate_succ'
theorem ownT_far {w : World} {base g : Nat} {v : Value} {ls : List (List UInt8)} (h : OwnT w base v ls) (hg : g < base) (u : Value) (i : Nat) : OwnT (w.setCell ⟨g, i, none⟩ u) base v ls :=
  ownsRow_setCell_below h hg u
theorem xs_len (m : Nat) : (xs m ++ [[120]]).length = (xs m).length + 1 := by simp
theorem lineX_len (wd : List UInt8) (m : Nat) : (lineX wd m).length = wd.length + 2 * m := by
  induction m with
  | zero => simp [lineX]
  | succ m ih => rw [lineX_next, List.length_append, ih]; simp; omega

set_option maxRecDepth 20000 in
set_option maxHeartbeats 8000000 in
theorem lineVerbs_walk (x y : Int) (w : World) (hx : 0 ≤ x ∧ x ≤ 255) (hy : 0 ≤ y ∧ y ≤ 255) (hT : Tabs w) (hV : TabV w) :
    Calls Tryd.prog 3 #[.int .u8 x, .int .u8 y] w (Ret w (Is (.bool true))) := by
  obtain ⟨K, rfl⟩ : ∃ k : Nat, x = (k : Int) := ⟨x.toNat, by omega⟩
  obtain ⟨M, rfl⟩ : ∃ k : Nat, y = (k : Int) := ⟨y.toNat, by omega⟩
  have KA := hide fun W (h : Ext w W) => awake_any W (hT.ext h)
  obtain ⟨hx0, hx1⟩ := hx
  obtain ⟨hy0, hy1⟩ := hy
  obtain ⟨arr, HARR⟩ : ∃ arr, Hid ((#[Value.string ⟨#[99, 114, 101, 97, 116, 101]⟩, Value.string ⟨#[100, 114, 111, 112]⟩, Value.string ⟨#[108, 111, 103, 105, 110]⟩, Value.string ⟨#[99, 104, 101, 99, 107]⟩, Value.string ⟨#[114, 101, 118, 111, 107, 101]⟩, Value.string ⟨#[112, 97, 115, 115]⟩, Value.string ⟨#[114, 111, 108, 101]⟩, Value.string ⟨#[117, 110, 108, 111, 99, 107]⟩, Value.string ⟨#[119, 104, 111]⟩, Value.string ⟨#[108, 105, 115, 116]⟩, Value.string ⟨#[97, 117, 100, 105, 116]⟩] : Array Value) = arr) := ⟨_, hide rfl⟩
  obtain ⟨agr, HAGR⟩ : ∃ agr, Hid ((#[Value.int .i64 4, Value.int .i64 2, Value.int .i64 2, Value.int .i64 1, Value.int .i64 1, Value.int .i64 3, Value.int .i64 3, Value.int .i64 2, Value.int .i64 2, Value.int .i64 1, Value.int .i64 2] : Array Value) = agr) := ⟨_, hide rfl⟩
  obtain ⟨k, HK⟩ : ∃ k : Nat, Hid (K % 11 = k) := ⟨_, hide rfl⟩
  obtain ⟨m, HM⟩ : ∃ m : Nat, Hid (M % 6 = m) := ⟨_, hide rfl⟩
  have hk11 : k < 11 := by have := HK.out; omega
  have hm6 : m < 6 := by have := HM.out; omega
  have HKI : Hid ((K : Int) % 11 = (k : Int)) := hide (by have := HK.out; omega)
  have HMI : Hid ((M : Int) % 6 = (m : Int)) := hide (by have := HM.out; omega)
  obtain ⟨wd, a, hvt⟩ := verb_place k hk11
  have hev : arr[k]? = some (.string ⟨wd.toArray⟩) := by
    rw [← HARR.out]
    have : (#[Value.string ⟨#[99, 114, 101, 97, 116, 101]⟩, Value.string ⟨#[100, 114, 111, 112]⟩, Value.string ⟨#[108, 111, 103, 105, 110]⟩, Value.string ⟨#[99, 104, 101, 99, 107]⟩, Value.string ⟨#[114, 101, 118, 111, 107, 101]⟩, Value.string ⟨#[112, 97, 115, 115]⟩, Value.string ⟨#[114, 111, 108, 101]⟩, Value.string ⟨#[117, 110, 108, 111, 99, 107]⟩, Value.string ⟨#[119, 104, 111]⟩, Value.string ⟨#[108, 105, 115, 116]⟩, Value.string ⟨#[97, 117, 100, 105, 116]⟩] : Array Value) = (vtab.map fun x => Value.string ⟨x.2.1.toArray⟩).toArray := rfl
    rw [this]; simp [hvt]
  have hea : agr[k]? = some (.int .i64 a) := by
    rw [← HAGR.out]
    have : (#[Value.int .i64 4, Value.int .i64 2, Value.int .i64 2, Value.int .i64 1, Value.int .i64 1, Value.int .i64 3, Value.int .i64 3, Value.int .i64 2, Value.int .i64 2, Value.int .i64 1, Value.int .i64 2] : Array Value) = (vtab.map fun x => Value.int .i64 x.2.2).toArray := rfl
    rw [this]; simp [hvt]
  have hasz : k < arr.size := (Array.getElem?_eq_some_iff.1 hev).1
  have HE0 : Hid (arr[k] = .string ⟨wd.toArray⟩) := hide (Array.getElem?_eq_some_iff.1 hev).2
  have HEA := hide hea
  have HVP := hide (verbs_plain _ (List.mem_of_getElem? hvt) m hm6)
  have HWL := hide (vtab_small _ (List.mem_of_getElem? hvt)).1
  have hab := (vtab_small _ (List.mem_of_getElem? hvt)).2
  simp only at HVP HWL hab
  obtain ⟨ha0, ha4⟩ := hab
  clear hev hea hvt
  go_enter Tryd.func3, Tryd.ntmps3
  go_upto_region 7 with (go_at_call 9; (with_reducible refine (KA.out _ (Ext.refl _)).mono ?_); rintro e w1 ⟨v1, rfl, hx1, rfl⟩)
  rw [HKI.out, HARR.out, HAGR.out]
  go_upto_region 8 with (fail)
  rw [HE0.out]
  obtain ⟨W, hW⟩ : ∃ W, W = ((w1.alloc (.cells arr 9)).alloc (.cells agr 3)).alloc (.cells #[.int .u8 ((k : Int) + 1), .slice none 0 0] 26) := ⟨_, rfl⟩
  have HX0 : Hid (Ext w1 W) := hide (by rw [hW]; exact ((Ext.alloc _ _).trans (Ext.alloc _ _)).trans (Ext.alloc _ _))
  have HQ0 : Hid (Rw W (w1.heap.size + 1 + 1) 26 [.int .u8 ((k : Int) + 1), .slice none 0 0]) := hide (by
    rw [hW]
    have h := Rw.new ((w1.alloc (.cells arr 9)).alloc (.cells agr 3)) 26 [.int .u8 ((k : Int) + 1), .slice none 0 0]
    rw [show ((w1.alloc (.cells arr 9)).alloc (.cells agr 3)).heap.size = w1.heap.size + 1 + 1 by simp] at h
    exact h)
  have HA0 : Hid (W.cell? ⟨w1.heap.size + 1, k, none⟩ = some (.int .i64 a)) := hide (by
    rw [hW]
    have h : Rw ((w1.alloc (.cells arr 9)).alloc (.cells agr 3)) (w1.heap.size + 1) 3 agr.toList := by
      have h2 := Rw.new (w1.alloc (.cells arr 9)) 3 agr.toList
      rw [show (w1.alloc (.cells arr 9)).heap.size = w1.heap.size + 1 by simp] at h2
      simpa using h2
    exact (h.alloc _).cell (by simpa using HEA.out))
  have HS0 : Hid (W.heap.size = w1.heap.size + 1 + 1 + 1) := hide (by rw [hW]; simp)
  rw [← hW]
  obtain ⟨g2, hg2⟩ : ∃ g, g = w1.heap.size + 1 := ⟨_, rfl⟩
  rw [← hg2] at HQ0 HA0 HS0 ⊢
  obtain ⟨g, hg⟩ : ∃ g, g = g2 + 1 := ⟨_, rfl⟩
  rw [← hg] at HQ0 HS0 ⊢
  have HG := hide (show w1.heap.size < g2 ∧ g2 < g by omega)
  have HXW : Hid (Ext w W) := hide (hx1.trans HX0.out)
  have HWG : Hid (w.heap.size ≤ g) := hide (by have := HG.out; have := Ext.size hx1; omega)
  clear hW hg2 hg hx1 HX0 HEA HE0 HARR HAGR hasz
  go_wp2
  go_loopw [9, 10] (fun s i wr => ∃ (j : Nat) (sb : ByteArray) (v : Value), j ≤ m ∧ s = .string sb ∧ i = .int .i64 (j : Int) ∧ Hid (sb.data.toList = lineX wd j) ∧ Hid (OwnT wr (g + 1) v (xs j)) ∧ Hid (Rw wr g 26 [.int .u8 ((k : Int) + 1), v]) ∧ Below g W wr ∧ g + 1 ≤ wr.heap.size) (fun _ i _ => m - (intOf i).toNat)
  case atStart => exact ⟨0, ⟨wd.toArray⟩, .slice none 0 0, Nat.zero_le _, rfl, rfl, hide (by simp [lineX]), hide (OwnT.nil _ _), HQ0, Below.refl _ _, by rw [HS0.out]; exact Nat.le_refl _⟩
  case round =>
    obtain ⟨j, sb, v, hj, rfl, rfl, HSB, HO, HQ, hb, hsz⟩ := hrel
    have HSS : Hid (sb.size ≤ 16) := hide (by rw [size_of_list HSB.out, lineX_len]; have := HWL.out; omega)
    by_cases hlt : j < m
    · have hji : (j : Int) < (M : Int) % 6 := by rw [HMI.out]; omega
      have hq1 : ¬ 9223372036854775807 < sb.size + 2 := by have := HSS.out; omega
      have cq := HQ.out.cell (i := 1) rfl
      have cqa := (HQ.out.alloc (.cells #[.string ⟨#[120]⟩] 9)).cell (i := 1) rfl
      have HXL : Hid ((xs j).length < 4398046511104) := hide (by simp [xs]; omega)
      go_wp2_with (refine wpList_pushT rfl (.tmp 39) (.tmp 40) rfl (g + 1) _ _ ⟨#[120]⟩ rfl rfl HO.out hsz HXL.out ?_; intro v5 w5 hown5 hb5 _; obtain ⟨C5, d5, rfl, hd5, hr5⟩ := OwnT.txs hown5; rw [xs_len] at hown5 ⊢; have HQ5 := hide (HQ.out.below hb5 (Nat.lt_succ_self g)); have c5 := HQ5.out.cell (i := 1) rfl; have f5 := HQ5.out.frozen 1; have HQ6 : Hid (Rw (w5.setCell ⟨g, 1, none⟩ (.slice C5 ((xs j).length + 1) d5)) g 26 [.int .u8 ((k : Int) + 1), .slice C5 ((xs j).length + 1) d5]) := hide (HQ5.out.set 1 (.slice C5 ((xs j).length + 1) d5)); have HO6 := hide (ownT_far hown5 (Nat.lt_succ_self g) (.slice C5 ((xs j).length + 1) d5) 1); have hs5 := hb5.size; have HB5 := hide hb5; clear hown5 hb5 hd5 hr5)
      refine ⟨⟨j + 1, _, _, by omega, rfl, by go_num, hide ?_, hide ?_, HQ6, ?_, ?_⟩, by simp [intOf]; omega⟩
      · rw [lineX_next, cat_data, HSB.out]
      · rw [xs_next]; exact HO6.out
      · exact Below.set (hb.trans (HB5.out.mono (Nat.le_succ g))) (Nat.le_refl g) _
      · simp; omega
    · obtain rfl : j = m := by omega
      have hji : ¬ (j : Int) < (M : Int) % 6 := by rw [HMI.out]; omega
      obtain ⟨C, d, rfl, hd, hr⟩ := OwnT.txs HO.out
      obtain ⟨n, HN⟩ : ∃ n, Hid ((xs j).length = n) := ⟨_, hide rfl⟩
      have HBS : Hid ((⟨(lineX wd j).toArray⟩ : ByteArray) = sb) := hide (by apply ByteArray.ext; apply Array.ext'; rw [HSB.out])
      have hxr : Ext w wr := Below.trans HXW.out (Below.mono hb HWG.out)
      have HAR : Hid (wr.cell? ⟨g2, k, none⟩ = some (.int .i64 a)) := hide ((hb.cell (p := ⟨g2, k, none⟩) HG.out.2).trans HA0.out)
      have HZX : Hid (∀ x ∈ xs j, x.length ≤ 1048576) := hide (fun x hx => by
        rw [(List.mem_replicate.1 hx).2]; decide)
      have HXS : Hid ((xs j).length ≤ 301) := hide (by simp [xs]; omega)
      have HSZ : Hid (sb.size ≤ 140737488355328) := hide (by have := HSS.out; omega)
      have HRX := hide hr
      rw [HN.out] at HQ
      clear hd hr HO HXW HWG HS0 HQ0 HA0 hb 
      by_cases hja : (j : Int) = a
      · subst hja
        have hv := HVP.out
        simp only [if_true] at hv
        have HP1 := hide hv.1
        have HP2 := hide hv.2
        have K3 := hide fun V (h : Ext w V) => parse_is (s := sb) (v := (k : Int) + 1) (t := xs j) (p := 0) (e := 0) (by rw [HSB.out]; exact HP1.out) V HSZ.out (hT.ext h) (hV.ext h)
        have K4 := hide fun V (h : Ext w V) (hA : RdV V C (tvs (xs j))) => write_is HP2.out HBS.out C d V hA HZX.out (hT.ext h) (hV.ext h)
        have KS := hide fun V B D d1 d2 (hB : RdV V B (tvs (xs j))) (hC : RdV V D (tvs (xs j))) => same_any ((k : Int) + 1) (xs j) B D d1 d2 V HXS.out hB hC
        rw [HN.out] at K3 K4 KS
        have hne : ((M : Int) % 6 != (j : Int)) = false := by rw [HMI.out]; simp
        clear hv HVP
        go_wp2_with (first
          | (go_at_call 10; (with_reducible refine (K3.out _ hxr).mono ?_); rintro e w2 ⟨v2, rfl, hw2, A2, c2, rfl, hr2⟩; have hx2 : Ext wr (w2.alloc (.cells #[.int .u8 ((k : Int) + 1), .slice A2 n c2] 26)) := hw2.trans (Ext.alloc _ _); have hx3 := hxr.trans hx2; have HQ2 := hide (HQ.out.ext hx2); have q0 := HQ2.out.cell (i := 0) rfl; have q1 := HQ2.out.cell (i := 1) rfl; have HR2 := hide (HRX.out.ext hx2); have HP2 := hide (Rw.new w2 26 [.int .u8 ((k : Int) + 1), .slice A2 n c2]); have HV2 := hide (hr2.ext (Ext.alloc w2 (.cells #[.int .u8 ((k : Int) + 1), .slice A2 n c2] 26))))
          | (go_at_call 11; (with_reducible refine (K4.out _ hx3 HR2.out).mono ?_); rintro e w4 ⟨v4, rfl, hw4, rfl⟩; have hx4 := hx3.trans hw4; have hy4 := hx2.trans hw4; have HQ4 := hide (HQ2.out.ext hw4); have r0 := HQ4.out.cell (i := 0) rfl; have r1 := HQ4.out.cell (i := 1) rfl; have HP4 := hide (HP2.out.ext hw4); have s0 := HP4.out.cell (i := 0) rfl; have s1 := HP4.out.cell (i := 1) rfl; have HR4 := hide (HR2.out.ext hw4); have HV4 := hide (HV2.out.ext hw4); have ca := (Ext.keeps hy4).cell HAR.out)
          | (go_at_call 12; (with_reducible refine (KS.out _ _ _ _ _ HV4.out HR4.out).mono ?_); rintro e w6 ⟨v6, rfl, hw6, rfl⟩; have hx6 := hx4.trans hw6))
        go_ret
        exact Ret.mk hx6 rfl
      · have hv := HVP.out
        rw [if_neg hja, if_neg hja] at hv
        have HP1 := hide hv.1
        have HP2 := hide hv.2
        obtain ⟨ob, HOB⟩ : ∃ ob : ByteArray, Hid ((⟨([] : List UInt8).toArray⟩ : ByteArray) = ob) := ⟨_, hide rfl⟩
        have K3 := hide fun V (h : Ext w V) => parse_is (s := sb) (v := 0) (t := []) (p := 0) (e := 1) (by rw [HSB.out]; exact HP1.out) V HSZ.out (hT.ext h) (hV.ext h)
        have K4 := hide fun V (h : Ext w V) (hA : RdV V C (tvs (xs j))) => write_is HP2.out HOB.out C d V hA HZX.out (hT.ext h) (hV.ext h)
        rw [HN.out] at K4
        simp only [List.length_nil] at K3
        have hne : ((M : Int) % 6 != a) = true := by rw [HMI.out]; simpa using hja
        clear hv HVP hja
        go_wp2_with (first
          | (go_at_call 10; (with_reducible refine (K3.out _ hxr).mono ?_); rintro e w2 ⟨v2, rfl, hw2, A2, c2, rfl, hr2⟩; have hx2 : Ext wr (w2.alloc (.cells #[.int .u8 0, .slice A2 0 c2] 26)) := hw2.trans (Ext.alloc _ _); have hx3 := hxr.trans hx2; have HQ2 := hide (HQ.out.ext hx2); have q0 := HQ2.out.cell (i := 0) rfl; have q1 := HQ2.out.cell (i := 1) rfl; have HR2 := hide (HRX.out.ext hx2))
          | (go_at_call 11; (with_reducible refine (K4.out _ hx3 HR2.out).mono ?_); rintro e w4 ⟨v4, rfl, hw4, rfl⟩; have hx4 := hx3.trans hw4; have hy4 := hx2.trans hw4; have ca := (Ext.keeps hy4).cell HAR.out))
        go_ret
        exact Ret.mk hx4 rfl
end Go.Proofs.YtmanflfanoddgabDoor
