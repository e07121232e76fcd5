/-
  The reference's SHA-256: Sum's contract.
-/
import Derived.Test.YtmanflfanoddgaaDoorRefE
import Derived.Test.YtmanflfanoddgaaDoorRefQ
import Derived.Test.YtmanflfanoddgaaDoorOwn
import Derived.Test.YtmanflfanoddgaaDoorShaF
import Derived.Deep.MidRow
import Derived.BigQuiet
import Derived.BigRegion
namespace Go.Proofs.YtmanflfanoddgaaDoor
open Go.RowKit

theorem Wds.range {w : World} {g : Nat} {t : TypeId} {a b : List Nat} (h : Wds w g t (a ++ b)) : w.rangeAt g 0 (us a) := fun j v hv => by
  rw [Nat.zero_add]
  refine Rw.cell h ?_
  have hlt : j < (us a).length := (List.getElem?_eq_some_iff.1 hv).1
  rw [← hv]
  unfold us
  rw [List.map_append, List.getElem?_append_left (by simpa [us] using hlt)]
theorem info_u32 : (Tryd.prog.info? 27).map (fun i => (i.zero, i.size, i.bytes)) = some (some (.int .u32 0), 1, 4) := by kernel_rfl
theorem run_make_words (W : World) : (Instr.makeSlice 127 (.int .i64 64) (.int .i64 64)).run Tryd.prog W =
    .ok (.slice (some ⟨W.heap.size, 0, none⟩) 64 64) (W.alloc (.cells (us (List.replicate 64 0)).toArray 27)) := by
  obtain ⟨i0, hi, hz0, hz1, hz2⟩ := info_parts info_u32
  have h := run_make (P := Tryd.prog) W 127 27 i0 (.int .u32 0) Tryd.underlying127 hi hz0 .i64 .i64 64 64 (by omega) (by omega) (by rw [hz2]; omega) (by omega)
  have e : madeCells #[Value.int .u32 0] 64 = (us (List.replicate 64 0)).toArray := by kernel_rfl
  rw [← e]
  simpa [hz1, Value.cells] using h
theorem Ext.setDrew {w w' : World} (h : Ext w w') {p : Addr} (hp : w.heap.size ≤ p.block) (u : Value) : Ext w (w'.setCell p u).drew :=
  Below.trans (Below.set h hp u) (Below.mono (Ext.drew _) (Below.size (Below.set h hp u)))
theorem Below.set8 {B : Nat} {w w' : World} {g : Nat} (h : Below B w w') (hg : B ≤ g) (u0 u1 u2 u3 u4 u5 u6 u7 : Value) :
    Below B w ((((((((w'.setCell ⟨g, 0, none⟩ u0).setCell ⟨g, 1, none⟩ u1).setCell ⟨g, 2, none⟩ u2).setCell ⟨g, 3, none⟩ u3).setCell ⟨g, 4, none⟩ u4).setCell ⟨g, 5, none⟩ u5).setCell ⟨g, 6, none⟩ u6).setCell ⟨g, 7, none⟩ u7) :=
  Below.set (p := ⟨g, 7, none⟩) (Below.set (p := ⟨g, 6, none⟩) (Below.set (p := ⟨g, 5, none⟩) (Below.set (p := ⟨g, 4, none⟩) (Below.set (p := ⟨g, 3, none⟩) (Below.set (p := ⟨g, 2, none⟩) (Below.set (p := ⟨g, 1, none⟩) (Below.set (p := ⟨g, 0, none⟩) h hg u0) hg u1) hg u2) hg u3) hg u4) hg u5) hg u6) hg u7
theorem us_start : us start0.list = us startW := rfl
theorem fullS_count (l : List UInt8) : ∃ m, (fullS l).length = 64 * m := ⟨(fullS l).length / 64, by have := fullS_length l; omega⟩
theorem fullS_le (l : List UInt8) : (fullS l).length ≤ l.length + 80 := by
  unfold fullS
  rw [List.length_append, padS_length]
  have : (be8 (8 * l.length % 18446744073709551616)).length = 8 := rfl
  unfold padLen
  omega

set_option maxRecDepth 20000 in
set_option maxHeartbeats 12800000 in
theorem rsum_any (tb : List Nat) (htb : Hid (tb = startW ++ roundW)) (A : Option Addr) (c : Nat) (l : List UInt8) (w : World) (hr : Rd w A l) (hl : l.length ≤ 140737488350000) :
    Calls Tryd.prog 47 #[.agg (us tb).toArray, .slice A l.length c] w (Ret w (Is (.agg (bs (sha l)).toArray))) := by
  obtain ⟨n, HN⟩ : ∃ n, Hid (l.length = n) := ⟨_, hide rfl⟩
  obtain ⟨o, HO⟩ : ∃ o, Hid (sha l = o) := ⟨_, hide rfl⟩
  have HFL := hide (fullS_le l)
  rw [HO.out, HN.out]
  rw [HN.out] at hl
  obtain ⟨pn, HPN⟩ : ∃ pn, Hid (padLen l.length = pn) := ⟨_, hide rfl⟩
  have hpn : pn < 64 := by rw [← HPN.out]; exact Nat.mod_lt _ (by decide)
  go_enter Tryd.func47, Tryd.ntmps47
  go_wp2_with (first
    | (at_builtin; refine wpList_cat rfl (.tmp 29) (.tmp 30) rfl (w.heap.size + 2) _ [] l A n c rfl rfl HN.out.symm (Own.nil _ _) ((hr.ext (Ext.alloc _ _)).ext (Ext.alloc _ _)) (by simp) (by simp; have := HN.out; omega) ?_; intro v1 w1 hown1 hb1; rw [List.nil_append] at hown1;
       have hT1 : Hid (Wds w1 w.heap.size 31 tb) := hide (Rw.below (heap_alloc2_old w _ _) hb1 (by omega));
       have hZ1 : Hid (Rw w1 (w.heap.size + 1) 24 (bs (List.replicate 32 0))) := hide (Rw.below (heap_alloc2_new w _ _) hb1 (by omega));
       have hx1 : Ext w w1 := Below.trans ((Ext.alloc w _).trans (Ext.alloc _ _)) (Below.mono hb1 (by omega));
       have hs1 : w.heap.size + 2 ≤ w1.heap.size := by (have := hb1.size; simpa using this);
       have HO1 := hide hown1;
       clear hb1 hown1)
    | (at_builtin; refine wpList_push rfl (.tmp 32) (.tmp 33) rfl (w.heap.size + 2) _ _ rfl rfl HO1.out (by decide) (by decide) hs1 (by have := HN.out; omega) ?_; intro v2 w2 hown2 hb2;
       have HO2 : Hid (Own w2 (w.heap.size + 2) v2 (padS l 0)) := hide (by rw [padS, List.replicate_zero, List.append_nil]; exact hown2);
       clear HO1 hown2))
  obtain ⟨B, hB⟩ : ∃ B, B = w.heap.size + 2 := ⟨_, rfl⟩
  obtain ⟨g, hg⟩ : ∃ g, g = w.heap.size := ⟨_, rfl⟩
  rw [← hB] at hb2 HO2 hs1
  rw [← hg] at hT1 hZ1 ⊢
  have hgl : w.heap.size ≤ g ∧ g + 1 < B := by omega
  clear hB hg
  have HX1 := hide hx1
  clear hx1
  go_loopw [5] (fun v wr => ∃ k : Nat, k ≤ pn ∧ Hid (Own wr B v (padS l k)) ∧ Below B w1 wr) (fun v _ => match v with | .slice _ m _ => n + 100 - m | _ => 0)
  case atStart => exact ⟨0, Nat.zero_le _, HO2, hb2⟩
  clear HO2 hb2
  case round =>
    obtain ⟨k, hk, HOk, hbk⟩ := hrel
    have hok := HOk.out.bytes
    obtain ⟨C, c9, rfl, hlc9, hr9⟩ := hok
    rw [padS_length, HN.out] at hlc9
    rw [padS_length, HN.out] at HOk ⊢
    obtain ⟨m, HM⟩ : ∃ m, Hid (m = n + 1 + k) := ⟨_, hide rfl⟩
    rw [← HM.out] at HOk ⊢
    have hm2 : m ≤ n + 65 := by rw [HM.out]; omega
    have HLN : Hid ((padS l k).length = m) := hide (by rw [padS_length, HN.out, HM.out])
    by_cases hgo : m % 64 = 56
    · have HF : Hid (padS l k = padS l pn) := hide (by
        have h1 := pad_end l k (by rw [HPN.out]; exact hk) (by rw [HLN.out]; exact hgo)
        rw [h1, HPN.out])
      rw [HF.out] at HOk HLN
      have hgo2 : (m : Int) % 64 = 56 := by omega
      obtain ⟨wb, hwb⟩ : ∃ x, x = wr := ⟨_, rfl⟩
      subst hwb
      clear hgo hr9 hlc9 HF
      obtain ⟨t, H31⟩ : ∃ t, Hid (t = 8 * n) := ⟨_, hide rfl⟩
      have et : (n : Int) * 8 = (t : Int) := by rw [H31.out]; omega
      obtain ⟨F, HF⟩ : ∃ F, Hid (fullS l = F) := ⟨_, hide rfl⟩
      have HF2 : Hid (padS l pn ++ be8 t = F) := hide (by
        rw [← HF.out, fullS, HPN.out, H31.out, ← HN.out, Nat.mod_eq_of_lt (by have := HN.out; omega)])
      have HSHA : Hid (o = (absorb start0 F).out) := hide (by rw [← HO.out, sha_full, HF.out])
      obtain ⟨nb, hnb⟩ : ∃ nb, F.length = 64 * nb := by rw [← HF.out]; exact fullS_count l
      have HNB := hide hnb
      have hbn : 64 * nb ≤ n + 80 := by have h1 := HFL.out; rw [HF.out, HN.out, hnb] at h1; exact h1
      have HSB := hide (show B ≤ wb.heap.size from Nat.le_trans hs1 (Below.size hbk))
      have HLP := hide (show (padS l pn).length ≤ n + 65 by rw [HLN.out]; exact hm2)
      clear hnb HF HFL HO HM hm2 HLN hk hs1
      go_wp2
      clear hgo2 et
      go_loopw [5, 7] (fun v i wr => ∃ k : Nat, k ≤ 8 ∧ i = .int .i64 (7 - (k : Int)) ∧ Hid (Own wr B v (padS l pn ++ (be8 t).take k)) ∧ Below B wb wr) (fun _ i _ => (intOf i + 1).toNat)
      case atStart => exact ⟨0, by omega, rfl, hide (by rw [List.take_zero, List.append_nil]; exact HOk.out), Below.refl _ _⟩
      clear HOk
      case round =>
        obtain ⟨k, hk8, rfl, HOk, hbk2⟩ := hrel
        by_cases hlt : k < 8
        · obtain ⟨j, hj⟩ : ∃ j, k + j = 7 := ⟨7 - k, by omega⟩
          have HJ := hide hj
          rw [show 7 - (k : Int) = (j : Int) by omega]
          have hsB : B ≤ wr.heap.size := Nat.le_trans HSB.out (Below.size hbk2)
          have HLQ := hide (show (padS l pn ++ (be8 t).take k).length < 140737488355328 by rw [List.length_append, List.length_take]; have := HLP.out; omega)
          have hj7 : j ≤ 7 := by omega
          clear hlt hj
          go_wp2_with (at_builtin; refine wpList_push rfl (.tmp 50) (.tmp 56) rfl B _ _ rfl rfl HOk.out (Int.emod_nonneg _ (by decide)) (Int.emod_lt_of_pos _ (by decide)) hsB HLQ.out ?_; intro v6 w6 hown6 hb6; have HO6 := hide hown6; clear hown6)
          have HO7 : Hid (Own w6 B v6 (padS l pn ++ (be8 t).take (k + 1))) := hide (by
            have h1 := HO6.out
            rw [b8n_b8 (t / 2 ^ (8 * j)) (by rw [Int.natCast_emod, Int.natCast_ediv, Int.natCast_pow]; rfl), List.append_assoc] at h1
            rw [be8_next t k (by have := HJ.out; omega), show 7 - k = j by have := HJ.out; omega]
            exact h1)
          exact ⟨⟨k + 1, by have := HJ.out; omega, by have := HJ.out; congr 1; omega, HO7, Below.trans hbk2 hb6⟩, by have := HJ.out; simp [intOf]⟩
        · have hge : ¬ (0 : Int) ≤ 7 - (k : Int) := by omega
          have HOF := hide HOk.out
          rw [List.take_of_length_le (show (be8 t).length ≤ k by show 8 ≤ k; omega), HF2.out] at HOF
          obtain ⟨C5, c5, rfl, hlc5, hr5⟩ := HOF.out.bytes
          rw [HNB.out] at hlc5 ⊢
          have HR5 := hide hr5
          obtain ⟨wc, hwc⟩ : ∃ x, x = wr := ⟨_, rfl⟩
          subst hwc
          have hT5 : Hid (Wds wc g 31 tb) := hide (Wds.below (Wds.below hT1.out hbk (by omega)) hbk2 (by omega))
          have hZ5 : Hid (Rw wc (g + 1) 24 (bs (List.replicate 32 0))) := hide (Rw.below (Rw.below hZ1.out hbk (by omega)) hbk2 (by omega))
          have hX5 : Hid (Ext w wc) := hide (Below.trans HX1.out (Below.mono (Below.trans hbk hbk2) (by omega)))
          have HRG : Hid (wc.rangeAt g 0 (us startW)) := hide (Wds.range (t := 31) (b := roundW) (by have h1 := hT5.out; rw [htb.out] at h1; exact h1))
          have HSZ := hide (show B ≤ wc.heap.size from Nat.le_trans HSB.out (Below.size hbk2))
          clear HOk HOF hbk2 hbk hr5 hT1 hZ1 HX1 HSB hlt hk8
          go_wp2_with (first
            | ((with_reducible show wpList _ _ _ (⟨some 59, .load _ _, _, _, _, _⟩ :: _) _ _);
               refine wpList_load_mid rfl 28 (.tmp 58) rfl g 0 rfl (us startW) _ HRG.out Tryd.underlying28 rfl (by kernel_rfl) ?_)
            | ((with_reducible show wpList _ _ _ (⟨none, .store _ (.tmp 8) _, _, _, _, _⟩ :: _) _ _);
               refine wpList_store_rw rfl 28 (.tmp 8) (.tmp 59) rfl _ rfl (us startW) rfl 28 (us (List.replicate 8 0)) (heap_alloc_new wc _) 8 (by kernel_rfl) rfl rfl (us_one _) ?_;
               intro w5 hr5 hl5;
               have HH5 : Hid (Wds w5 wc.heap.size 28 start0.list) := hide hr5;
               have hT6 : Hid (Wds w5 g 31 tb) := hide (Wds.other (Wds.ext hT5.out (Ext.alloc _ _)) hl5 (by have := HSZ.out; omega));
               have hZ6 : Hid (Rw w5 (g + 1) 24 (bs (List.replicate 32 0))) := hide (Rw.other (Rw.ext hZ5.out (Ext.alloc _ _)) hl5 (by have := HSZ.out; omega));
               have HX6 : Hid (Ext w w5) := hide ((hX5.out.trans (Ext.alloc _ _)).laid hl5 (by have := hX5.out.size; omega));
               have HBC6 : Hid (Below wc.heap.size wc w5) := hide ((Ext.alloc wc _).laid hl5 (Nat.le_refl _));
               have HS6 := hide hl5.below.size;
               clear hr5 hl5))
          have HRA : Hid (∀ W, Below wc.heap.size wc W → Rd W C5 F) := hide fun W h => HR5.out.ext h
          generalize hgh : wc.heap.size = gh at *
          have hgh2 : g + 1 < gh := by have := HSZ.out; omega
          clear hT5 hZ5 hX5 HRG HR5 HSZ hgh
          go_loopw [9] (fun i wr => ∃ k : Nat, k ≤ nb ∧ i = .int .i64 (64 * (k : Int)) ∧ Hid (Wds wr gh 28 (absS start0 F k).list) ∧ Hid (Wds wr g 31 tb) ∧ Hid (Rw wr (g + 1) 24 (bs (List.replicate 32 0))) ∧ Hid (Below gh wc wr) ∧ Hid (Ext w wr)) (fun i _ => (64 * (nb : Int) - intOf i).toNat)
          case atStart => exact ⟨0, Nat.zero_le _, rfl, HH5, hT6, hZ6, HBC6, HX6⟩
          clear HH5 hT6 hZ6 HBC6 HX6
          case round =>
            obtain ⟨bk, hbk, rfl, HH, hT, hZ, hBC, hX⟩ := hrel
            have hR := hide (HRA.out _ hBC.out)
            by_cases hlt : bk < nb
            · have hlt2 : 64 * (bk : Int) < ((64 * nb : Nat) : Int) := by omega
              obtain ⟨b5, off5, rfl, hrc⟩ := hR.out (by intro e; have := HNB.out; rw [e] at this; simp at this; omega)
              have HRC := hide hrc
              clear hrc hR
              obtain ⟨bl, HBL⟩ : ∃ bl, Hid (bl = (F.drop (64 * bk)).take 64) := ⟨_, hide rfl⟩
              have HBB := hide (show ∀ i, i < 64 → bl[i]? = F[64 * bk + i]? from fun i hi => by rw [HBL.out, List.getElem?_take, if_pos hi, List.getElem?_drop])
              have hbl : bl.length = 64 := by rw [HBL.out, List.length_take, List.length_drop, HNB.out]; omega
              have HBS := hide hbl
              obtain ⟨cs, HCS⟩ : ∃ cs : Array Value, Hid (cs = (us (List.replicate 64 0)).toArray) := ⟨_, hide rfl⟩
              have hmk := fun W => run_make_words W
              rw [← HCS.out] at hmk
              obtain ⟨w0, hw0⟩ : ∃ x, x = wr := ⟨_, rfl⟩
              subst hw0
              clear hbl
              go_wp2
              generalize hW : w0.alloc (.cells cs 27) = w6
              obtain ⟨gw, HGW⟩ : ∃ gw, Hid (gw = w0.heap.size) := ⟨_, hide rfl⟩
              rw [← HGW.out]
              have HX6 : Hid (Ext w0 w6) := hide (by rw [← hW]; exact Ext.alloc _ _)
              have HW6 : Hid (Wds w6 gw 27 (List.replicate 64 0)) := hide (by rw [← hW, HGW.out, HCS.out]; exact heap_alloc_new _ _)
              have HGG : Hid (gh + 1 ≤ gw) := hide (by rw [HGW.out]; have h1 := Rw.lt HH.out; omega)
              clear hmk hW
              have hlb : 64 * bk + 64 ≤ 64 * nb := by omega
              go_loopw [11] (fun i wr => ∃ a : Nat, a ≤ 16 ∧ i = .int .i64 (a : Int) ∧ Hid (Wds wr gw 27 (firstW bl a ++ List.replicate (64 - a) 0)) ∧ Hid (Ext w0 wr)) (fun i _ => 16 - (intOf i).toNat)
              case atStart => exact ⟨0, by omega, rfl, HW6, HX6⟩
              clear HW6
              case round =>
                obtain ⟨a, ha, rfl, HW, HB⟩ := hrel
                by_cases hla : a < 16
                · obtain ⟨wd, hwd⟩ : ∃ x, x = wr := ⟨_, rfl⟩
                  subst hwd
                  have HFL := hide (firstW_length bl a)
                  go_wp2
                  go_loopw [12] (fun i wr => ∃ q : Nat, q ≤ 4 ∧ i = .int .i64 (q : Int) ∧ Hid (Wds wr gw 27 (firstW bl a ++ partW bl a q :: List.replicate (63 - a) 0)) ∧ Hid (Ext w0 wr)) (fun i _ => 4 - (intOf i).toNat)
                  case atStart => exact ⟨0, by omega, rfl, hide (by have h1 := HW.out; rw [show 64 - a = (63 - a) + 1 by omega, List.replicate_succ] at h1; exact h1), HB⟩
                  clear HW HB
                  case round =>
                    obtain ⟨q, hq, rfl, HW, HB⟩ := hrel
                    by_cases hlq : q < 4
                    · obtain ⟨y, hy⟩ : ∃ y, F[64 * bk + 4 * a + q]? = some y := ⟨_, List.getElem?_eq_getElem (by rw [HNB.out]; omega)⟩
                      have cy := (Ext.keeps HB.out).cell (HRC.out _ _ hy)
                      obtain ⟨x, HXX⟩ : ∃ x, Hid (partW bl a q = x) := ⟨_, hide rfl⟩
                      rw [HXX.out] at HW
                      have cx := Wds.cell HW.out (i := a) (n := x) (by rw [List.getElem?_append_right (by rw [HFL.out]; exact Nat.le_refl _), HFL.out, Nat.sub_self]; rfl)
                      have fx := Wds.frozen HW.out a
                      have hy2 := y.toNat_lt
                      have HBY := hide (byteAt_some (show bl[4 * a + q]? = some y by rw [HBB.out _ (by omega), ← Nat.add_assoc]; exact hy))
                      clear hy
                      go_wp2
                      go_region
                      go_wp2
                      refine ⟨⟨q + 1, by omega, by go_num, hide ?_, hide ?_⟩, by simp [intOf]; omega⟩
                      · refine Wds.put (w := wr) HW.out a (partW bl a (q + 1)) ?_ ?_
                        · rw [partW, HXX.out, HBY.out]
                          omega
                        · rw [List.set_append_right _ _ (by rw [HFL.out]; exact Nat.le_refl _), HFL.out, Nat.sub_self]
                          rfl
                      · exact Ext.setDrew (p := ⟨gw, a, none⟩) HB.out (by show w0.heap.size ≤ gw; rw [HGW.out]; exact Nat.le_refl _) _
                    · have hge2 : ¬ (q : Int) < 4 := by omega
                      have HW2 : Hid (Wds wr gw 27 (firstW bl (a + 1) ++ List.replicate (64 - (a + 1)) 0)) := hide (by
                        have e : q = 4 := by omega
                        have h1 := HW.out
                        rw [e, partW_four] at h1
                        rw [firstW, show 64 - (a + 1) = 63 - a by omega, List.append_assoc]
                        exact h1)
                      clear HW hlq hq
                      go_wp2
                      exact ⟨⟨a + 1, by omega, by go_num, HW2, HB⟩, by simp [intOf]; omega⟩
                · have hge2 : ¬ (a : Int) < 16 := by omega
                  have HW2 : Hid (Wds wr gw 27 (firstW bl 16 ++ List.replicate 48 0)) := hide (by
                    have e : a = 16 := by omega
                    have h1 := HW.out
                    rw [e] at h1
                    exact h1)
                  obtain ⟨wd, hwd⟩ : ∃ x, x = wr := ⟨_, rfl⟩
                  subst hwd
                  clear HW hla ha
                  go_wp2
                  go_loopw [13] (fun i wr => ∃ p : Nat, 16 ≤ p ∧ p ≤ 64 ∧ i = .int .i64 (p : Int) ∧ Hid (Wds wr gw 27 (moreW (firstW bl 16) (p - 16) ++ List.replicate (64 - p) 0)) ∧ Hid (Ext w0 wr)) (fun i _ => 64 - (intOf i).toNat)
                  case atStart => exact ⟨16, Nat.le_refl _, by omega, rfl, HW2, HB⟩
                  clear HW2 HB
                  case round =>
                    obtain ⟨p, hp0, hp, rfl, HW, HB⟩ := hrel
                    by_cases hlp : p < 64
                    · have hlen : (moreW (firstW bl 16) (p - 16)).length = p := by rw [moreW_length, firstW_length]; omega
                      have hmlt := moreW_lt _ (firstW_lt bl 16) (p - 16)
                      obtain ⟨q, HQ⟩ : ∃ q, Hid (moreW (firstW bl 16) (p - 16) = q) := ⟨_, hide rfl⟩
                      have hw := HW.out
                      rw [HQ.out] at hw hlen hmlt
                      obtain ⟨we, hwe⟩ : ∃ x, x = wr := ⟨_, rfl⟩
                      subst hwe
                      have gt : ∀ j, 0 < j → j ≤ 16 → ∃ x, q.getD (p - j) 0 = x ∧ x < 4294967296 ∧ Hid (∀ W, Wds W gw 27 (q ++ List.replicate (64 - p) 0) → W.cell? ⟨gw, p - j, none⟩ = some (.int .u32 (x : Int))) := fun j h1 h2 => by
                        have hlt : p - j < q.length := by omega
                        refine ⟨q[p - j], ?_, hmlt _ (List.getElem_mem _), hide fun W hW => hW.cell ?_⟩
                        · rw [List.getD_eq_getElem?_getD, List.getElem?_eq_getElem hlt]; rfl
                        · rw [List.getElem?_append_left hlt, List.getElem?_eq_getElem hlt]
                      obtain ⟨x2, g2, l2, C2⟩ := gt 2 (by omega) (by omega)
                      obtain ⟨x15, g15, l15, C15⟩ := gt 15 (by omega) (by omega)
                      obtain ⟨x7, g7, l7, C7⟩ := gt 7 (by omega) (by omega)
                      obtain ⟨x16, g16, l16, C16⟩ := gt 16 (by omega) (by omega)
                      have HN2 := hide (show moreW (firstW bl 16) (p + 1 - 16) = q ++ [(sig1 x2 + x7 + sig0 x15 + x16) % 4294967296] by
                        rw [show p + 1 - 16 = (p - 16) + 1 by omega, moreW, HQ.out]
                        unfold nextW
                        rw [show 16 + (p - 16) = p by omega, g2, g7, g15, g16])
                      obtain ⟨y, hy⟩ : ∃ y, (q ++ List.replicate (64 - p) 0)[p]? = some y := ⟨_, List.getElem?_eq_getElem (by simp; omega)⟩
                      have HY := hide hy
                      have b2 : (2 : Int) ≤ p := by omega
                      have b15 : (15 : Int) ≤ p := by omega
                      have b7 : (7 : Int) ≤ p := by omega
                      have b16 : (16 : Int) ≤ p := by omega
                      have hlp2 : (p : Int) < 64 := by omega
                      have K7 := hide fun W => (show Calls Tryd.prog 78 #[.int .u32 (x15 : Int), .int .i64 7] W (Drw (.int .u32 (rotr 7 x15 : Int)) W) from rturn_any 7 (by decide) (by decide) x15 l15 W)
                      have K18 := hide fun W => (show Calls Tryd.prog 78 #[.int .u32 (x15 : Int), .int .i64 18] W (Drw (.int .u32 (rotr 18 x15 : Int)) W) from rturn_any 18 (by decide) (by decide) x15 l15 W)
                      have K17 := hide fun W => (show Calls Tryd.prog 78 #[.int .u32 (x2 : Int), .int .i64 17] W (Drw (.int .u32 (rotr 17 x2 : Int)) W) from rturn_any 17 (by decide) (by decide) x2 l2 W)
                      have K19 := hide fun W => (show Calls Tryd.prog 78 #[.int .u32 (x2 : Int), .int .i64 19] W (Drw (.int .u32 (rotr 19 x2 : Int)) W) from rturn_any 19 (by decide) (by decide) x2 l2 W)
                      have HLEN := hide hlen
                      have HSW := hide hw
                      have y1 := u32_xor_nat (rotr 7 x15) (rotr 18 x15) (rotr_lt _ _ l15) (rotr_lt _ _ l15)
                      have y2 : bits .xor .u32 ((rotr 7 x15 ^^^ rotr 18 x15 : Nat) : Int) ((x15 : Int) / 8) = (sig0 x15 : Int) := by
                        have := u32_xor_nat (rotr 7 x15 ^^^ rotr 18 x15) (x15 / 8) (xor_lt32 (rotr_lt _ _ l15) (rotr_lt _ _ l15)) (by omega)
                        rw [Int.natCast_ediv] at this
                        exact this
                      have x1 := u32_xor_nat (rotr 17 x2) (rotr 19 x2) (rotr_lt _ _ l2) (rotr_lt _ _ l2)
                      have x3 : bits .xor .u32 ((rotr 17 x2 ^^^ rotr 19 x2 : Nat) : Int) ((x2 : Int) / 1024) = (sig1 x2 : Int) := by
                        have := u32_xor_nat (rotr 17 x2 ^^^ rotr 19 x2) (x2 / 1024) (xor_lt32 (rotr_lt _ _ l2) (rotr_lt _ _ l2)) (by omega)
                        rw [Int.natCast_ediv] at this
                        exact this
                      have c15 := C15.out _ hw
                      clear hy gt g2 g15 g7 g16 hw hmlt hlen HW
                      go_wp2
                      go_quiet (first
                        | (go_at_call 78; (with_reducible show Calls _ _ #[_, Value.int .i64 7] _ _); exact Calls.quiet_of (K7.out _))
                        | (go_at_call 78; (with_reducible show Calls _ _ #[_, Value.int .i64 18] _ _); exact Calls.quiet_of (K18.out _)))
                      generalize hwf : we.drewN nq = wf
                      have HSF : Hid (Wds wf gw 27 (q ++ List.replicate (64 - p) 0)) := hide (by rw [← hwf]; exact HSW.out)
                      have HBF : Hid (Ext w0 wf) := hide (by rw [← hwf]; exact HB.out.drewN _)
                      clear hwf HB HSW c15 K7 K18 y1 y2
                      have c2 := C2.out _ HSF.out
                      go_wp2
                      go_quiet (first
                        | (go_at_call 78; (with_reducible show Calls _ _ #[_, Value.int .i64 17] _ _); exact Calls.quiet_of (K17.out _))
                        | (go_at_call 78; (with_reducible show Calls _ _ #[_, Value.int .i64 19] _ _); exact Calls.quiet_of (K19.out _)))
                      generalize hwg : wf.drewN nq = wg
                      have HSG : Hid (Wds wg gw 27 (q ++ List.replicate (64 - p) 0)) := hide (by rw [← hwg]; exact HSF.out)
                      have HBG : Hid (Ext w0 wg) := hide (by rw [← hwg]; exact HBF.out.drewN _)
                      clear hwg HBF HSF c2 K17 K19 x1 x3
                      have c16 := C16.out _ HSG.out
                      have c7 := C7.out _ HSG.out
                      have cc := HSG.out.cell HY.out
                      have cf := HSG.out.frozen p
                      go_wp2
                      go_region
                      go_wp2
                      refine ⟨⟨p + 1, by omega, by omega, by go_num, hide ?_, hide ?_⟩, by simp [intOf]; omega⟩
                      · refine Wds.put (w := wg) HSG.out p ((sig1 x2 + x7 + sig0 x15 + x16) % 4294967296) (by omega) ?_
                        rw [HN2.out, set_mid _ _ _ _ HLEN.out.symm (by omega)]
                        rfl
                      · exact Ext.setDrew (p := ⟨gw, p, none⟩) HBG.out (by show w0.heap.size ≤ gw; rw [HGW.out]; exact Nat.le_refl _) _
                    · have hge2 : ¬ (p : Int) < 64 := by omega
                      have HSCH : Hid (Wds wr gw 27 (sched bl)) := hide (by
                        have e : p = 64 := by omega
                        have h1 := HW.out
                        rw [e, show 64 - 64 = 0 from rfl, List.replicate_zero, List.append_nil] at h1
                        exact h1)
                      have HBL2 := HB
                      obtain ⟨we, hwe⟩ : ∃ x, x = wr := ⟨_, rfl⟩
                      subst hwe
                      obtain ⟨s0, HS0⟩ : ∃ s, Hid (absS start0 F bk = s) := ⟨_, hide rfl⟩
                      have HSOK := hide (show s0.ok by rw [← HS0.out]; exact absS_ok start0_ok F bk)
                      have HSN := hide (show absS start0 F (bk + 1) = s0.plus (s0.rounds (sched bl) 64) by rw [absS, HS0.out, ← HBL.out]; rfl)
                      have HHW := Wds.ext HH.out HB.out
                      rw [HS0.out] at HHW
                      have v0 := HHW.cell (i := 0) (n := s0.a) rfl
                      have v1' := HHW.cell (i := 1) (n := s0.b) rfl
                      have v2' := HHW.cell (i := 2) (n := s0.c) rfl
                      have v3 := HHW.cell (i := 3) (n := s0.d) rfl
                      have v4 := HHW.cell (i := 4) (n := s0.e) rfl
                      have v5 := HHW.cell (i := 5) (n := s0.f) rfl
                      have v6' := HHW.cell (i := 6) (n := s0.g) rfl
                      have v7 := HHW.cell (i := 7) (n := s0.h) rfl
                      have HHS := hide HHW
                      clear HW hlp hp HB HHW hp0
                      go_wp2
                      clear v0 v1' v2' v3 v4 v5 v6' v7
                      go_loopw [16, 17, 18, 19, 20, 21, 22, 23, 24] (fun xa xb xc xd xe xf xg xh i wr => ∃ r : Nat, r ≤ 64 ∧ ∃ st : Sta, Hid (s0.rounds (sched bl) r = st) ∧ xa = .int .u32 (st.a : Int) ∧ xb = .int .u32 (st.b : Int) ∧ xc = .int .u32 (st.c : Int) ∧ xd = .int .u32 (st.d : Int) ∧ xe = .int .u32 (st.e : Int) ∧ xf = .int .u32 (st.f : Int) ∧ xg = .int .u32 (st.g : Int) ∧ xh = .int .u32 (st.h : Int) ∧ i = .int .i64 (r : Int) ∧ Hid (Ext we wr)) (fun _ _ _ _ _ _ _ _ i _ => 64 - (intOf i).toNat)
                      case atStart => exact ⟨0, by omega, s0, hide rfl, rfl, rfl, rfl, rfl, rfl, rfl, rfl, rfl, rfl, hide (Ext.refl _)⟩
                      case round =>
                        obtain ⟨r, hr64, ⟨sa, sb, sc, sd, se, sf, sg, sh⟩, HST, rfl, rfl, rfl, rfl, rfl, rfl, rfl, rfl, rfl, HBR⟩ := hrel
                        by_cases hlr : r < 64
                        · have hok := Sta.rounds_ok HSOK.out (sched bl) r
                          rw [HST.out] at hok
                          have osa : sa < 4294967296 := hok.a
                          have osb : sb < 4294967296 := hok.b
                          have osc : sc < 4294967296 := hok.c
                          have osd : sd < 4294967296 := hok.d
                          have ose : se < 4294967296 := hok.e
                          have osf : sf < 4294967296 := hok.f
                          have osg : sg < 4294967296 := hok.g
                          have osh : sh < 4294967296 := hok.h
                          obtain ⟨q, hq⟩ : ∃ q, (sched bl)[r]? = some q := ⟨_, List.getElem?_eq_getElem (by rw [sched_length]; exact hlr)⟩
                          obtain ⟨rk, hrk⟩ : ∃ q, roundW[r]? = some q := ⟨_, List.getElem?_eq_getElem (by simpa [roundW] using hlr)⟩
                          have HN3 := hide (show s0.rounds (sched bl) (r + 1) = (Sta.mk sa sb sc sd se sf sg sh).next rk q by rw [Sta.rounds, HST.out, List.getD_eq_getElem?_getD, List.getD_eq_getElem?_getD, hq, hrk]; rfl)
                          obtain ⟨wh, hwh⟩ : ∃ x, x = wr := ⟨_, rfl⟩
                          subst hwh
                          have cq := (Wds.ext HSCH.out HBR.out).cell hq
                          have ck := (Wds.ext (Wds.ext hT.out HBL2.out) HBR.out).cell (i := 8 + r) (n := rk) (by rw [htb.out, List.getElem?_append_right (show startW.length ≤ 8 + r from Nat.le_add_right 8 r), show 8 + r - startW.length = r from Nat.add_sub_cancel_left 8 r]; exact hrk)
                          have e1 := u32_xor_nat (rotr 6 se) (rotr 11 se) (rotr_lt _ _ ose) (rotr_lt _ _ ose)
                          have e2 : bits .xor .u32 ((rotr 6 se ^^^ rotr 11 se : Nat) : Int) (rotr 25 se : Int) = (tri 6 11 25 se : Int) := u32_xor_nat (rotr 6 se ^^^ rotr 11 se) (rotr 25 se) (xor_lt32 (rotr_lt _ _ ose) (rotr_lt _ _ ose)) (rotr_lt _ _ ose)
                          have e3 := u32_and_nat se sf ose osf
                          have e4 := not_word se ose
                          have e5 := u32_and_nat (4294967295 - se) sg (by omega) osg
                          have e6 : bits .or .u32 ((se &&& sf : Nat) : Int) (((4294967295 - se) &&& sg : Nat) : Int) = (chf se sf sg : Int) := by rw [← chf_or se sf sg ose]; exact u32_or_nat _ _ (and_lt32 ose) (and_lt32 (by omega))
                          have es : ¬ IntKind.u32.signed = true := by decide
                          have K6 := hide fun W => (show Calls Tryd.prog 78 #[.int .u32 (se : Int), .int .i64 6] W (Drw (.int .u32 (rotr 6 se : Int)) W) from rturn_any 6 (by decide) (by decide) se ose W)
                          have K11 := hide fun W => (show Calls Tryd.prog 78 #[.int .u32 (se : Int), .int .i64 11] W (Drw (.int .u32 (rotr 11 se : Int)) W) from rturn_any 11 (by decide) (by decide) se ose W)
                          have K25 := hide fun W => (show Calls Tryd.prog 78 #[.int .u32 (se : Int), .int .i64 25] W (Drw (.int .u32 (rotr 25 se : Int)) W) from rturn_any 25 (by decide) (by decide) se ose W)
                          have K2 := hide fun W => (show Calls Tryd.prog 78 #[.int .u32 (sa : Int), .int .i64 2] W (Drw (.int .u32 (rotr 2 sa : Int)) W) from rturn_any 2 (by decide) (by decide) sa osa W)
                          have K13 := hide fun W => (show Calls Tryd.prog 78 #[.int .u32 (sa : Int), .int .i64 13] W (Drw (.int .u32 (rotr 13 sa : Int)) W) from rturn_any 13 (by decide) (by decide) sa osa W)
                          have K22 := hide fun W => (show Calls Tryd.prog 78 #[.int .u32 (sa : Int), .int .i64 22] W (Drw (.int .u32 (rotr 22 sa : Int)) W) from rturn_any 22 (by decide) (by decide) sa osa W)
                          have hlr2 : (r : Int) < 64 := by omega
                          clear hq hrk hok
                          go_wp2
                          go_quiet (first
                            | (go_at_call 78; (with_reducible show Calls _ _ #[_, Value.int .i64 6] _ _); exact Calls.quiet_of (K6.out _))
                            | (go_at_call 78; (with_reducible show Calls _ _ #[_, Value.int .i64 11] _ _); exact Calls.quiet_of (K11.out _))
                            | (go_at_call 78; (with_reducible show Calls _ _ #[_, Value.int .i64 25] _ _); exact Calls.quiet_of (K25.out _)))
                          generalize hwi : wh.drewN nq = wi
                          have HBI : Hid (Ext we wi) := hide (by rw [← hwi]; exact HBR.out.drewN _)
                          clear hwi HBR cq ck K6 K11 K25 e1 e2 e3 e4 e5 e6
                          have f1 := u32_xor_nat (rotr 2 sa) (rotr 13 sa) (rotr_lt _ _ osa) (rotr_lt _ _ osa)
                          have f2 : bits .xor .u32 ((rotr 2 sa ^^^ rotr 13 sa : Nat) : Int) (rotr 22 sa : Int) = (tri 2 13 22 sa : Int) := u32_xor_nat (rotr 2 sa ^^^ rotr 13 sa) (rotr 22 sa) (xor_lt32 (rotr_lt _ _ osa) (rotr_lt _ _ osa)) (rotr_lt _ _ osa)
                          have f3 := u32_and_nat sa sb osa osb
                          have f4 := u32_and_nat sa sc osa osc
                          have f5 := u32_and_nat sb sc osb osc
                          have f6 := u32_or_nat (sa &&& sb) (sa &&& sc) (and_lt32 osa) (and_lt32 osa)
                          have f7 : bits .or .u32 (((sa &&& sb) ||| (sa &&& sc) : Nat) : Int) ((sb &&& sc : Nat) : Int) = (maj sa sb sc : Int) := by rw [← maj_or sa sb sc]; exact u32_or_nat _ _ (or_lt32 (and_lt32 osa) (and_lt32 osa)) (and_lt32 osb)
                          obtain ⟨t1, HT1, ht1⟩ : ∃ z : Nat, Hid ((Sta.mk sa sb sc sd se sf sg sh).t1 rk q = z) ∧ z < 4294967296 := ⟨_, hide rfl, Nat.mod_lt _ (by decide)⟩
                          have et : (((sh : Int) + (tri 6 11 25 se : Int) + (chf se sf sg : Int) + (rk : Int)) % 4294967296 + (q : Int)) % 4294967296 = (t1 : Int) := by
                            rw [← HT1.out]
                            simp only [Sta.t1]
                            omega
                          obtain ⟨t2, HT2, ht2⟩ : ∃ z : Nat, Hid ((Sta.mk sa sb sc sd se sf sg sh).t2 = z) ∧ z < 4294967296 := ⟨_, hide rfl, Nat.mod_lt _ (by decide)⟩
                          have eu : ((tri 2 13 22 sa : Int) + (maj sa sb sc : Int)) % 4294967296 = (t2 : Int) := by
                            rw [← HT2.out]
                            simp only [Sta.t2]
                            omega
                          rw [et]
                          clear et
                          go_wp2_with (first
                            | (go_at_call 78; (with_reducible show Calls _ _ #[_, Value.int .i64 2] _ _); refine (K2.out _).mono ?_; rintro e w2 ⟨rfl, m2, rfl⟩)
                            | (go_at_call 78; (with_reducible show Calls _ _ #[_, Value.int .i64 13] _ _); refine (K13.out _).mono ?_; rintro e w13 ⟨rfl, m13, rfl⟩)
                            | (go_at_call 78; (with_reducible show Calls _ _ #[_, Value.int .i64 22] _ _); refine (K22.out _).mono ?_; rintro e w22 ⟨rfl, m22, rfl⟩))
                          exact ⟨⟨r + 1, by omega, Sta.mk ((t1 + t2) % 4294967296) sa sb sc ((sd + t1) % 4294967296) se sf sg, hide (by rw [HN3.out]; simp only [Sta.next]; rw [HT1.out, HT2.out]), by congr 1, rfl, rfl, rfl, by congr 1, rfl, rfl, rfl, by go_num, hide (HBI.out.drewN _)⟩, by simp [intOf]; omega⟩
                        · have hge3 : ¬ (r : Int) < 64 := by omega
                          have HST2 : Hid (absS start0 F (bk + 1) = s0.plus (Sta.mk sa sb sc sd se sf sg sh)) := hide (by
                            have e : r = 64 := by omega
                            have h1 := HST.out
                            rw [e] at h1
                            rw [HSN.out, h1])
                          have HHR : Hid (Wds wr gh 28 s0.list) := hide (Wds.ext HHS.out HBR.out)
                          obtain ⟨oa, ob, oc, od, oe, of', og, oh⟩ := s0
                          have v0 := HHR.out.cell (i := 0) (n := oa) rfl
                          have v1' := HHR.out.cell (i := 1) (n := ob) rfl
                          have v2' := HHR.out.cell (i := 2) (n := oc) rfl
                          have v3 := HHR.out.cell (i := 3) (n := od) rfl
                          have v4 := HHR.out.cell (i := 4) (n := oe) rfl
                          have v5 := HHR.out.cell (i := 5) (n := of') rfl
                          have v6' := HHR.out.cell (i := 6) (n := og) rfl
                          have v7 := HHR.out.cell (i := 7) (n := oh) rfl
                          have f0 := HHR.out.frozen 0
                          have f1 := HHR.out.frozen 1
                          have f2 := HHR.out.frozen 2
                          have f3 := HHR.out.frozen 3
                          have f4 := HHR.out.frozen 4
                          have f5 := HHR.out.frozen 5
                          have f6 := HHR.out.frozen 6
                          have f7 := HHR.out.frozen 7
                          have HBW0 : Hid (Below gh w0 wr) := hide (Below.mono (HBL2.out.trans HBR.out) (by have := HGG.out; rw [HGW.out] at this; omega))
                          go_wp2
                          refine ⟨⟨bk + 1, by omega, by congr 1 <;> omega, hide ?_, hide ?_, hide ?_, hide ?_, hide ?_⟩, by simp [intOf] <;> omega⟩
                          · rw [HST2.out]
                            have p0 := Wds.put HHR.out 0 ((oa + sa) % 4294967296) (show ((oa : Int) + (sa : Int)) % 4294967296 = (((oa + sa) % 4294967296 : Nat) : Int) by omega) rfl
                            have p1 := Wds.put p0 1 ((ob + sb) % 4294967296) (show ((ob : Int) + (sb : Int)) % 4294967296 = (((ob + sb) % 4294967296 : Nat) : Int) by omega) rfl
                            have p2 := Wds.put p1 2 ((oc + sc) % 4294967296) (show ((oc : Int) + (sc : Int)) % 4294967296 = (((oc + sc) % 4294967296 : Nat) : Int) by omega) rfl
                            have p3 := Wds.put p2 3 ((od + sd) % 4294967296) (show ((od : Int) + (sd : Int)) % 4294967296 = (((od + sd) % 4294967296 : Nat) : Int) by omega) rfl
                            have p4 := Wds.put p3 4 ((oe + se) % 4294967296) (show ((oe : Int) + (se : Int)) % 4294967296 = (((oe + se) % 4294967296 : Nat) : Int) by omega) rfl
                            have p5 := Wds.put p4 5 ((of' + sf) % 4294967296) (show ((of' : Int) + (sf : Int)) % 4294967296 = (((of' + sf) % 4294967296 : Nat) : Int) by omega) rfl
                            have p6 := Wds.put p5 6 ((og + sg) % 4294967296) (show ((og : Int) + (sg : Int)) % 4294967296 = (((og + sg) % 4294967296 : Nat) : Int) by omega) rfl
                            have p7 := Wds.put p6 7 ((oh + sh) % 4294967296) (show ((oh : Int) + (sh : Int)) % 4294967296 = (((oh + sh) % 4294967296 : Nat) : Int) by omega) rfl
                            exact p7
                          · exact Wds.below (Wds.ext (Wds.ext hT.out HBL2.out) HBR.out) (Below.set8 (Below.refl gh wr) (Nat.le_refl _) _ _ _ _ _ _ _ _) (by omega)
                          · exact Rw.below (Rw.ext (Rw.ext hZ.out HBL2.out) HBR.out) (Below.set8 (Below.refl gh wr) (Nat.le_refl _) _ _ _ _ _ _ _ _) (by omega)
                          · exact Below.trans hBC.out (Below.set8 HBW0.out (Nat.le_refl _) _ _ _ _ _ _ _ _)
                          · exact Below.trans hX.out (Below.mono (Below.set8 HBW0.out (Nat.le_refl _) _ _ _ _ _ _ _ _) (by omega))
            · have hge : ¬ 64 * (bk : Int) < ((64 * nb : Nat) : Int) := by omega
              obtain ⟨sN, HSN⟩ : ∃ s, Hid (absorb start0 F = s) := ⟨_, hide rfl⟩
              have HHN : Hid (Wds wr gh 28 sN.list) := hide (by
                have e : bk = nb := by omega
                have h1 := HH.out
                rw [e] at h1
                rw [← HSN.out]
                unfold absorb
                rw [HNB.out, Nat.mul_div_cancel_left nb (by decide)]
                exact h1)
              have HOO : Hid (o = sN.out) := hide (by rw [HSHA.out, HSN.out])
              have hol : o.length = 32 := by rw [HOO.out]; rfl
              have HOL := hide hol
              obtain ⟨wz, hwz⟩ : ∃ x, x = wr := ⟨_, rfl⟩
              subst hwz
              obtain ⟨cs, HCS⟩ : ∃ cs : Array Value, Hid (cs = (bs (List.replicate 32 0)).toArray) := ⟨_, hide rfl⟩
              have HGL := hide (Rw.lt HH.out)
              clear hol HH hlt hbk
              go_wp2
              go_loopw [28] (fun i wr => ∃ p : Nat, p ≤ 32 ∧ i = .int .i64 (p : Int) ∧ Hid (Rw wr wz.heap.size 24 (bs (o.take p ++ List.replicate (32 - p) 0))) ∧ Hid (Wds wr gh 28 sN.list) ∧ Hid (Rw wr (g + 1) 24 (bs (List.replicate 32 0))) ∧ Hid (Ext wz wr)) (fun i _ => 32 - (intOf i).toNat)
              case atStart => exact ⟨0, by omega, rfl, hide (heap_alloc_new wz _), hide (Wds.ext HHN.out (Ext.alloc wz _)), hide (Rw.ext hZ.out (Ext.alloc wz _)), hide (Ext.alloc wz _)⟩
              clear HHN hZ
              case round =>
                obtain ⟨p, hp, rfl, HR, HH, hZ, hXZ⟩ := hrel
                by_cases hlp : p < 32
                · obtain ⟨k4, j4, hkj, hj4⟩ : ∃ k4 j4 : Nat, p = 4 * k4 + j4 ∧ j4 < 4 := ⟨p / 4, p % 4, by omega, by omega⟩
                  obtain ⟨x, hxk⟩ : ∃ x, sN.list[k4]? = some x := ⟨_, List.getElem?_eq_getElem (show k4 < 8 by omega)⟩
                  have HOG := hide (show o[p]? = some (b8n (x / 2 ^ (24 - 8 * j4))) by rw [HOO.out, hkj]; exact out_get sN k4 j4 x hj4 hxk)
                  have cx := HH.out.cell hxk
                  have q1 : (p : Int) / 4 = (k4 : Int) := by omega
                  have q2 : (p : Int) % 4 = (j4 : Int) := by omega
                  have hk8 : k4 < 8 := by omega
                  have HHP := hide hkj
                  obtain ⟨yy, hyy⟩ : ∃ y, (bs (o.take p ++ List.replicate (32 - p) 0))[p]? = some y := ⟨_, List.getElem?_eq_getElem (by rw [bs_length, List.length_append, List.length_take, List.length_replicate, HOL.out]; omega)⟩
                  have cy := Rw.cell HR.out hyy
                  have fy := Rw.frozen HR.out p
                  clear hxk hyy hkj
                  go_wp2
                  refine ⟨⟨p + 1, by omega, by go_num, hide ?_, hide ?_, hide ?_, hide ?_⟩, by simp [intOf]; omega⟩
                  · exact byte_step HR.out HOL.out HOG.out (word_byte x j4)
                  · exact Wds.far HH.out (by show gh ≠ wz.heap.size; have := HGL.out; omega) _
                  · exact Rw.far hZ.out (by show g + 1 ≠ wz.heap.size; have := HGL.out; omega) _
                  · exact Below.set hXZ.out (by show wz.heap.size ≤ wz.heap.size; exact Nat.le_refl _) _
                · have hge2 : ¬ (p : Int) < 32 := by omega
                  have HRF : Hid (Rw wr wz.heap.size 24 (bs o)) := hide (by
                    have e : p = 32 := by omega
                    have h1 := HR.out
                    rw [e, List.take_of_length_le (by rw [HOL.out]; exact Nat.le_refl _), show 32 - 32 = 0 from rfl, List.replicate_zero, List.append_nil] at h1
                    exact h1)
                  have HXW : Hid (Ext w wr) := hide (hX.out.trans hXZ.out)
                  clear HR hlp hp
                  go_wp2_with (first
                    | ((with_reducible show wpList _ _ _ (⟨some 293, .load _ _, _, _, _, _⟩ :: _) _ _);
                       refine wpList_load_rw rfl 24 (.tmp 27) rfl _ rfl 24 (bs o) HRF.out 32 5 Tryd.underlying24 (by kernel_rfl) (by rw [bs_length, HOL.out]) ?_)
                    | ((with_reducible show wpList _ _ _ (⟨none, .store _ (.tmp 4) _, _, _, _, _⟩ :: _) _ _);
                       refine wpList_store_rw rfl 24 (.tmp 4) (.tmp 293) rfl _ rfl (bs o) rfl 24 (bs (List.replicate 32 0)) hZ.out 32 (by kernel_rfl) (by rw [bs_length, HOL.out]) (by rw [bs_length, bs_length, HOL.out]; rfl) (List.all_eq_true.2 (bs_one _)) ?_;
                       intro w9 hr9 hl9))
                  exact ret_rw rfl rfl _ rfl _ _ hr9 32 5 Tryd.underlying24 (by kernel_rfl) (by rw [bs_length, HOL.out]) (Ret.mk (HXW.out.laid hl9 (by omega)) rfl)
    · have hk2 : k + 1 ≤ pn := by
        have h1 := pad_more l k (by rw [HPN.out]; exact hk) (by rw [HLN.out]; exact hgo)
        rw [HPN.out] at h1
        exact h1
      have hgo2 : ¬ (m : Int) % 64 = 56 := by omega
      have hsz := Below.size hbk
      have hsB : B ≤ wr.heap.size := Nat.le_trans hs1 hsz
      clear hgo hr9 hlc9
      go_wp2_with (at_builtin; refine wpList_push rfl (.tmp 39) (.tmp 40) rfl B _ _ rfl rfl HOk.out (by decide) (by decide) hsB (by rw [HLN.out]; omega) ?_; intro v6 w6 hown6 hb6; have HO6 : Hid (Own w6 B v6 (padS l (k + 1))) := hide (by rw [padS, List.replicate_succ', ← List.append_assoc]; exact hown6); clear hown6)
      obtain ⟨C6, c6, rfl, _, _⟩ := HO6.out.bytes
      refine ⟨⟨k + 1, hk2, HO6, Below.trans hbk hb6⟩, ?_⟩
      rw [padS_length, HN.out]
      show n + 100 - _ < n + 100 - _
      rw [HM.out]
      omega
end Go.Proofs.YtmanflfanoddgaaDoor
