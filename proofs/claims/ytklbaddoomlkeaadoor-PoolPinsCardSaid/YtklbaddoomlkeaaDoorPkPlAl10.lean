/-
  The law with fewer frames than pages: its walk.
  PoolSteals: for every two numbers and every bytes, of any size that the form reaches, the law answers true and leaves the bytes as they were; octet.halfBytes holds what the program's text lays.
-/
import Derived.Deep.RegionHeld3
import Derived.Test.YtklbaddoomlkeaaDoorPkPlAl0
import Derived.Test.YtklbaddoomlkeaaDoorPkPlAl9
set_option linter.unusedVariables false
set_option linter.unusedSimpArgs false

namespace Go.Proofs.YtklbaddoomlkeaaDoor
open Go.RowKit

theorem ext_cell {w w' : World} (h : Ext w w') {a : Addr} {v : Value} (hc : w.cell? a = some v) : w'.cell? a = some v := (World.cell?_of_block (Below.block h a.block (World.block_lt_of_cell? w _ hc))).trans hc
def arrV (la : Nat → UInt8) : List Value := (List.range 9).map fun j => .int .u8 ((la j).toNat : Int)
theorem arrV_at (la : Nat → UInt8) {j : Nat} (h : j < 9) : (arrV la)[j]? = some (.int .u8 ((la j).toNat : Int)) := by
  unfold arrV
  rw [List.getElem?_map, List.getElem?_range h]
  rfl
theorem arrV_set (la : Nat → UInt8) {j : Nat} (h : j < 9) (v : UInt8) : (arrV la).set j (.int .u8 (v.toNat : Int)) = arrV (fun i => if i = j then v else la i) := by
  apply List.ext_getElem?
  intro i
  unfold arrV
  by_cases hi : i < 9
  · rw [List.getElem?_map, List.getElem?_range hi]
    by_cases e : j = i
    · subst e
      rw [List.getElem?_set_self (by simpa using h)]
      simp
    · rw [List.getElem?_set_ne e, List.getElem?_map, List.getElem?_range hi]
      have e2 : ¬ i = j := fun h => e h.symm
      simp [e2]
  · rw [List.getElem?_eq_none (by simp; omega), List.getElem?_eq_none (by simp; omega)]
theorem dread_byte {w1 w : World} {b g q p k : Nat} {vs : List Value} {S : St} (h : Wz w1 w b g q p k vs S) (bd : Bd S.D) (i : Int) (y : UInt8) (h0 : gE S.D i = 0) (hl : (gB S.D i).length = 512) (hb : (gB S.D i)[11]? = some y) :
    Calls Tryd.prog 17 #[.pointer (some ⟨g, 0, none⟩), .int .i64 i] w (fun e w' => ∃ da dof cd, e = .returned (.tuple #[.slice (some ⟨da, dof, none⟩) 512 cd, .int .i64 0]) ∧ w'.cell? ⟨da, dof + 11, none⟩ = some (.int .u8 (y.toNat : Int)) ∧ Ext w w') := by
  refine (wz_dread h bd i).mono fun e w' hh => ?_
  obtain ⟨A2, n2, c2, he, hn2, -, hr2, hx2⟩ := hh
  generalize gB S.D i = l at hl hb hn2 hr2
  rw [hl] at hn2
  rw [h0, hn2] at he
  obtain ⟨da, dof, x, hA2, hx, hcx⟩ := hr2.at (k := 11) (by omega)
  rw [hb] at hx
  injection hx with hx
  rw [← hx] at hcx
  exact ⟨da, dof, c2, by rw [he, hA2], hcx, hx2⟩
section
variable {w : World}
set_option maxRecDepth 20000 in
set_option maxHeartbeats 6400000 in
theorem poolSteals_walk (fr pi : Nat) (A : Option Addr) (l : List UInt8) (n cc : Nat) (h1 : fr < 256) (h2 : pi < 256) (hT : Tab w) (hr : Rd w A l) (hn : l.length = n) (hl : n ≤ 140737488355328) : Calls Tryd.prog 4 #[.int .u8 (fr : Int), .slice A n cc, .int .u8 (pi : Int)] w (Ret w (Is (.bool true))) := by
  have KA := hide (pawake_any w hT)
  obtain ⟨F, HF⟩ : ∃ F, Hid (2 + fr % 3 = F) := ⟨_, hide rfl⟩
  have HFB : Hid (2 ≤ F ∧ F ≤ 4) := hide (by have := HF.out; omega)
  have hn1 : (2 : Int) + (fr : Int) % 3 = (F : Int) := by have := HF.out; omega
  have hn0 : IntKind.i64.wrap (fr : Int) = (fr : Int) := by rw [IntKind.wrap_i64]; omega
  have hnw : IntKind.i64.wrap (F : Int) = (F : Int) := by rw [IntKind.wrap_i64]; have := HFB.out; omega
  obtain ⟨pq, HPQ⟩ : ∃ pq, Hid (pi % 9 = pq) := ⟨_, hide rfl⟩
  have HPB : Hid (pq < 9) := hide (by have := HPQ.out; omega)
  have hq1 : (pi : Int) % 9 = (pq : Int) := by have := HPQ.out; omega
  have hq0 : IntKind.i64.wrap (pi : Int) = (pi : Int) := by rw [IntKind.wrap_i64]; omega
  have HPI := hide h2
  have HT := hide hT
  have HR := hide hr
  have HN := hide hn
  have HLB := hide hl
  have KF : Hid (∀ W, Ext w W → Calls Tryd.prog 6 #[.int .i64 9, .int .i64 (F : Int)] W (fun e w' => ∃ b g q p, e = .returned (.pointer (some ⟨b, 0, none⟩)) ∧ Hid (W.heap.size ≤ b) ∧ Hid (Wd W w' b g q p (fS 9 F)))) := hide (fun W hW => wd_fresh (n := 9) (f := F) (by decide) (by decide) ⟨by have := HFB.out; omega, by have := HFB.out; omega⟩ (HT.out.ext hW))
  obtain ⟨S1, hS1, hS1f⟩ := sl_start HPB.out HFB.out.1 HFB.out.2
  have HSF := hide hS1f
  have HFT0 : Hid ((fS 9 F).Fit 10) := hide (fresh_fit (by decide) (by decide) ⟨by have := HFB.out; omega, by have := HFB.out; omega⟩)
  obtain ⟨s0, HS0⟩ : ∃ s0, Hid (fS 9 F = s0) := ⟨_, hide rfl⟩
  rw [HS0.out] at KF HFT0 hS1
  have KPI : Hid (∀ w1 W b g q p, Ext w w1 → Wd w1 W b g q p s0 → Calls Tryd.prog 7 #[.pointer (some ⟨p, 0, none⟩), .int .i64 (pq : Int)] W (fun e w' => ∃ S, e = .returned (.int .i64 0) ∧ Wd w1 w' b g q p S ∧ Sl S F pq 54 480 (fun _ => 0))) := hide (fun w1 W b g q p hx hw => (wd_pin hw HFT0.out (by decide) (HT.out.ext hx) (pq : Int) S1 hS1).mono fun e w' hh => by
    obtain ⟨f, hf, he, hw2⟩ := hh
    rw [Int.toNat_natCast] at hf hw2
    exact ⟨_, he, hw2, HSF.out f hf⟩)
  clear hT h1 h2 hr hn hl hS1 hS1f
  go_enter Tryd.func4, Tryd.ntmps4
  go_upto_region 6 with (first
    | (go_at_call 5; (with_reducible refine KA.out.mono ?_); rintro e w1 ⟨rfl, hx1⟩; have HX1 := hide hx1; clear hx1)
    | (go_at_call 6; (with_reducible refine (KF.out w1 HX1.out).mono ?_); rintro e w2 ⟨b, g, q, p, rfl, HB, HW2⟩; have d2 := HW2.out.c2)
    | (go_at_call 7; (with_reducible refine (KPI.out w1 w2 b g q p HX1.out HW2.out).mono ?_); rintro e w3 ⟨S2, rfl, hw3, hs3⟩; have HW3 := hide hw3; have HS3 := hide hs3; clear hw3 hs3 d2))
  clear hn1 hn0 hnw hq1 hq0 KF KPI KA
  go_upto_region 8 with fail
  obtain ⟨kA, HKA⟩ : ∃ kA, Hid (w3.heap.size = kA) := ⟨_, hide rfl⟩
  obtain ⟨w4, HW4⟩ : ∃ w4, Hid (w3.alloc (.cells (arrV fun _ => 0).toArray 38) = w4) := ⟨_, hide rfl⟩
  have HZ4 : Hid (Wz w1 w4 b g q p kA (arrV fun _ => 0) S2) := hide (by
    rw [← HW4.out, ← HKA.out]
    exact wz_of HW3.out (Nat.le_refl _) _ (Ext.alloc _ _) (Rw.new w3 38 (arrV fun _ => 0)))
  rw [show (#[Value.int .u8 0, Value.int .u8 0, Value.int .u8 0, Value.int .u8 0, Value.int .u8 0, Value.int .u8 0, Value.int .u8 0, Value.int .u8 0, Value.int .u8 0] : Array Value) = (arrV fun _ => 0).toArray from rfl, HW4.out, HKA.out]
  have HTW : Hid (Tab w1) := hide (HT.out.ext HX1.out)
  go_loopw [9] (fun x wr => ∃ (i : Nat) (S : St) (la : Nat → UInt8), x = .int .i64 (i : Int) ∧ Hid (i ≤ 60 ∧ i ≤ n) ∧ Hid (Wz w1 wr b g q p kA (arrV la) S) ∧ Hid (Sl S F pq (54 + 88 * i) (480 + 3 * i) la)) (fun x _ => 61 - (intOf x).toNat)
  case atStart => exact ⟨0, S2, _, rfl, hide ⟨by omega, by omega⟩, HZ4, HS3⟩
  case round =>
    obtain ⟨i, S, la, rfl, HI, HWK, HSK⟩ := hrel
    by_cases hin : i < n
    · have hini : (i : Int) < (n : Int) := by omega
      by_cases hi6 : i < 60
      · have hi6i : (i : Int) < 60 := by omega
        obtain ⟨ab, off, x, rfl, hx, hcx⟩ := (HR.out.ext (HX1.out.trans HWK.out.ext)).at (k := i) (by rw [HN.out]; exact hin)
        obtain ⟨o, HO⟩ : ∃ o, Hid (x.toNat = o) := ⟨_, hide rfl⟩
        have HOB : Hid (o < 256) := hide (by rw [← HO.out]; exact x.toNat_lt)
        have HC : Hid (∀ W, Ext w W → W.cell? ⟨ab, off + i, none⟩ = some (.int .u8 (o : Int))) := hide (fun W hW => by
          obtain ⟨ab2, off2, x2, hA2, hx2, hcx2⟩ := (HR.out.ext hW).at (k := i) (by rw [HN.out]; exact hin)
          injection hA2 with hA2
          injection hA2 with e1 e2
          subst e1 e2
          rw [hx] at hx2
          injection hx2 with hx2
          rw [← HO.out, hx2]
          exact hcx2)
        replace hcx : wr.cell? ⟨ab, off + i, none⟩ = some (.int .u8 (o : Int)) := HC.out wr (HX1.out.trans HWK.out.ext)
        have how : IntKind.i64.wrap (o : Int) = (o : Int) := by rw [IntKind.wrap_i64]; have := HOB.out; omega
        obtain ⟨k, HK⟩ : ∃ k, Hid (o % 9 = k) := ⟨_, hide rfl⟩
        have HKB : Hid (k < 9) := hide (by have := HK.out; omega)
        have hok : (o : Int) % 9 = (k : Int) := by have := HK.out; omega
        obtain ⟨v, HV⟩ : ∃ v : UInt8, Hid (v.toNat = i + 1) := ⟨UInt8.ofNat (i + 1), hide (by simp; omega)⟩
        obtain ⟨en, HEN⟩ : ∃ en, Hid (endOf S.L = en) := ⟨_, hide rfl⟩
        have HI6 := hide (show i < n ∧ i < 60 from ⟨hin, hi6⟩)
        obtain ⟨SA, HSA⟩ : ∃ SA, Hid (apS S [x] = SA) := ⟨_, hide rfl⟩
        have HSLA : Hid (Sl SA F pq (54 + 88 * i) (480 + 3 * i + 3) la) := hide (by rw [← HSA.out]; exact sl_append HSK.out x (by omega))
        have KAP : Hid (∀ W fr, Wz w1 W b g q p kA (arrV la) S → Calls Tryd.prog 11 #[.pointer (some ⟨q, 0, none⟩), .slice (some ⟨W.heap.size, 0, none⟩) 1 1, .int .i64 0] (W.alloc (.cells #[.int .u8 (o : Int)] 5 fr)) (WQ w1 b g q p kA (arrV la) (.tuple #[.int .u64 (en : Int), .int .i64 0]) SA)) := hide (fun W fr hW => by
          have k1 := wz_append hW HSK.out.ft _ [x] 1 1 (frc_bytes x fr W) rfl (by decide) (by decide) (by rw [HSK.out.st]; decide) (sl_room HSK.out (by omega))
          rw [HEN.out, HSA.out, HO.out] at k1
          exact k1)
        have KAD : Hid (Calls Tryd.prog 11 #[.pointer (some ⟨q, 0, none⟩), .slice (some ⟨wr.heap.size, 0, none⟩) 1 1, .int .i64 0] (wr.alloc (.cells #[.int .u8 (o : Int)] 5)).drew (WQ w1 b g q p kA (arrV la) (.tuple #[.int .u64 (en : Int), .int .i64 0]) SA)) := hide (KAP.out wr.drew (0, 0) (HWK.out.ext_ (Ext.drew _)))
        have KB := hide (build_byte (o : Int))
        obtain ⟨i1, HI1⟩ : ∃ i1, Hid (i + 1 = i1) := ⟨_, hide rfl⟩
        have hkw : IntKind.i64.wrap ((i : Int) + 1) = (i1 : Int) := by rw [IntKind.wrap_i64]; have := HI1.out; omega
        have hv8 : IntKind.u8.wrap (i1 : Int) = (i1 : Int) := by rw [IntKind.wrap_u8]; have := HI1.out; omega
        have KB1 := hide (build_byte (i1 : Int))
        obtain ⟨la2, HLA⟩ : ∃ la2 : Nat → UInt8, Hid ((fun j => if j = k then v else la j) = la2) := ⟨_, hide rfl⟩
        have HSET : Hid ((arrV la).set k (.int .u8 (i1 : Int)) = arrV la2) := hide (by
          rw [← HLA.out, ← arrV_set la HKB.out v, HV.out, HI1.out])
        have KWR : Hid (∀ W, Wz w1 W b g q p kA (arrV la) SA → Calls Tryd.prog 12 #[.pointer (some ⟨p, 0, none⟩), .int .i64 (k : Int), .int .i64 3, .slice (some ⟨W.heap.size, 0, none⟩) 1 1, .int .u64 (en : Int)] (W.alloc (.cells #[.int .u8 (i1 : Int)] 5)) (fun e w' => ∃ S', e = .returned (.int .i64 0) ∧ Wz w1 w' b g q p kA (arrV la) S' ∧ Sl S' F pq (54 + 88 * i + 44) (480 + 3 * i + 3) la2)) := hide (fun W hW => by
          obtain ⟨S3, hp3, hs3, ⟨f3, hf3, -⟩, he3⟩ := sl_page HSLA.out (by omega) HKB.out
          have hr : Rd (W.alloc (.cells #[.int .u8 (i1 : Int)] 5)) (some ⟨W.heap.size, 0, none⟩) [v] := by
            have h0 := frc_bytes v (0, 0) W
            rw [HV.out, HI1.out] at h0
            exact h0
          refine (wz_write hW HSLA.out.ft (by omega) HTW.out (k : Int) S3 hp3 _ 3 [v] 1 1 hr rfl (by decide) en).mono fun e w' hh => ?_
          obtain ⟨f, hf, he, hw2⟩ := hh
          rw [Int.toNat_natCast] at hf hw2
          refine ⟨_, he, hw2, ?_⟩
          rw [← HLA.out]
          refine sl_write hs3 HKB.out hf v en ?_ (by omega)
          rw [he3, ← HSA.out, (apS_end S [x]).1, ← HEN.out]
          show endOf S.L < endOf S.L + 3
          omega)
        obtain ⟨o9, HO9⟩ : ∃ o9, Hid (o / 9 = o9) := ⟨_, hide rfl⟩
        obtain ⟨k2, HK2⟩ : ∃ k2, Hid (o9 % 9 = k2) := ⟨_, hide rfl⟩
        have HK2B : Hid (k2 < 9) := hide (by have := HK2.out; omega)
        have hq9 : (o : Int) / 9 = (o9 : Int) := by have := HO9.out; omega
        have hq8 : IntKind.u8.wrap (o9 : Int) = (o9 : Int) := by rw [IntKind.wrap_u8]; have := HO9.out; have := HOB.out; omega
        have hqw : IntKind.i64.wrap (o9 : Int) = (o9 : Int) := by rw [IntKind.wrap_i64]; have := HO9.out; have := HOB.out; omega
        have hqm : (o9 : Int) % 9 = (k2 : Int) := by have := HK2.out; omega
        have HQF := hide (show ((o : Int) / 9 = (o9 : Int) ∧ IntKind.u8.wrap (o9 : Int) = (o9 : Int)) ∧ IntKind.i64.wrap (o9 : Int) = (o9 : Int) ∧ (o9 : Int) % 9 = (k2 : Int) from ⟨⟨hq9, hq8⟩, hqw, hqm⟩)
        obtain ⟨z, HZ⟩ : ∃ z, Hid ((la2 k2).toNat = z) := ⟨_, hide rfl⟩
        have KRD : Hid (∀ W S', Wz w1 W b g q p kA (arrV la2) S' → Sl S' F pq (54 + 88 * i + 44) (480 + 3 * i + 3) la2 → Calls Tryd.prog 8 #[.pointer (some ⟨p, 0, none⟩), .int .i64 (k2 : Int)] W (fun e w' => ∃ ra ro cr ls S'', e = .returned (.tuple #[.slice (some ⟨ra, ro, none⟩) 504 cr, .int .u64 ((ls : Nat) : Int), .int .i64 0]) ∧ w'.cell? ⟨ra, ro + 3, none⟩ = some (.int .u8 (z : Int)) ∧ Wz w1 w' b g q p kA (arrV la2) S'' ∧ Sl S'' F pq (54 + 88 * i1) (480 + 3 * i1) la2 ∧ ls < endOf S''.L)) := hide (fun W S' hW hS => by
          obtain ⟨S3, hp3, hs3, ⟨f3, hf3, hc3⟩, he3⟩ := sl_page hS (by omega) HK2B.out
          refine (wz_read hW hS.ft (by omega) HTW.out (k2 : Int) S3 hp3).mono fun e w' hh => ?_
          obtain ⟨f, A2, c2, hf, he, hrd, hw2⟩ := hh
          rw [Int.toNat_natCast, hf3] at hf
          injection hf with hf
          subst hf
          have hcon := hs3.con k2 HK2B.out
          have hby : f3.by_ = (cont S3 k2).1 := congrArg Prod.fst hc3
          rw [← hby] at hcon
          obtain ⟨ra, ro, y, hA2, hy, hcy⟩ := hrd.at (k := 3) (by rw [(hs3.ft.pool.page k2 f3 hf3).2.by_]; decide)
          rw [hcon] at hy
          injection hy with hy
          rw [← hy, HZ.out] at hcy
          refine ⟨ra, ro, c2, f3.last, S3, by rw [he, hA2], hcy, hw2, ?_, ?_⟩
          · have e1 : 54 + 88 * i1 = 54 + 88 * i + 44 + 44 := by rw [← HI1.out]; omega
            have e2 : 480 + 3 * i1 = 480 + 3 * i + 3 := by rw [← HI1.out]; omega
            rw [e1, e2]; exact hs3
          · have h1 := sl_last hs3 HK2B.out
            rw [show (cont S3 k2).2 = f3.last from (congrArg Prod.snd hc3).symm] at h1
            exact h1)
        have d1 := HWK.out.c1
        have d1b := (HWK.out.ext_ (Ext.alloc wr (.cells #[.int .u8 (o : Int)] 5))).c1
        clear hin hi6 hx hq9 hq8 hqw hqm hkw hv8
        go_upto_region 11 with fail
        rw [hok]
        clear hok how hi6i
        go_cut [11, 12] from 39 to 135 (fun a c wx => a = .int .u64 (en : Int) ∧ c = .int .i64 0 ∧ Hid (Wz w1 wx b g q p kA (arrV la) SA))
        case first =>
          go_region_law (first
            | ((with_reducible show wpList _ _ _ (⟨some 64, _, _, _, _, _⟩ :: _) _ _); refine wpList_gives (gives_buildSlice rfl [(0, .int .u8 (o : Int))] rfl (KB.out _) ⟨rfl, rfl⟩) rfl ?_)
            | (go_simp; go_at_call 11; (with_reducible refine KAD.out.mono ?_); rintro e w5 ⟨rfl, hw5⟩; have HW5 := hide hw5; clear hw5))
          all_goals (go_wp2_with fail; go_meet)
          all_goals exact ⟨rfl, rfl, HW5⟩
        case rest =>
          obtain ⟨rfl, rfl, HW5⟩ := hcut
          obtain ⟨w5, HW5E⟩ : ∃ w5, w5 = wc := ⟨_, rfl⟩
          subst HW5E
          have hkw : IntKind.i64.wrap ((i : Int) + 1) = (i1 : Int) := by rw [IntKind.wrap_i64]; have := HI1.out; have := HI6.out; omega
          have hv8 : IntKind.u8.wrap (i1 : Int) = (i1 : Int) := by rw [IntKind.wrap_u8]; have := HI1.out; have := HI6.out; omega
          have d2 := HW5.out.c2
          clear d1 d1b hcx
          go_upto_region 14 with (first
            | ((with_reducible show wpList _ _ _ (⟨some 79, _, _, _, _, _⟩ :: _) _ _); refine wpList_gives (gives_buildSlice rfl [(0, .int .u8 (i1 : Int))] rfl (KB1.out w5) ⟨rfl, rfl⟩) rfl ?_)
            | (go_at_call 12; (with_reducible refine (KWR.out w5 HW5.out).mono ?_); rintro e w6 ⟨S6, rfl, hw6, hs6⟩; have HW6 := hide hw6; have HS6 := hide hs6; clear hw6 hs6 d2))
          have hk9 : (k : Int) < 9 := by have := HKB.out; omega
          have hk9n : k < 9 := HKB.out
          have z6 := HW6.out.arr.frozen k
          have k6 := HW6.out.arr.cell (arrV_at la HKB.out)
          go_upto_region 15 with fail
          obtain ⟨w7, HW7E⟩ : ∃ w7, Hid (w6.setCell ⟨kA, k, none⟩ (.int .u8 (i1 : Int)) = w7) := ⟨_, hide rfl⟩
          have HW7 : Hid (Wz w1 w7 b g q p kA (arrV la2) S6) := hide (by rw [← HW7E.out, ← HSET.out]; exact HW6.out.put k _)
          rw [HW7E.out]
          have hcx7 := HC.out w7 (HX1.out.trans HW7.out.ext)
          have d7 := HW7.out.c2
          have hq9 := HQF.out.1.1
          have hq8 := HQF.out.1.2
          have hqw := HQF.out.2.1
          have hqm := HQF.out.2.2
          have hqt : (o9 : Int).tmod 9 = (k2 : Int) := by rw [Int.tmod_eq_emod_of_nonneg (by omega)]; exact hqm
          have KRD7 : Hid (Calls Tryd.prog 8 #[.pointer (some ⟨p, 0, none⟩), .int .i64 (k2 : Int)] w7.drew (fun e w' => ∃ ra ro cr ls S'', e = .returned (.tuple #[.slice (some ⟨ra, ro, none⟩) 504 cr, .int .u64 ((ls : Nat) : Int), .int .i64 0]) ∧ w'.cell? ⟨ra, ro + 3, none⟩ = some (.int .u8 (z : Int)) ∧ Wz w1 w' b g q p kA (arrV la2) S'' ∧ Sl S'' F pq (54 + 88 * i1) (480 + 3 * i1) la2 ∧ ls < endOf S''.L)) := hide (KRD.out w7.drew S6 (HW7.out.ext_ (Ext.drew _)) HS6.out)
          clear z6 k6
          go_cut [13, 14, 15] from 39 to 135 (fun a c d wx => ∃ ra ro cr ls S'', a = .slice (some ⟨ra, ro, none⟩) 504 cr ∧ c = .int .u64 ((ls : Nat) : Int) ∧ d = .int .i64 0 ∧ Hid (wx.cell? ⟨ra, ro + 3, none⟩ = some (.int .u8 (z : Int))) ∧ Hid (Wz w1 wx b g q p kA (arrV la2) S'') ∧ Hid (Sl S'' F pq (54 + 88 * i1) (480 + 3 * i1) la2) ∧ Hid (ls < endOf S''.L))
          case first =>
            go_region_held3 (fun w' => w'.cell? ⟨ab, off + i, none⟩ = some (.int .u8 (o : Int)) ∧ w'.cell? ⟨b, 2, none⟩ = some (.pointer (some ⟨p, 0, none⟩))) (first | exact ⟨hcx7, d7⟩ | exact ⟨hcx8, d8⟩) (first
              | (go_at_call 8; (with_reducible refine KRD7.out.mono ?_); rintro e w8 ⟨ra, ro, cr, ls, S8, rfl, hc8, hw8, hs8, hl8⟩; have HC8 := hide hc8; have HW8 := hide hw8; have HS8 := hide hs8; have HL8 := hide hl8; have hcx8 := HC.out w8 (HX1.out.trans hw8.ext); have d8 := hw8.c2; clear hc8 hw8 hs8 hl8))
            all_goals (go_wp2_with fail; go_meet)
            all_goals exact ⟨ra, ro, cr, ls, S8, rfl, rfl, rfl, HC8, HW8, HS8, HL8⟩
          case rest =>
            obtain ⟨ra, ro, cr, ls, S8, rfl, rfl, rfl, HC8, HW8, HS8, HL8⟩ := hcut
            obtain ⟨w8, HW8E⟩ : ∃ w8, w8 = wc := ⟨_, rfl⟩
            subst HW8E
            clear hcx7 d7
            have hcx8 := HC.out w8 (HX1.out.trans HW8.out.ext)
            have d8 := HW8.out.c1
            have r8 := HC8.out
            have a8 := HW8.out.arr.cell (arrV_at la2 HK2B.out)
            rw [HZ.out] at a8
            have hk29 : (k2 : Int) < 9 := by have := HK2B.out; omega
            have hk29n : k2 < 9 := HK2B.out
            obtain ⟨en8, HEN8⟩ : ∃ en8, Hid (endOf S8.L = en8) := ⟨_, hide rfl⟩
            have hle : ¬ (en8 : Int) ≤ (ls : Int) := by have := HL8.out; rw [HEN8.out] at this; omega
            have hled : decide ((en8 : Int) ≤ (ls : Int)) = false := decide_eq_false hle
            have hleg : decide ((ls : Int) ≥ (en8 : Int)) = false := decide_eq_false hle
            have hledn : decide (en8 ≤ ls) = false := decide_eq_false (by omega)
            have hzz : ((z : Int) != (z : Int)) = false := by simp
            have KEN : Hid (∀ W, Ext w8 W → Calls Tryd.prog 13 #[.pointer (some ⟨q, 0, none⟩)] W (fun e w' => e = .returned (.int .u64 (en8 : Int)) ∧ Ext W w')) := hide (fun W hW => by
              have k1 := wz_end (HW8.out.ext_ hW) HS8.out.ft
              rw [HEN8.out] at k1
              exact k1.mono fun _ _ ⟨h1, m, h2⟩ => ⟨h1, by rw [h2]; exact (Ext.refl _).drewN m⟩)
            have KSU : Hid (∀ W, Ext w8 W → Calls Tryd.prog 14 #[.pointer (some ⟨b, 0, none⟩), .int .i64 9] W (fun e w' => e = .returned (.bool true) ∧ Ext W w')) := hide (fun W hW => wsure_any (HW8.out.ext_ hW) HS8.out.good HS8.out.ft HS8.out.at_ HS8.out.pages)
            go_upto_region 16 with fail
            go_cut [135] from 39 to 135 (fun v wx => v = .bool false ∧ Hid (Wz w1 wx b g q p kA (arrV la2) S8))
            case first =>
              go_region_held3 (fun w' => w'.cell? ⟨ab, off + i, none⟩ = some (.int .u8 (o : Int)) ∧ w'.cell? ⟨ra, ro + 3, none⟩ = some (.int .u8 (z : Int)) ∧ w'.cell? ⟨kA, k2, none⟩ = some (.int .u8 (z : Int)) ∧ w'.cell? ⟨b, 1, none⟩ = some (.pointer (some ⟨q, 0, none⟩))) (first | exact ⟨hcx8, r8, a8, d8⟩ | exact ⟨hcx9, r9, a9, d9⟩ | exact ⟨hcx10, r10, a10, d10⟩) (first
                | (go_at_call 13; (with_reducible refine (KEN.out _ (Ext.drew _)).mono ?_); rintro e w9 ⟨rfl, hx9⟩; have HX9 : Hid (Ext w8 w9) := hide ((Ext.drew _).trans hx9); have hcx9 := ext_cell HX9.out hcx8; have r9 := ext_cell HX9.out r8; have a9 := ext_cell HX9.out a8; have d9 := ext_cell HX9.out d8; clear hx9)
                | (go_at_call 14; (with_reducible refine (KSU.out _ HX9.out).mono ?_); rintro e w10 ⟨rfl, hx10⟩; have HX10 : Hid (Ext w8 w10) := hide (HX9.out.trans hx10); have hcx10 := ext_cell HX10.out hcx8; have r10 := ext_cell HX10.out r8; have a10 := ext_cell HX10.out a8; have d10 := ext_cell HX10.out d8; clear hx10))
              all_goals (go_wp2_with fail; go_meet)
              all_goals exact ⟨rfl, hide (HW8.out.ext_ HX10.out)⟩
            case rest =>
              obtain ⟨rfl, HW11⟩ := hcut
              clear hcx8 d8 r8 a8
              go_wp2
              go_roundw
              case rel => exact ⟨i1, S8, la2, rfl, hide ⟨by have := HI1.out; have := HI6.out; omega, by have := HI1.out; have := HI6.out; omega⟩, HW11, HS8⟩
              case measure =>
                show 61 - ((i1 : Int)).toNat < 61 - ((i : Int)).toNat
                have := HI1.out
                have := HI6.out
                omega
      · have hi6i : ¬ (i : Int) < 60 := by omega
        have hini2 := hini
        clear hi6
        have HSU := hide (sl_unpin HSK.out)
        have HIB : Hid (54 + 88 * i ≤ 6000) := hide (by have := HI.out; omega)
        have KUN : Hid (Calls Tryd.prog 9 #[.pointer (some ⟨p, 0, none⟩), .int .i64 (pq : Int)] wr (WQ w1 b g q p kA (arrV la) (.int .i64 0) (unpS S pq))) := hide (by
          have k1 := wz_unpin HWK.out HSK.out.ft pq (by rw [HSK.out.pages]; exact HPB.out)
          rw [HSU.out.1] at k1
          exact k1)
        have HPN : Hid ((unpS S pq).P.n ≤ 4) := hide (by rw [HSU.out.2.2.2.2.2.2.2.1]; have h1 := HSK.out.ft.pool.cnt; rw [HSK.out.frames] at h1; have := HFB.out; omega)
        have KFL : Hid (∀ W, Wz w1 W b g q p kA (arrV la) (unpS S pq) → Calls Tryd.prog 15 #[.pointer (some ⟨p, 0, none⟩)] W (fun e w' => ∃ S', e = .returned (.int .i64 0) ∧ Hid (Wz w1 w' b g q p kA (arrV la) S') ∧ Hid (Bd S'.D) ∧ Hid (Bd (S'.D.fallen [])) ∧ Hid (∀ j, j < 9 → gE (S'.D.fallen []) ((41 + j : Nat) : Int) = 0 ∧ (gB (S'.D.fallen []) ((41 + j : Nat) : Int)).length = 512 ∧ (gB (S'.D.fallen []) ((41 + j : Nat) : Int))[11]? = some (la j)))) := hide (fun W hW => by
          have hfl := wz_flush hW HSU.out.2.1 (by rw [HSU.out.2.2.2.2.1]; have h1 := Nat.mul_le_mul_right (40 + 3) HPN.out; have h2 := HIB.out; omega) HTW.out HSU.out.2.2.1.awk.1
          refine hfl.mono fun e w' hh => ?_
          obtain ⟨zs, h1, h2, he, hw⟩ := hh
          obtain ⟨e1, e2, e3, e4⟩ := sl_end HSK.out (by have := HIB.out; omega) HFB.out.2 h1 h2
          rw [e1] at he
          exact ⟨_, he, hide hw, hide e2, hide e3, hide e4⟩)
        have u2 := HWK.out.c2
        have hq1 : (pi : Int) % 9 = (pq : Int) := by have := HPQ.out; omega
        have hq0 : IntKind.i64.wrap (pi : Int) = (pi : Int) := by rw [IntKind.wrap_i64]; have := HPI.out; omega
        have hqt2 : (pi : Int).tmod 9 = (pq : Int) := by rw [Int.tmod_eq_emod_of_nonneg (by omega)]; exact hq1
        clear hini2
        go_upto_region 20 with (first
          | (go_at_call 9; (with_reducible refine KUN.out.mono ?_); rintro e w12 ⟨rfl, hw12⟩; have HW12 := hide hw12; clear u2; have u3 := hw12.c2; clear hw12)
          | (go_at_call 15; (with_reducible refine (KFL.out w12 HW12.out).mono ?_); rintro e w13 ⟨S13, rfl, HW13, HB13, HF13, HE13⟩))
        clear u3 hq1 hq0 hqt2
        have u4 := HW13.out.c0
        obtain ⟨S14, HS14⟩ : ∃ S14 : St, Hid (({ S13 with D := S13.D.fallen [] } : St) = S14) := ⟨_, hide rfl⟩
        have KRS : Hid (Calls Tryd.prog 16 #[.pointer (some ⟨g, 0, none⟩), .slice none 0 0] w13 (WQ w1 b g q p kA (arrV la) (.int .i64 0) S14)) := hide (by rw [← HS14.out]; exact wz_restart HW13.out HB13.out)
        have HB14 : Hid (Bd S14.D) := hide (by rw [← HS14.out]; exact HF13.out)
        have HE14 : Hid (∀ j, j < 9 → gE S14.D ((41 + j : Nat) : Int) = 0 ∧ (gB S14.D ((41 + j : Nat) : Int)).length = 512 ∧ (gB S14.D ((41 + j : Nat) : Int))[11]? = some (la j)) := hide (by rw [← HS14.out]; exact HE13.out)
        go_upto_region 22 with (go_at_call 16; (with_reducible refine KRS.out.mono ?_); rintro e w14 ⟨rfl, hw14⟩; have HW14 := hide hw14; clear hw14)
        clear u4
        go_loopw [16] (fun x wr2 => ∃ j : Nat, x = .int .i64 (j : Int) ∧ Hid (j ≤ 9) ∧ Hid (Wz w1 wr2 b g q p kA (arrV la) S14)) (fun x _ => 9 - (intOf x).toNat)
        case atStart => exact ⟨0, rfl, hide (Nat.zero_le _), HW14⟩
        case round =>
          obtain ⟨j, rfl, HJ, HWJ⟩ := hrel
          have v0 := HWJ.out.c0
          by_cases hj : j < 9
          · have hji : (j : Int) < 9 := by omega
            have hjw : IntKind.i64.wrap ((j : Int) + 1) = ((j + 1 : Nat) : Int) := by rw [IntKind.wrap_i64]; omega
            obtain ⟨sj, HSJ⟩ : ∃ sj : Int, Hid (((41 + j : Nat) : Int) = sj) := ⟨_, hide rfl⟩
            have hsw : IntKind.i64.wrap (41 + (j : Int)) = sj := by rw [IntKind.wrap_i64]; have := HSJ.out; omega
            obtain ⟨y, HY⟩ : ∃ y, Hid ((la j).toNat = y) := ⟨_, hide rfl⟩
            have hk3 := HE14.out j hj
            rw [HSJ.out] at hk3
            have KDR := hide (dread_byte HWJ.out HB14.out sj (la j) hk3.1 hk3.2.1 hk3.2.2)
            rw [HY.out] at KDR
            clear hk3
            have HJ9 := hide hj
            obtain ⟨j1, HJ1⟩ : ∃ j1, Hid (j + 1 = j1) := ⟨_, hide rfl⟩
            rw [HJ1.out] at hjw
            have hjn : j < 9 := hj
            clear hj
            go_upto_region 25 with (go_at_call 17; (with_reducible refine KDR.out.mono ?_); rintro e w15 ⟨da, dof, cd, rfl, hc15, hx15⟩; have HC15 := hide hc15; have HX15 := hide hx15; clear hc15 hx15)
            have HW15 := hide (HWJ.out.ext_ HX15.out)
            have t1 := HC15.out
            have t2 := HW15.out.arr.cell (arrV_at la HJ9.out)
            rw [HY.out] at t2
            have hyy : ((y : Int) != (y : Int)) = false := by simp
            go_quiet (fail)
            go_wp2
            refine ⟨⟨j1, rfl, hide (by have := HJ9.out; have := HJ1.out; omega), hide (HW15.out.ext_ ((Ext.refl _).drewN _))⟩, ?_⟩
            show 9 - ((j1 : Int)).toNat < 9 - ((j : Int)).toNat
            have := HJ9.out
            have := HJ1.out
            omega
          · obtain rfl : j = 9 := by have := HJ.out; omega
            clear hj
            go_wp2
            go_ret
            exact Ret.mk (HX1.out.trans HWJ.out.ext) rfl
    · have hini : ¬ (i : Int) < (n : Int) := by omega
      have hini2 := hini
      clear hin
      have HSU := hide (sl_unpin HSK.out)
      have HIB : Hid (54 + 88 * i ≤ 6000) := hide (by have := HI.out; omega)
      have KUN : Hid (Calls Tryd.prog 9 #[.pointer (some ⟨p, 0, none⟩), .int .i64 (pq : Int)] wr (WQ w1 b g q p kA (arrV la) (.int .i64 0) (unpS S pq))) := hide (by
        have k1 := wz_unpin HWK.out HSK.out.ft pq (by rw [HSK.out.pages]; exact HPB.out)
        rw [HSU.out.1] at k1
        exact k1)
      have HPN : Hid ((unpS S pq).P.n ≤ 4) := hide (by rw [HSU.out.2.2.2.2.2.2.2.1]; have h1 := HSK.out.ft.pool.cnt; rw [HSK.out.frames] at h1; have := HFB.out; omega)
      have KFL : Hid (∀ W, Wz w1 W b g q p kA (arrV la) (unpS S pq) → Calls Tryd.prog 15 #[.pointer (some ⟨p, 0, none⟩)] W (fun e w' => ∃ S', e = .returned (.int .i64 0) ∧ Hid (Wz w1 w' b g q p kA (arrV la) S') ∧ Hid (Bd S'.D) ∧ Hid (Bd (S'.D.fallen [])) ∧ Hid (∀ j, j < 9 → gE (S'.D.fallen []) ((41 + j : Nat) : Int) = 0 ∧ (gB (S'.D.fallen []) ((41 + j : Nat) : Int)).length = 512 ∧ (gB (S'.D.fallen []) ((41 + j : Nat) : Int))[11]? = some (la j)))) := hide (fun W hW => by
        have hfl := wz_flush hW HSU.out.2.1 (by rw [HSU.out.2.2.2.2.1]; have h1 := Nat.mul_le_mul_right (40 + 3) HPN.out; have h2 := HIB.out; omega) HTW.out HSU.out.2.2.1.awk.1
        refine hfl.mono fun e w' hh => ?_
        obtain ⟨zs, h1, h2, he, hw⟩ := hh
        obtain ⟨e1, e2, e3, e4⟩ := sl_end HSK.out (by have := HIB.out; omega) HFB.out.2 h1 h2
        rw [e1] at he
        exact ⟨_, he, hide hw, hide e2, hide e3, hide e4⟩)
      have u2 := HWK.out.c2
      have hq1 : (pi : Int) % 9 = (pq : Int) := by have := HPQ.out; omega
      have hq0 : IntKind.i64.wrap (pi : Int) = (pi : Int) := by rw [IntKind.wrap_i64]; have := HPI.out; omega
      have hqt2 : (pi : Int).tmod 9 = (pq : Int) := by rw [Int.tmod_eq_emod_of_nonneg (by omega)]; exact hq1
      clear hini2
      go_upto_region 20 with (first
        | (go_at_call 9; (with_reducible refine KUN.out.mono ?_); rintro e w12 ⟨rfl, hw12⟩; have HW12 := hide hw12; clear u2; have u3 := hw12.c2; clear hw12)
        | (go_at_call 15; (with_reducible refine (KFL.out w12 HW12.out).mono ?_); rintro e w13 ⟨S13, rfl, HW13, HB13, HF13, HE13⟩))
      clear u3 hq1 hq0 hqt2
      have u4 := HW13.out.c0
      obtain ⟨S14, HS14⟩ : ∃ S14 : St, Hid (({ S13 with D := S13.D.fallen [] } : St) = S14) := ⟨_, hide rfl⟩
      have KRS : Hid (Calls Tryd.prog 16 #[.pointer (some ⟨g, 0, none⟩), .slice none 0 0] w13 (WQ w1 b g q p kA (arrV la) (.int .i64 0) S14)) := hide (by rw [← HS14.out]; exact wz_restart HW13.out HB13.out)
      have HB14 : Hid (Bd S14.D) := hide (by rw [← HS14.out]; exact HF13.out)
      have HE14 : Hid (∀ j, j < 9 → gE S14.D ((41 + j : Nat) : Int) = 0 ∧ (gB S14.D ((41 + j : Nat) : Int)).length = 512 ∧ (gB S14.D ((41 + j : Nat) : Int))[11]? = some (la j)) := hide (by rw [← HS14.out]; exact HE13.out)
      go_upto_region 22 with (go_at_call 16; (with_reducible refine KRS.out.mono ?_); rintro e w14 ⟨rfl, hw14⟩; have HW14 := hide hw14; clear hw14)
      clear u4
      go_loopw [16] (fun x wr2 => ∃ j : Nat, x = .int .i64 (j : Int) ∧ Hid (j ≤ 9) ∧ Hid (Wz w1 wr2 b g q p kA (arrV la) S14)) (fun x _ => 9 - (intOf x).toNat)
      case atStart => exact ⟨0, rfl, hide (Nat.zero_le _), HW14⟩
      case round =>
        obtain ⟨j, rfl, HJ, HWJ⟩ := hrel
        have v0 := HWJ.out.c0
        by_cases hj : j < 9
        · have hji : (j : Int) < 9 := by omega
          have hjw : IntKind.i64.wrap ((j : Int) + 1) = ((j + 1 : Nat) : Int) := by rw [IntKind.wrap_i64]; omega
          obtain ⟨sj, HSJ⟩ : ∃ sj : Int, Hid (((41 + j : Nat) : Int) = sj) := ⟨_, hide rfl⟩
          have hsw : IntKind.i64.wrap (41 + (j : Int)) = sj := by rw [IntKind.wrap_i64]; have := HSJ.out; omega
          obtain ⟨y, HY⟩ : ∃ y, Hid ((la j).toNat = y) := ⟨_, hide rfl⟩
          have hk3 := HE14.out j hj
          rw [HSJ.out] at hk3
          have KDR := hide (dread_byte HWJ.out HB14.out sj (la j) hk3.1 hk3.2.1 hk3.2.2)
          rw [HY.out] at KDR
          clear hk3
          have HJ9 := hide hj
          obtain ⟨j1, HJ1⟩ : ∃ j1, Hid (j + 1 = j1) := ⟨_, hide rfl⟩
          rw [HJ1.out] at hjw
          have hjn : j < 9 := hj
          clear hj
          go_upto_region 25 with (go_at_call 17; (with_reducible refine KDR.out.mono ?_); rintro e w15 ⟨da, dof, cd, rfl, hc15, hx15⟩; have HC15 := hide hc15; have HX15 := hide hx15; clear hc15 hx15)
          have HW15 := hide (HWJ.out.ext_ HX15.out)
          have t1 := HC15.out
          have t2 := HW15.out.arr.cell (arrV_at la HJ9.out)
          rw [HY.out] at t2
          have hyy : ((y : Int) != (y : Int)) = false := by simp
          go_quiet (fail)
          go_wp2
          refine ⟨⟨j1, rfl, hide (by have := HJ9.out; have := HJ1.out; omega), hide (HW15.out.ext_ ((Ext.refl _).drewN _))⟩, ?_⟩
          show 9 - ((j1 : Int)).toNat < 9 - ((j : Int)).toNat
          have := HJ9.out
          have := HJ1.out
          omega
        · obtain rfl : j = 9 := by have := HJ.out; omega
          clear hj
          go_wp2
          go_ret
          exact Ret.mk (HX1.out.trans HWJ.out.ext) rfl
theorem steals_int (a c : Int) (A : Option Addr) (l : List UInt8) (n cc : Nat) (hT : Tab w) (h1 : 0 ≤ a ∧ a ≤ 255) (h2 : 0 ≤ c ∧ c ≤ 255) (hr : Rd w A l) (hn : l.length = n) (hl : n ≤ 140737488355328) : Calls Tryd.prog 4 #[.int .u8 a, .slice A n cc, .int .u8 c] w (Ret w (Is (.bool true))) := by
  obtain ⟨x, rfl⟩ : ∃ x : Nat, a = (x : Int) := ⟨a.toNat, by omega⟩
  obtain ⟨y, rfl⟩ : ∃ y : Nat, c = (y : Int) := ⟨c.toNat, by omega⟩
  exact poolSteals_walk x y A l n cc (by omega) (by omega) hT hr hn hl
end
end Go.Proofs.YtklbaddoomlkeaaDoor
namespace Go.Proofs.YtklbaddoomlkeaaDoor.lawPoolSteals
open Go.ChangeShapes Go.WideShapes Go.ChangeAt Go.RowKit
open Go.ChangeMaps (open_string)

set_option maxRecDepth 100000 in
theorem contract (H : Type) (enc : TypeId × Value → H) (W : World) (base : Nat) (args : Array Value) (ds gs : List (DataW H)) (before : List MemPlace)
    (hval : ∀ (j : Nat) t v, Tryd.f4.params[j]? = some t → args[j]? = some v → Value.okWide Tryd.prog W .any base t v)
    (hW : DataW.Whole enc Tryd.prog Tryd.f4.params.toList Rows.poolStealsSpec.vars false W args.toList ds gs before) (hz : (DataW.weightsEach Tryd.prog (Tryd.f4.params.toList ++ (OpenSpec.ofChange Rows.poolStealsSpec).bare.plain.varTypes Tryd.prog) (ds ++ gs)).all (· ≤ reachBytes) = true) (hL : laidMetH Tryd.prog Rows.poolStealsRow.laid W) :
    Calls Tryd.prog 4 args W fun e W' => ∃ v, e = .returned v ∧ Rows.poolStealsSpec.post enc Tryd.prog Tryd.f4 false true false false W args v W' := by
  have hW' := hW
  obtain ⟨p, q, hA0, hV, hbe, hfz, hnd⟩ := hW
  have hA : DataW.TrodAll enc Tryd.prog W 0 (fun _ => true) true Tryd.f4.params.toList args.toList ds p := hA0
  obtain ⟨rfl, rfl⟩ := trodVars_none hV
  rw [Tryd.params4] at hA hval
  obtain ⟨v0, vs0, d0, ds0, p0, q0, hg0, hd0, hp0, h0, r0⟩ := trodAll_cons hA
  obtain ⟨v1, vs1, d1, ds1, p1, q1, hg1, hd1, hp1, h1, r1⟩ := trodAll_cons r0
  obtain ⟨v2, vs2, d2, ds2, p2, q2, hg2, hd2, hp2, h2, r2⟩ := trodAll_cons r1
  obtain ⟨e1, e2, e3⟩ := trodAll_nil r2
  have hds : ds = [d0, d1, d2] := by simp [hd0, hd1, hd2, e2]
  obtain rfl : args = #[v0, v1, v2] := by
    have : args.toList = [v0, v1, v2] := by simp [hg0, hg1, hg2, e1]
    exact Array.toList_inj.1 this
  subst hds
  obtain ⟨n0, rfl, hd0, -, wf0⟩ := open_int Tryd.underlying5 (hval 0 5 v0 rfl rfl) h0
  have hb0 := bounds_u8 wf0
  obtain ⟨A1, c1, l1, rfl, hlc1, hr1, hd1⟩ := open_bytes (hval 1 32 v1 rfl rfl) h1
  have hb1 := reach_bytes hz (j := 1) rfl rfl Tryd.underlying32 (by kernel_rfl) hd1
  obtain ⟨n2, rfl, hd2, -, wf2⟩ := open_int Tryd.underlying5 (hval 2 5 v2 rfl rfl) h2
  have hb2 := bounds_u8 wf2
  have ht := tab_of_laid hL
  refine (steals_int n0 n2 A1 l1 l1.length c1 ht hb0 hb2 hr1 rfl (Nat.le_trans hb1 (by decide))).mono fun e W' ⟨v, he, hx, hv⟩ => ?_
  subst he
  have hv' : v = .bool true := hv
  subst hv'
  exact ⟨_, rfl, law_post laidOut hW' rfl (by rw [Tryd.params4]; exact readable_all _ (by kernel_rfl)) (by kernel_rfl) Tryd.underlying4 rfl hx⟩

theorem laid_met (os : Os) : laidMet Tryd.prog Rows.poolStealsRow.laid ((laidWorld os).forCall (fun _ _ => 0) ⟨#[], #[Value.int .u8 0, Value.slice none 0 0, Value.int .u8 0], []⟩).memory :=
  laidMet_of_run' 8 (by kernel_rfl) (by kernel_rfl)
theorem reads (os : Os) {H : Type} (enc : TypeId × Value → H) : ∃ places, DataW.whole enc Tryd.prog ((laidWorld os).forCall (fun _ _ => 0) ⟨#[], #[Value.int .u8 0, Value.slice none 0 0, Value.int .u8 0], []⟩).memory Tryd.f4.params.toList Rows.poolStealsSpec.vars false (#[Value.int .u8 0, Value.slice none 0 0, Value.int .u8 0]).toList 8 = some ([.lit (.int .u8 0), .nil, .lit (.int .u8 0)], [], places) :=
  ⟨[], by kernel_rfl⟩

set_option maxRecDepth 100000 in
theorem lifted (os : Os) (started : os.Started) (H : Type) (enc : TypeId × Value → H) (F : Stop.Interp) :
    ReturnsInHanded {} Tryd.checked os 4 .any ((OpenSpec.ofChange Rows.poolStealsSpec).preRow enc Tryd.prog Tryd.f4 Rows.poolStealsRow.domain false Rows.poolStealsRow.laid) (((OpenSpec.ofChange Rows.poolStealsSpec).at F).post enc Tryd.prog Tryd.f4 false true false false) := by
  obtain ⟨places, hx⟩ := reads os enc
  refine returnsInHanded_of_row (C := Tryd.checked) (s := (OpenSpec.ofChange Rows.poolStealsSpec)) own started (by kernel_rfl) Tryd.func4
    (witness_row_at (enc := enc) (C := Tryd.checked) false (laidWorld os) #[Value.int .u8 0, Value.slice none 0 0, Value.int .u8 0] rfl (by kernel_rfl) (by kernel_rfl) (by kernel_rfl)
      (OpenSpec.preRow_of_cond 8 hx (by kernel_rfl) (fun k hk => by cases hk) (by kernel_rfl) (laid_met os))) ?_
  intro W base args ds gs before hval hW _ hcond hz hL _ _
  exact contract H enc W base args ds gs before hval hW hz hL

theorem said : Rows.PoolStealsSaid :=
  OpenClaim.holds_of_cond 4 Tryd.f4 rfl rfl rfl rfl rfl rfl rfl ⟨rfl, rfl, rfl, rfl, rfl⟩ rfl rfl rfl rfl rfl (by kernel_rfl) Tryd.func4 (by kernel_rfl)
    (of_decide_eq_true (by kernel_rfl)) (by unfold Func.isWrapper; first | (rw [if_pos (by decide +kernel)]; kernel_rfl) | (rw [if_neg (by decide +kernel)]; exact ⟨rfl, rfl⟩))
    (fun os started H enc _ F => by rw [OpenClaim.pre_eq_preRow]; exact lifted os started H enc F)

theorem plain (f : FuncId) (fn : Func) (hf : Tryd.pinned.checked.prog.funcNamed "muniment/munimentlaw11.PoolSteals" = some f) (hfn : Tryd.pinned.checked.prog.funcs[f]? = some fn) :
    Rows.poolStealsCard.stood.looks = Tryd.pinned.checked.prog.looks [] ∧ ∀ (j : Nat) t, fn.params[j]? = some t → Tryd.pinned.checked.prog.wantsStandIn t = false := by
  obtain rfl : f = 4 := Option.some.inj ((show Tryd.prog.funcNamed "muniment/munimentlaw11.PoolSteals" = some 4 by kernel_rfl).symm.trans hf) |>.symm
  obtain rfl : fn = Tryd.f4 := (Option.some.inj (Tryd.func4.symm.trans hfn)).symm
  refine ⟨by kernel_rfl, fun j t ht => ?_⟩
  have h := (show (Tryd.f4.params.toList.all fun t => !Tryd.prog.wantsStandIn t) = true by kernel_rfl)
  have h2 := List.all_eq_true.1 h t (by simpa using Array.mem_of_getElem? ht)
  have h3 : Tryd.prog.wantsStandIn t = false := by simpa using h2
  exact h3

/-- The card. -/
theorem card : Rows.PoolStealsCardSaid :=
  Claim7.holds_tied_plain_at .later [] _ _ _ _ said (fun _ h => by cases h) (by kernel_rfl) (fun _ h => by cases h) poolSteals_row_tie rfl ⟨rfl, rfl⟩ (by kernel_rfl) rfl plain (by kernel_rfl)
end Go.Proofs.YtklbaddoomlkeaaDoor.lawPoolSteals
