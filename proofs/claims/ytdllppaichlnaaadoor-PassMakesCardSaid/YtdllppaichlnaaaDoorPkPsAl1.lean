/-
  One block: mixed's contract.
  The seat's two tables of words, as the rows list them; a world that holds them.
  A REGION THAT DRAWS ITS ORDER AND WHOSE LAST OPERATION (a store, a copy) WAITS FOR ALL THE OTHERS: all but the last only make memory or read; the last may write.
  More of what an operation yields: slices of slices and of arrays, arithmetic on whole numbers.
  '==' of two arrays of bytes that are the same.
  The reference's numbers of 256 bits, its roots and its primes as plain functions. No program is spoken of.
  Whole blocks: absorbed's contract.
  The last block, or two: ending's contract.
-/
import Derived.Lib.LaidU8
import Derived.Lay
import Derived.MakeChecks
import Derived.Laws.StructEq
import Derived.ChangeKeysEq
import Derived.Test.YtdllppaichlnaaaDoorPkPsAl0
set_option linter.unusedVariables false
set_option linter.unusedSimpArgs false

namespace Go.Proofs.YtdllppaichlnaaaDoor
open Go.RowKit

/-- The tables' cells are in their places. -/
structure Tab (w : World) : Prop where
  k : ∀ i n : Nat, roundW[i]? = some n → w.cell? ⟨1, i, none⟩ = some (.int .u32 (n : Int))
  h : ∀ i n : Nat, startW[i]? = some n → w.cell? ⟨0, i, none⟩ = some (.int .u32 (n : Int))
theorem Tab.keep {w w' : World} (h : Tab w) (hx : Keeps w w') : Tab w' := ⟨fun i n hn => hx.cell (h.k i n hn), fun i n hn => hx.cell (h.h i n hn)⟩
theorem Tab.ext {w w' : World} (h : Tab w) (hx : Ext w w') : Tab w' := h.keep hx.keeps

/-- The state moved on by one place: 'copy(v[1:], v[:7])'. -/
theorem run_move (w : World) (g : Nat) (a b c d e f g' h : Nat) (hv : Wds w g 32 [a, b, c, d, e, f, g', h]) :
    ∃ w', (Builtin.copy_ #[80, 80] 3 #[.slice (some ⟨g, 1, none⟩) 7 7, .slice (some ⟨g, 0, none⟩) 7 8]).run Tryd.prog w = .ok (goInt 7) w' ∧ Wds w' g 32 [a, a, b, c, d, e, f, g'] ∧ Laid1 g w w' := by
  have h1 := run_copy_row (P := Tryd.prog) w 80 80 3 31 g 1 7 7 ⟨g, 0, none⟩ 7 8 (us [a, b, c, d, e, f, g', h]).toArray 32 (us [a, b, c, d, e, f, g'])
    Tryd.underlying80 (by kernel_rfl) hv rfl
    (fun j v hj => by
      rw [add_flat, Nat.zero_add]
      refine Rw.cell hv ?_
      have hlt : j < 7 := (List.getElem?_eq_some_iff.1 hj).1
      rw [← hj]
      have e : us [a, b, c, d, e, f, g', h] = us [a, b, c, d, e, f, g'] ++ us [h] := rfl
      rw [e, List.getElem?_append_left hlt])
    (by simp [us]) (fun v hv => (List.all_eq_true.1 (us_one _)) v hv)
  refine ⟨_, h1, ?_, Laid1.of_row w g _⟩
  exact setRow_heap w g _ _ _ _ hv

theorem plus_get (s v : Sta) (k x y : Nat) (hx : s.list[k]? = some x) (hy : v.list[k]? = some y) : (s.plus v).list[k]? = some ((x + y) % 4294967296) := by
  rcases k with _ | _ | _ | _ | _ | _ | _ | _ | k
  case succ.succ.succ.succ.succ.succ.succ.succ => simp [Sta.list] at hx
  all_goals
    simp only [Sta.list, List.getElem?_cons_zero, List.getElem?_cons_succ, Option.some.injEq] at hx hy
    subst hx hy
    rfl
theorem set_take (P S : List Nat) (k z : Nat) (hP : P[k]? = some z) (hS : k < S.length) : (P.take k ++ S.drop k).set k z = P.take (k + 1) ++ S.drop (k + 1) := by
  have hk : k < P.length := (List.getElem?_eq_some_iff.1 hP).1
  have hlen : (P.take k).length = k := by simp; omega
  rw [List.set_append_right _ _ (by omega), hlen, Nat.sub_self, List.drop_eq_getElem_cons hS, List.set_cons_zero, List.take_add_one, hP]
  simp
theorem get_take (P S : List Nat) (k : Nat) (hP : k < P.length) : (P.take k ++ S.drop k)[k]? = S[k]? := by
  have hlen : (P.take k).length = k := by simp; omega
  rw [List.getElem?_append_right (by omega), hlen, Nat.sub_self, List.getElem?_drop]
  rfl

set_option maxRecDepth 20000 in
set_option maxHeartbeats 3200000 in
theorem mixed_any (s : Sta) (hs : s.ok) (A : Option Addr) (c : Nat) (l : List UInt8) (hl : l.length = 64) (w : World) (hr : Rd w A l) (hc : 64 ≤ c) (ht : Tab w) :
    Calls Tryd.prog 42 #[.agg (us s.list).toArray, .slice A 64 c] w (Ret w (Is (.agg (us (mixedS s l).list).toArray))) := by
  have K1 := hide fun W (h : Ext w W) => schedule_any A c l hl W (hr.ext h) hc
  go_enter Tryd.func42, Tryd.ntmps42
  go_wp2_with (first
    | (go_at_call 46; refine (K1.out _ ((Ext.alloc w _).trans (Ext.alloc _ _))).mono ?_; rintro e w1 ⟨v1, rfl, hw1, rfl⟩;
       have hx1 : Ext w w1 := ((Ext.alloc w _).trans (Ext.alloc _ _)).trans hw1;
       have HH1 : Hid (Wds w1 w.heap.size 32 s.list) := Wds.ext (show Wds _ _ _ _ from heap_alloc2_old w _ _) hw1;
       have HZ1 : Hid (Wds w1 (w.heap.size + 1) 32 (List.replicate 8 0)) := Wds.ext (show Wds _ _ _ _ from heap_alloc2_new w _ _) hw1;
       have hs1 : w.heap.size + 2 ≤ w1.heap.size := by have := hw1.size; simpa using this)
    | ((with_reducible show wpList _ _ _ (⟨none, .store _ (.tmp 5) _, _, _, _, _⟩ :: _) _ _);
       refine wpList_store_rw rfl 33 (.tmp 5) (.tmp 12) rfl _ rfl (us (sched l)) rfl 33 (us (List.replicate 64 0)) (heap_alloc_new w1 _) 64 (by kernel_rfl) (by rw [us_length, sched_length]) (by rw [us_length, us_length, sched_length]; rfl) (us_one _) ?_;
       intro w2 hr2 hl2;
       have HW2 : Hid (Wds w2 w1.heap.size 33 (sched l)) := hr2;
       have hx2 : Ext w w2 := (hx1.trans (Ext.alloc _ _)).laid hl2 (by omega);
       have hs2 : w1.heap.size + 1 ≤ w2.heap.size := by have := hl2.below.size; simpa using this;
       have HH2 : Hid (Wds w2 w.heap.size 32 s.list) := Wds.other (Wds.ext HH1.out (Ext.alloc _ _)) hl2 (by omega);
       have HZ2 : Hid (Wds w2 (w.heap.size + 1) 32 (List.replicate 8 0)) := Wds.other (Wds.ext HZ1.out (Ext.alloc _ _)) hl2 (by omega))
    | ((with_reducible show wpList _ _ _ (⟨some 13, .load _ _, _, _, _, _⟩ :: _) _ _);
       refine wpList_load_rw rfl 32 (.tmp 2) rfl _ rfl 32 (us s.list) HH2.out 8 31 Tryd.underlying32 (by kernel_rfl) rfl ?_)
    | ((with_reducible show wpList _ _ _ (⟨none, .store _ (.tmp 6) _, _, _, _, _⟩ :: _) _ _);
       refine wpList_store_rw rfl 32 (.tmp 6) (.tmp 13) rfl _ rfl (us s.list) rfl 32 (us (List.replicate 8 0)) (heap_alloc_new w2 _) 8 (by kernel_rfl) rfl rfl (us_one _) ?_;
       intro w3 hr3 hl3;
       have HV3 : Hid (Wds w3 w2.heap.size 32 s.list) := hr3;
       have hx3 : Ext w w3 := (hx2.trans (Ext.alloc _ _)).laid hl3 (by omega);
       have HH3 : Hid (Wds w3 w.heap.size 32 s.list) := Wds.other (Wds.ext HH2.out (Ext.alloc _ _)) hl3 (by omega);
       have HZ3 : Hid (Wds w3 (w.heap.size + 1) 32 (List.replicate 8 0)) := Wds.other (Wds.ext HZ2.out (Ext.alloc _ _)) hl3 (by omega);
       have HW3 : Hid (Wds w3 w1.heap.size 33 (sched l)) := Wds.other (Wds.ext HW2.out (Ext.alloc _ _)) hl3 (by omega)))
  generalize hgv : w2.heap.size = gv at *
  generalize hgw : w1.heap.size = gw at *
  obtain ⟨gh, hgh⟩ : ∃ x, x = w.heap.size := ⟨_, rfl⟩
  rw [← hgh] at HH3 HZ3 hs1 ⊢
  have hgle : w.heap.size ≤ gh := by omega
  clear hgh
  clear HH1 HH2 HZ1 HZ2 HW2 hr2 hl2 hr3 hl3 hx1 hx2 hw1 hgv hgw K1
  go_loopw [14] (fun i wr => ∃ k : Nat, k ≤ 64 ∧ i = .int .i64 k ∧ Wds wr gv 32 (s.rounds (sched l) k).list ∧ Wds wr gw 33 (sched l) ∧ Wds wr gh 32 s.list ∧ Wds wr (gh + 1) 32 (List.replicate 8 0) ∧ Ext w wr) (fun i _ => 64 - (intOf i).toNat)
  case atStart => exact ⟨0, Nat.zero_le _, rfl, HV3.out, HW3.out, HH3.out, HZ3.out, hx3⟩
  clear HV3 HW3 HH3 HZ3 hx3
  case round =>
    obtain ⟨k, hk, rfl, hv, hw, hh, hz, hx⟩ := hrel
    by_cases hlt : k < 64
    · have hok := Sta.rounds_ok hs (sched l) k
      obtain ⟨st, HST⟩ : ∃ st, Hid (s.rounds (sched l) k = st) := ⟨_, rfl⟩
      rw [HST.out] at hv hok
      obtain ⟨a, b, c', d, e, f, g, h⟩ := st
      have oa := hok.a
      have ob := hok.b
      have oc := hok.c
      have od := hok.d
      have oe := hok.e
      have of := hok.f
      have og := hok.g
      have oh := hok.h
      simp only [] at oa ob oc od oe of og oh
      obtain ⟨q, hq⟩ : ∃ q, (sched l)[k]? = some q := ⟨_, List.getElem?_eq_getElem (by rw [sched_length]; exact hlt)⟩
      obtain ⟨r, hrk⟩ : ∃ r, roundW[k]? = some r := ⟨_, List.getElem?_eq_getElem (by simpa [roundW] using hlt)⟩
      have HN := hide (show s.rounds (sched l) (k + 1) = (Sta.mk a b c' d e f g h).next r q by
        rw [Sta.rounds, HST.out, List.getD_eq_getElem?_getD, List.getD_eq_getElem?_getD, hq, hrk]; rfl)
      have cq := hw.cell hq
      have cr := (ht.ext hx).k k r hrk
      have v0 := hv.cell (i := 0) (n := a) rfl
      have v1 := hv.cell (i := 1) (n := b) rfl
      have v2 := hv.cell (i := 2) (n := c') rfl
      have v3 := hv.cell (i := 3) (n := d) rfl
      have v4 := hv.cell (i := 4) (n := e) rfl
      have v5 := hv.cell (i := 5) (n := f) rfl
      have v6 := hv.cell (i := 6) (n := g) rfl
      have v7 := hv.cell (i := 7) (n := h) rfl
      have KT := hide fun W => (show Calls Tryd.prog 47 #[.int .u32 (e : Int), .int .i64 6, .int .i64 11, .int .i64 25] W (Val (.int .u32 (tri 6 11 25 e : Int)) W) from turned_any 6 11 25 (by decide) (by decide) (by decide) e oe W)
      have KU := hide fun W => (show Calls Tryd.prog 47 #[.int .u32 (a : Int), .int .i64 2, .int .i64 13, .int .i64 22] W (Val (.int .u32 (tri 2 13 22 a : Int)) W) from turned_any 2 13 22 (by decide) (by decide) (by decide) a oa W)
      have KC := hide fun W => (show Calls Tryd.prog 48 #[.int .u32 (e : Int), .int .u32 (f : Int), .int .u32 (g : Int)] W (Val (.int .u32 (chf e f g : Int)) W) from choice_any e f g oe of og W)
      have KM := hide fun W => (show Calls Tryd.prog 49 #[.int .u32 (a : Int), .int .u32 (b : Int), .int .u32 (c' : Int)] W (Val (.int .u32 (maj a b c' : Int)) W) from maj_any a b c' oa ob oc W)
      clear hq hrk hok
      go_wp2
      go_quiet (first
        | (go_at_call 47; exact Calls.quiet_of_same (KT.out _))
        | (go_at_call 48; exact Calls.quiet_of_same (KC.out _)))
      obtain ⟨t, HT, ht32⟩ : ∃ t : Nat, Hid ((Sta.mk a b c' d e f g h).t1 r q = t) ∧ t < 4294967296 := ⟨_, rfl, Nat.mod_lt _ (by decide)⟩
      have et : (((h : Int) + (tri 6 11 25 e : Int) + (chf e f g : Int) + (r : Int)) % 4294967296 + (q : Int)) % 4294967296 = (t : Int) := by
        rw [← HT.out]
        simp only [Sta.t1]
        omega
      rw [et]
      generalize hw5 : wr.drewN nq = w5
      have hv5 : Wds w5 gv 32 (Sta.mk a b c' d e f g h).list := by rw [← hw5]; exact hv
      have hw6 : Wds w5 gw 33 (sched l) := by rw [← hw5]; exact hw
      have hh5 : Wds w5 gh 32 s.list := by rw [← hw5]; exact hh
      have hz5 : Wds w5 (gh + 1) 32 (List.replicate 8 0) := by rw [← hw5]; exact hz
      have hx5 : Ext w w5 := by rw [← hw5]; exact hx.drewN _
      clear et hw5 hv hw hh hz hx v0 v1 v2 v3 v4 v5 v6 v7 cq cr KT KC
      have v0 := hv5.cell (i := 0) (n := a) rfl
      have v1 := hv5.cell (i := 1) (n := b) rfl
      have v2 := hv5.cell (i := 2) (n := c') rfl
      go_wp2
      go_quiet (first
        | (go_at_call 47; exact Calls.quiet_of_same (KU.out _))
        | (go_at_call 49; exact Calls.quiet_of_same (KM.out _)))
      obtain ⟨u, HU, hu32⟩ : ∃ t : Nat, Hid ((Sta.mk a b c' d e f g h).t2 = t) ∧ t < 4294967296 := ⟨_, rfl, Nat.mod_lt _ (by decide)⟩
      have eu : ((tri 2 13 22 a : Int) + (maj a b c' : Int)) % 4294967296 = (u : Int) := by
        rw [← HU.out]
        simp only [Sta.t2]
        omega
      rw [eu]
      generalize hw7 : w5.drewN nq = w7
      have hv7 : Wds w7 gv 32 (Sta.mk a b c' d e f g h).list := by rw [← hw7]; exact hv5
      have hw8 : Wds w7 gw 33 (sched l) := by rw [← hw7]; exact hw6
      have hh7 : Wds w7 gh 32 s.list := by rw [← hw7]; exact hh5
      have hz7 : Wds w7 (gh + 1) 32 (List.replicate 8 0) := by rw [← hw7]; exact hz5
      have hx7 : Ext w w7 := by rw [← hw7]; exact hx5.drewN _
      clear eu hw7 hv5 hw6 hh5 hz5 hx5 v0 v1 v2 KU KM
      have v0 := hv7.cell (i := 0) (n := a) rfl
      have v1 := hv7.cell (i := 1) (n := b) rfl
      have v2 := hv7.cell (i := 2) (n := c') rfl
      have v3 := hv7.cell (i := 3) (n := d) rfl
      have v4 := hv7.cell (i := 4) (n := e) rfl
      have v5 := hv7.cell (i := 5) (n := f) rfl
      have v6 := hv7.cell (i := 6) (n := g) rfl
      have v7 := hv7.cell (i := 7) (n := h) rfl
      have f0 := hv7.frozen 0
      have f1 := hv7.frozen 1
      have f2 := hv7.frozen 2
      have f3 := hv7.frozen 3
      have f4 := hv7.frozen 4
      have f5 := hv7.frozen 5
      have f6 := hv7.frozen 6
      have f7 := hv7.frozen 7
      obtain ⟨w9, hrun, hv9, hl9⟩ := run_move w7.drew gv a b c' d e f g h hv7
      have hw9 : Wds w9 gw 33 (sched l) := Wds.other (w := w7.drew) hw8 hl9 (by omega)
      have hh9 : Wds w9 gh 32 s.list := Wds.other (w := w7.drew) hh7 hl9 (by omega)
      have hz9 : Wds w9 (gh + 1) 32 (List.replicate 8 0) := Wds.other (w := w7.drew) hz7 hl9 (by omega)
      have hx9 : Ext w w9 := (hx7.trans (Ext.drew _)).laid hl9 (by omega)
      clear v0 v1 v2 v3 v4 v5 v6 v7 f0 f1 f2 f3 f4 f5 f6 f7
      have v0 := hv9.cell (i := 0) (n := a) rfl
      have v4 := hv9.cell (i := 4) (n := d) rfl
      have f0 := hv9.frozen 0
      have f4 := hv9.frozen 4
      go_wp2
      go_region
      clear hrun hv7 hw8 hh7 hz7 hx7
      go_wp2
      refine ⟨⟨k + 1, by omega, by go_num, ?_, ?_, ?_, ?_, ?_⟩, by simp [intOf]; omega⟩
      · rw [HN.out]
        refine Wds.put (Wds.put hv9 4 ((d + t) % 4294967296) (by omega) rfl) 0 ((t + u) % 4294967296) (by omega) ?_
        simp only [Sta.next, Sta.list]
        rw [HT.out, HU.out]
        rfl
      · exact Wds.far (Wds.far hw9 (by show gw ≠ gv; omega) _) (by show gw ≠ gv; omega) _
      · exact Wds.far (Wds.far hh9 (by show gh ≠ gv; omega) _) (by show gh ≠ gv; omega) _
      · exact Wds.far (Wds.far hz9 (by show gh + 1 ≠ gv; omega) _) (by show gh + 1 ≠ gv; omega) _
      · exact Below.set (Below.set hx9 (by show w.heap.size ≤ gv; omega) _) (by show w.heap.size ≤ gv; omega) _
    · have hge : ¬ (k : Int) < 64 := by omega
      have HV : Hid (Wds wr gv 32 (s.rounds (sched l) 64).list) := by
        have e : k = 64 := by omega
        rw [e] at hv
        exact hv
      obtain ⟨wa, hwa⟩ : ∃ x, x = wr := ⟨_, rfl⟩
      subst hwa
      obtain ⟨v, HVV⟩ : ∃ v, Hid (s.rounds (sched l) 64 = v) := ⟨_, rfl⟩
      rw [HVV.out] at HV
      have HM : Hid (mixedS s l = s.plus v) := by show s.plus _ = _; rw [HVV.out]
      clear hv hk hlt
      go_wp2
      go_loopw [63] (fun i wr => ∃ k : Nat, k ≤ 8 ∧ i = .int .i64 k ∧ Wds wr gv 32 v.list ∧ Wds wr gh 32 ((s.plus v).list.take k ++ s.list.drop k) ∧ Wds wr (gh + 1) 32 (List.replicate 8 0) ∧ Ext w wr) (fun i _ => 8 - (intOf i).toNat)
      case atStart => exact ⟨0, Nat.zero_le _, rfl, HV.out, hh, hz, hx⟩
      clear hh hz hx HV hw
      case round =>
        obtain ⟨j, hj, rfl, hv, hh, hz, hx⟩ := hrel
        by_cases hlt : j < 8
        · obtain ⟨x, hxj⟩ : ∃ x, s.list[j]? = some x := ⟨_, List.getElem?_eq_getElem (by simpa [Sta.list] using hlt)⟩
          obtain ⟨y, hyj⟩ : ∃ y, v.list[j]? = some y := ⟨_, List.getElem?_eq_getElem (by simpa [Sta.list] using hlt)⟩
          have HP := hide (plus_get s v j x y hxj hyj)
          have cx : wr.cell? ⟨gh, j, none⟩ = some (.int .u32 (x : Int)) := hh.cell (by rw [get_take _ _ _ (by simpa [Sta.list] using hlt)]; exact hxj)
          have cy := hv.cell hyj
          have fx := hh.frozen j
          clear hxj hyj
          go_wp2
          go_region
          go_wp2
          refine ⟨⟨j + 1, by omega, by go_num, ?_, ?_, ?_, ?_⟩, by simp [intOf]; omega⟩
          · exact Wds.far (w := wr.drew) hv (by show gv ≠ gh; omega) _
          · exact Wds.put (w := wr.drew) hh j ((x + y) % 4294967296) (by omega) (set_take _ _ _ _ HP.out (by simpa [Sta.list] using hlt))
          · exact Wds.far (w := wr.drew) hz (by show gh + 1 ≠ gh; omega) _
          · exact Below.set (hx.trans (Ext.drew _)) (by show w.heap.size ≤ gh; omega) _
        · have hge2 : ¬ (j : Int) < 8 := by omega
          have HH : Hid (Wds wr gh 32 (s.plus v).list) := by
            have e : j = 8 := by omega
            rw [e] at hh
            exact hh
          have HZ := hide hz
          clear hh hz hv hj hlt
          go_wp2_with (first
            | ((with_reducible show wpList _ _ _ (⟨some 75, .load _ _, _, _, _, _⟩ :: _) _ _);
               refine wpList_load_rw rfl 32 (.tmp 2) rfl _ rfl 32 (us (s.plus v).list) HH.out 8 31 Tryd.underlying32 (by kernel_rfl) rfl ?_)
            | ((with_reducible show wpList _ _ _ (⟨none, .store _ (.tmp 4) _, _, _, _, _⟩ :: _) _ _);
               refine wpList_store_rw rfl 32 (.tmp 4) (.tmp 75) rfl _ rfl (us (s.plus v).list) rfl 32 (us (List.replicate 8 0)) HZ.out 8 (by kernel_rfl) rfl rfl (us_one _) ?_;
               intro w5 hr5 hl5))
          rw [HM.out]
          exact ret_rw rfl rfl _ rfl _ _ hr5 8 31 Tryd.underlying32 (by kernel_rfl) rfl (Ret.mk (hx.laid hl5 (by omega)) rfl)
end Go.Proofs.YtdllppaichlnaaaDoor
namespace Go.Proofs.YtdllppaichlnaaaDoor
open Go.RowKit

theorem cells_of_reads {P : Program} {W : World} {name : String} {k : IntKind} {zs : List Int} {g t e n : Nat} (h : Lib.VarReads P W name (Lib.tabData k zs)) (hg : P.globalNamed name = some g) (hty : (P.globals[g]?).map (·.type) = some t)
    (ht : P.underlying t = some (.array n e)) (he : P.underlying e = some (.int k)) (hce : P.cellsOf e = 1) (hct : P.cellsOf t = n) : ∀ i z, zs[i]? = some z → W.cell? ⟨g, i, none⟩ = some (.int k z) := by
  obtain ⟨g', t', cs, fuel, p, h1, h2, hvar, hd⟩ := h
  obtain rfl := Option.some.inj (hg.symm.trans h1)
  obtain rfl := Option.some.inj (hty.symm.trans h2)
  have hcs := Lib.cells_of_tab ht he hce hct hd
  intro i z hz
  rw [World.var?_cell hg hvar i, ← Array.getElem?_toList, hcs]
  simp [hz]
def natInts (l : List Nat) : List Int := l.map fun (n : Nat) => (n : Int)
theorem natInts_get (l : List Nat) (i n : Nat) (h : l[i]? = some n) : (natInts l)[i]? = some (n : Int) := by simp [natInts, h]
theorem tab_of_laid {W : World} (h : laidMetH Tryd.prog [("muniment/digest.start", Rows.laid_muniment_digest_start), ("muniment/digest.roundWords", Rows.laid_muniment_digest_roundWords)] W) : Tab W := by
  rw [MakeChecks.laidMetH_plain _ _ _ (by kernel_rfl)] at h
  have h3 := Lib.laidMet.reads h (.head _)
  have h4 := Lib.laidMet.reads h (.tail _ (.head _))
  rw [show (Rows.laid_muniment_digest_start : DataW Unit) = Lib.tabData .u32 (natInts startW) by kernel_rfl] at h3
  rw [show (Rows.laid_muniment_digest_roundWords : DataW Unit) = Lib.tabData .u32 (natInts roundW) by kernel_rfl] at h4
  exact ⟨fun i n hn => cells_of_reads h4 (show Tryd.prog.globalNamed "muniment/digest.roundWords" = some 1 by kernel_rfl) (by kernel_rfl) Tryd.underlying33 Tryd.underlying31 (by kernel_rfl) (by kernel_rfl) i _ (natInts_get _ _ _ hn),
    fun i n hn => cells_of_reads h3 (show Tryd.prog.globalNamed "muniment/digest.start" = some 0 by kernel_rfl) (by kernel_rfl) Tryd.underlying32 Tryd.underlying31 (by kernel_rfl) (by kernel_rfl) i _ (natInts_get _ _ _ hn)⟩
/-- A world for the witness: the tables hold what the text lays. -/
noncomputable def laidWorld (os : Os) : World := World.laidAll Tryd.prog os [("muniment/digest.start", Rows.laid_muniment_digest_start), ("muniment/digest.roundWords", Rows.laid_muniment_digest_roundWords)]
theorem laidWorld_os (os : Os) : (laidWorld os).os = os := World.laidAll_os _ _ _
theorem laidWorld_met (os : Os) (args : Array Value) : laidMet Tryd.prog [("muniment/digest.start", Rows.laid_muniment_digest_start), ("muniment/digest.roundWords", Rows.laid_muniment_digest_roundWords)] ((laidWorld os).forCall (fun _ _ => 0) ⟨#[], args, []⟩).memory :=
  laidMet_laidAll args (by kernel_rfl) (by kernel_rfl)
end Go.Proofs.YtdllppaichlnaaaDoor
namespace Go.Proofs.YtdllppaichlnaaaDoor
open Go.RowKit

/-- Operation k waits, directly, for every other. -/
def lastOk (ops : Array Oper) (k : Nat) : Bool :=
  match ops[k]? with
  | some o => (List.range ops.size).all fun i => i == k || o.after.toList.any fun e => e.on == i && Region.binds .any e
  | none => false
theorem lastOk_edge {ops : Array Oper} {k : Nat} {last : Oper} (h : lastOk ops k = true) (hk : ops[k]? = some last) {i : Nat} (hi : i < ops.size) (hne : i ≠ k) : ∃ e ∈ last.after, Region.binds .any e = true ∧ e.on = i := by
  unfold lastOk at h
  rw [hk] at h
  simp only [List.all_eq_true, List.mem_range] at h
  have := h i hi
  simp only [Bool.or_eq_true, beq_iff_eq, hne, false_or, List.any_eq_true, Array.mem_toList_iff, Bool.and_eq_true] at this
  obtain ⟨e, he, h1, h2⟩ := this
  exact ⟨e, he, h2, h1⟩

section
variable {P : Program} {ops : Array Oper} {Q : Exit → Act → World → Prop} {S : Nat → World → Value → Prop} {a0 : Act} {w0 : World} {B : Nat}
theorem wpAny_last {k : Nat} {last : Oper} (hk : ops[k]? = some last) (hlast : lastOk ops k = true) (hok : regOk ops a0.tmps.size = true) (hup : ∀ i w w' v, S i w v → Grw B w w' → S i w' v)
    (hstep : ∀ (i : Nat) (o : Oper), i ≠ k → ops[i]? = some o → StepOk B P ops S a0 w0 i o)
    (hend : ∀ (a : Act) (w : World), Grw B w0 w → a.defers = a0.defers → a.tmps.size = a0.tmps.size → (∀ (i : Nat) (o : Oper) (d : Nat), i ≠ k → ops[i]? = some o → o.dst = some d → ∃ v, a.tmps[d]? = some v ∧ S i w v) →
      (∀ t, (∀ (i : Nat) (o : Oper), i ≠ k → ops[i]? = some o → o.dst ≠ some t) → a.tmps[t]? = a0.tmps[t]?) → Region.wanted last (yielded ops a.tmps) = true ∧ gives P last a w fun v w' => Q .normal (a.put last.dst v) w') :
    ∀ (fuel : Nat) (listed : Array Bool) (a : Act) (w : World), RInv B ops S a0 w0 listed a w → listed[k]? = some false → listed.toList.count true + fuel = ops.size → wpAny P .any ops Q fuel listed a w := by
  have getb : ∀ (l : Array Bool) (i : Nat) (b : Bool), l.getD i b = (l[i]?).getD b := fun l i b => by simp
  have allTrue : ∀ (l : Array Bool), l.toList.count true = l.size → ∀ i, i < l.size → l[i]? = some true := fun l h i hi => by
    have : ∀ x ∈ l.toList, true = x := by
      rw [← List.count_eq_length]; simpa using h
    rw [Array.getElem?_eq_getElem hi]
    congr 1
    exact (this _ (by simp)).symm
  have hklt : k < ops.size := by
    rcases Nat.lt_or_ge k ops.size with hlt | hge
    · exact hlt
    · rw [Array.getElem?_eq_none hge] at hk; cases hk
  have step : ∀ (listed : Array Bool) (a : Act) (w : World) (i : Nat) (K : Act → World → Prop), i ≠ k → RInv B ops S a0 w0 listed a w → i ∈ Region.ready .any ops listed →
      (∀ a' w', RInv B ops S a0 w0 (listed.setIfInBounds i true) a' w' → K a' w') → wpOp P ops Q i K a w := by
    intro listed a w i K hik I hr hK
    obtain ⟨hun, o, ho, hall⟩ := mem_ready.1 hr
    have hi : i < listed.size := by
      rw [I.size]
      rcases Nat.lt_or_ge i ops.size with hlt | hge
      · exact hlt
      · rw [Array.getElem?_eq_none hge] at ho; cases ho
    have hfalse : listed[i]? = some false := by
      rw [getb, Array.getElem?_eq_getElem hi] at hun
      rw [Array.getElem?_eq_getElem hi]; simpa using hun
    have hpre : ∀ e ∈ o.after, Region.binds .any e = true → listed[e.on]? = some true := fun e he hb => by
      have h1 := hall e he hb
      rw [getb] at h1
      cases h2 : listed[e.on]? with
      | none => rw [h2] at h1; simp at h1
      | some b => rw [h2] at h1; simp at h1; rw [h1]
    have hset : ∀ (k : Nat), (listed.setIfInBounds i true)[k]? = if i = k then some true else listed[k]? := fun k => by
      rw [Array.getElem?_setIfInBounds]
      by_cases h : i = k
      · subst h; simp [hi]
      · simp [h]
    have next : ∀ v w', Grw B w w' → S i w' v → RInv B ops S a0 w0 (listed.setIfInBounds i true) (a.put o.dst v) w' := by
      intro v w' hx hS
      refine ⟨by simpa using I.size, I.ext.trans hx, ?_, ?_, ?_, ?_, ?_⟩
      · cases hd : o.dst <;> simpa [Act.put] using I.defers
      · cases hd : o.dst <;> simpa [Act.put] using I.tmps
      · intro k ok hk hl e he hb
        rw [hset] at hl ⊢
        by_cases hki : i = k
        · subst hki
          rw [ho] at hk; cases hk
          split
          · rfl
          · exact hpre e he hb
        · rw [if_neg hki] at hl
          split
          · rfl
          · exact I.closed k ok hk hl e he hb
      · intro k ok d hk hl hd
        rw [hset] at hl
        by_cases hki : i = k
        · subst hki
          rw [ho] at hk; cases hk
          refine ⟨v, ?_, hS⟩
          rw [hd]
          have := regOk_lt hok ho hd
          simp only [Act.put, Array.getElem?_setIfInBounds]
          simp [I.tmps, this]
        · rw [if_neg hki] at hl
          obtain ⟨u, hu, hSu⟩ := I.vals k ok d hk hl hd
          refine ⟨u, ?_, hup _ _ _ _ hSu hx⟩
          cases hod : o.dst with
          | none => simpa [Act.put] using hu
          | some d' =>
            have hne : d' ≠ d := fun e => hki (regOk_one hok ho hk (by rw [hod, e]) hd)
            simp only [Act.put, Array.getElem?_setIfInBounds_ne hne]
            exact hu
      · intro t ht
        have hit : o.dst ≠ some t := fun hd => by
          have := ht i o ho hd
          rw [hset, if_pos rfl] at this; cases this
        have := I.same t fun k ok hk hd => by
          have h2 := ht k ok hk hd
          rw [hset] at h2
          split at h2
          · cases h2
          · exact h2
        rw [← this]
        cases hod : o.dst with
        | none => rfl
        | some d' =>
          have hne : d' ≠ t := fun e => hit (by rw [hod, e])
          simp only [Act.put, Array.getElem?_setIfInBounds_ne hne]
    have hs := hstep i o hik ho a w I.ext I.defers ?_ ?_
    · unfold wpOp
      simp only [ho]
      rcases hs with ⟨hw, hg⟩ | ⟨hw, hS⟩
      · rw [if_pos hw]
        exact .inl (wp_of_gives hg fun v w' ⟨hx, hS⟩ => hK _ _ (next v w' hx hS))
      · rw [if_neg (by rw [hw]; exact Bool.false_ne_true)]
        exact hK _ _ (next _ _ (Grw.refl _ _) hS)
    · intro t ht
      refine I.same t fun k ok hk hd => ?_
      simp only [keepsB, List.all_eq_true] at ht
      have hm : ok ∈ ops.toList := by simpa using Array.mem_of_getElem? hk
      have := ht ok hm
      simp only [hd, bne_self_eq_false, Bool.false_or, List.any_eq_true, Array.mem_toList_iff] at this
      obtain ⟨e, he, hb⟩ := this
      simp only [Bool.and_eq_true, beq_iff_eq] at hb
      have hkl : k < listed.size := by
        rw [I.size]
        rcases Nat.lt_or_ge k ops.size with hlt | hge
        · exact hlt
        · rw [Array.getElem?_eq_none hge] at hk; cases hk
      cases hv : listed[k]? with
      | none => rw [Array.getElem?_eq_getElem hkl] at hv; cases hv
      | some b =>
        cases b with
        | false => rfl
        | true =>
          have := I.closed k ok hk hv e he hb.2
          rw [hb.1, hfalse] at this; cases this
    · intro e he hb o' ho' d hd
      exact I.vals e.on o' d ho' (hpre e he hb) hd
  have full : ∀ (listed : Array Bool) (a : Act) (w : World), RInv B ops S a0 w0 listed a w → Region.ready .any ops listed = [] → ∀ i, i < ops.size → listed[i]? = some true := by
    intro listed a w I hr i
    induction i using Nat.strongRecOn with
    | ind i ih =>
      intro hi
      cases hv : listed[i]? with
      | none => rw [Array.getElem?_eq_none_iff, I.size] at hv; omega
      | some b =>
        cases b with
        | true => rfl
        | false =>
          exfalso
          have hmem : i ∈ Region.ready .any ops listed := by
            refine mem_ready.2 ⟨by rw [getb, hv]; rfl, ops[i], Array.getElem?_eq_getElem hi, fun e he hb => ?_⟩
            have hlt := regOk_back hok (Array.getElem?_eq_getElem hi) he hb
            rw [getb, ih e.on hlt (by omega)]; rfl
          rw [hr] at hmem; cases hmem
  have step_k : ∀ (listed : Array Bool) (a : Act) (w : World) (K : Act → World → Prop), RInv B ops S a0 w0 listed a w → listed[k]? = some false → k ∈ Region.ready .any ops listed →
      (∀ i, i < ops.size → i ≠ k → listed[i]? = some true) ∧ ((∀ v w', Q .normal (a.put last.dst v) w' → K (a.put last.dst v) w') → wpOp P ops Q k K a w) := by
    intro listed a w K I hkf hr
    obtain ⟨hun, o, ho, hall⟩ := mem_ready.1 hr
    rw [hk] at ho
    cases ho
    have hothers : ∀ i, i < ops.size → i ≠ k → listed[i]? = some true := by
      intro i hi hne
      have h1 := lastOk_edge hlast hk hi hne
      obtain ⟨e, he, hb, rfl⟩ := h1
      have h2 := hall e he hb
      rw [getb] at h2
      cases h3 : listed[e.on]? with
      | none => rw [h3] at h2; simp at h2
      | some b => rw [h3] at h2; simp at h2; rw [h2]
    refine ⟨hothers, fun hK => ?_⟩
    have hlt : ∀ {i : Nat} {o : Oper}, ops[i]? = some o → i < ops.size := fun {i o} ho => by
      rcases Nat.lt_or_ge i ops.size with hlt | hge
      · exact hlt
      · rw [Array.getElem?_eq_none hge] at ho; cases ho
    obtain ⟨hw, hg⟩ := hend a w I.ext I.defers I.tmps (fun i o d hne ho hd => I.vals i o d ho (hothers i (hlt ho) hne) hd) (fun t ht => I.same t fun i o ho hd => by
      by_cases hne : i = k
      · subst hne; exact hkf
      · exact absurd hd (ht i o hne ho))
    unfold wpOp
    simp only [hk]
    rw [if_pos hw]
    exact .inl (wp_of_gives hg fun v w' h => hK v w' h)
  intro fuel
  induction fuel with
  | zero =>
    intro listed a w I hkf hc
    have hall := allTrue listed (by rw [I.size]; omega)
    rw [I.size] at hall
    rw [hall k hklt] at hkf
    cases hkf
  | succ fuel ih =>
    intro listed a w I hkf hc
    refine ⟨fun hr => ?_, fun i hi => ?_⟩
    · have := full listed a w I hr k hklt
      rw [hkf] at this; cases this
    · have hcount : ∀ (l : Array Bool), True := fun _ => trivial
      obtain ⟨hun, o, ho, _⟩ := mem_ready.1 hi
      have hlt : i < listed.size := by
        rw [I.size]
        rcases Nat.lt_or_ge i ops.size with hlt | hge
        · exact hlt
        · rw [Array.getElem?_eq_none hge] at ho; cases ho
      have hif : listed[i]? = some false := by rw [getb, Array.getElem?_eq_getElem hlt] at hun; rw [Array.getElem?_eq_getElem hlt]; simpa using hun
      have hcs := count_set hif
      by_cases hik : i = k
      · subst hik
        rw [hk] at ho
        cases ho
        have hothers := (step_k listed a w (fun _ _ => True) I hkf hi).1
        refine (step_k listed a w _ I hkf hi).2 fun v w' hQ => ?_
        have hall2 : ∀ j, j < ops.size → (listed.setIfInBounds i true)[j]? = some true := fun j hj => by
          rw [Array.getElem?_setIfInBounds]
          by_cases h : i = j
          · subst h; simp [hlt]
          · simp only [h, if_false]; exact hothers j hj (fun e => h e.symm)
        have hfu : fuel = 0 := by
          have : (listed.setIfInBounds i true).toList.count true = ops.size := by
            have hsz : (listed.setIfInBounds i true).toList.length = ops.size := by simpa using I.size
            rw [← hsz, List.count_eq_length]
            intro x hx
            obtain ⟨j, hj, rfl⟩ := List.mem_iff_getElem.1 hx
            have h1 := hall2 j (by rw [← hsz]; exact hj)
            rw [Array.getElem?_eq_getElem (by simpa using hj)] at h1
            simp only [Option.some.injEq] at h1
            rw [Array.getElem_toList]
            exact h1.symm
          omega
        subst hfu
        refine ⟨?_, hQ⟩
        cases hr : Region.ready .any ops (listed.setIfInBounds i true) with
        | nil => rfl
        | cons j rest =>
          exfalso
          have hm : j ∈ Region.ready .any ops (listed.setIfInBounds i true) := by rw [hr]; simp
          obtain ⟨hun2, o2, ho2, _⟩ := mem_ready.1 hm
          have hj2 : j < ops.size := by
            rcases Nat.lt_or_ge j ops.size with hlt | hge
            · exact hlt
            · rw [Array.getElem?_eq_none hge] at ho2; cases ho2
          rw [getb, hall2 j hj2] at hun2; cases hun2
      · refine step listed a w i _ hik I hi fun a' w' I' => ih _ a' w' I' ?_ (by omega)
        rw [Array.getElem?_setIfInBounds]
        simp only [hik, if_false]
        exact hkf

end

/-- THE REGION, its last operation at place k. -/
theorem wp_region_last {B : Nat} {P : Program} {ops : List Oper} {Q : Exit → Act → World → Prop} {a0 : Act} {w0 : World} {id : Nat} (hB : B ≤ w0.heap.size) (L : List Sp) (k : Nat) (last : Oper) (hk : ops.toArray[k]? = some last) (hlast : lastOk ops.toArray k = true)
    (hm : P.follows .mixedOrders = true) (hok : regOk ops.toArray a0.tmps.size = true)
    (hstep : PaysFrom (fun i o => i = k ∨ Pays B P ops.toArray L a0 w0 i o) 0 ops)
    (hend : ∀ (a : Act) (w : World), Grw B w0 w → a.defers = a0.defers → a.tmps.size = a0.tmps.size → (∀ (i : Nat) (o : Oper) (d : Nat), i ≠ k → ops.toArray[i]? = some o → o.dst = some d → ∃ v, a.tmps[d]? = some v ∧ (L.getD i Sp.any).p w v) →
      (∀ t, (∀ (i : Nat) (o : Oper), i ≠ k → ops.toArray[i]? = some o → o.dst ≠ some t) → a.tmps[t]? = a0.tmps[t]?) → Region.wanted last (yielded ops.toArray a.tmps) = true ∧ gives P last a w fun v w' => Q .normal (a.put last.dst v) w') :
    (Code.region id ops.toArray true).wp P Q a0 w0 := by
  refine wp_region_any hm (wpAny_last (S := fun i => (L.getD i Sp.any).p) (w0 := w0) (a0 := a0) (B := B) hk hlast hok (fun i w w' v h hx => (L.getD i Sp.any).up w w' v h hx.keeps) ?_ hend _ _ a0 _ ?_ ?_ ?_)
  · intro i o hne ho a w hx hd hk' H
    have h := paysFrom_all ops 0 hstep i o (by simpa using ho)
    rw [Nat.zero_add] at h
    rcases h with h | h
    · exact absurd h hne
    refine h a w hx (Nat.le_trans hB hx.size) hk' fun j hj o' ho' d hd' => ?_
    simp only [List.any_eq_true, Array.mem_toList_iff] at hj
    obtain ⟨e, he, hb⟩ := hj
    simp only [Bool.and_eq_true, beq_iff_eq] at hb
    obtain ⟨rfl, hb⟩ := hb
    exact H e he hb o' ho' d hd'
  · refine ⟨by simp, Grw.drewn _ _ _, rfl, rfl, ?_, ?_, fun _ _ => rfl⟩
    · intro i o ho hl
      rw [Array.getElem?_replicate] at hl
      split at hl <;> simp at hl
    · intro i o d ho hl
      rw [Array.getElem?_replicate] at hl
      split at hl <;> simp at hl
  · have hklt : k < ops.toArray.size := by
      rcases Nat.lt_or_ge k ops.toArray.size with hlt | hge
      · exact hlt
      · rw [Array.getElem?_eq_none hge] at hk; cases hk
    rw [Array.getElem?_replicate, if_pos hklt]
  · have : (Array.replicate ops.toArray.size false).toList.count true = 0 := by simp [List.count_replicate]
    omega

/-- A frame, told slot by slot. -/
theorem tmps_sets {t : Array Value} : ∀ (ps : List (Nat × Value)) (a0 : Array Value), t.size = a0.size → (∀ p ∈ ps, t[p.1]? = some p.2) → (∀ i, (∀ p ∈ ps, p.1 ≠ i) → t[i]? = a0[i]?) → t = ps.foldl (fun t p => t.setIfInBounds p.1 p.2) a0
  | [], a0, hs, _, h => Array.ext_getElem? (fun i => h i (fun _ h => by cases h))
  | p :: ps, a0, hs, hp, h => by
    refine tmps_sets ps (a0.setIfInBounds p.1 p.2) (by simpa using hs) (fun q hq => hp q (List.mem_cons_of_mem _ hq)) (fun i hi => ?_)
    rw [Array.getElem?_setIfInBounds]
    by_cases he : p.1 = i
    · subst he
      have h1 := hp p (List.mem_cons_self)
      have hlt : p.1 < t.size := by
        rcases Nat.lt_or_ge p.1 t.size with h' | h'
        · exact h'
        · rw [Array.getElem?_eq_none h'] at h1; cases h1
      rw [if_pos rfl, if_pos (by omega), h1]
    · rw [if_neg he]
      exact h i (fun q hq => by
        rcases List.mem_cons.1 hq with rfl | hq
        · exact he
        · exact hi q hq)
/-- The slots that the operations other than k write are these. -/
def dstsIn (ops : List Oper) (k : Nat) (ds : List Nat) : Bool := ops.zipIdx.all fun x => x.2 == k || (match x.1.dst with | some d => ds.contains d | none => true)
theorem frame_last {ops : List Oper} {k : Nat} {a0 t : Array Value} (ps : List (Nat × Value)) (hs : t.size = a0.size) (hd : dstsIn ops k (ps.map (·.1)) = true) (hp : ∀ p ∈ ps, t[p.1]? = some p.2)
    (hsame : ∀ t', (∀ (i : Nat) (o : Oper), i ≠ k → ops.toArray[i]? = some o → o.dst ≠ some t') → t[t']? = a0[t']?) : t = ps.foldl (fun t p => t.setIfInBounds p.1 p.2) a0 := by
  refine tmps_sets ps a0 hs hp fun i hi => hsame i fun j o hj ho hdst => ?_
  have hm : (o, j) ∈ ops.zipIdx := by rw [List.mem_zipIdx_iff_getElem?]; simpa using ho
  have := List.all_eq_true.1 hd (o, j) hm
  simp only [hdst, Bool.or_eq_true, beq_iff_eq, hj, false_or, List.contains_iff_mem] at this
  obtain ⟨p, hp1, hp2⟩ := List.mem_map.1 this
  exact hi p hp1 hp2
end Go.Proofs.YtdllppaichlnaaaDoor
namespace Go.Proofs.YtdllppaichlnaaaDoor
open Go.RowKit
theorem list_length (s : Sta) : s.list.length = 8 := rfl
section
variable {P : Program} {o : Oper} {a : Act} {w : World} {R : Value → World → Prop}
theorem gives_sub {x y z : Operand} {t e b off n c i j : Nat} (h : o.op = .slice t x (some y) (some z) none) (ht : P.underlying t = some (.slice e)) (he : (P.info? e).map (·.size) = some 1) (hx : a.eval x = .slice (some ⟨b, off, none⟩) n c) (hy : a.eval y = .int .i64 (i : Int)) (hz : a.eval z = .int .i64 (j : Int))
    (hij : i ≤ j) (hj : j ≤ c) (hi : i < c) (hR : R (.slice (some ⟨b, off + i, none⟩) (j - i) (c - i)) w) : gives P o a w R := by
  obtain ⟨q, hq, hs⟩ : ∃ q, P.info? e = some q ∧ q.size = 1 := by
    cases hq : P.info? e with
    | none => simp [hq] at he
    | some q => exact ⟨q, rfl, by simpa [hq] using he⟩
  have hne : ¬ c = i := by omega
  have hcut : (Instr.slice t (.slice (some ⟨b, off, none⟩) n c) (some (.int .i64 (i : Int))) (some (.int .i64 (j : Int))) none).run P w = .ok (.slice (some ⟨b, off + i, none⟩) (j - i) (c - i)) w := by
    have hadd : (⟨b, off, none⟩ : Addr).add i = ⟨b, off + i, none⟩ := add_flat _ _ _
    simp [Instr.slice, run_underlying ht, Instr.sliceBounds, Instr.sliceBound, asIntOf, hij, hj, sizeOf, typeInfo, hq, hs, hne, hadd]
  have hcut2 : (Instr.sliceAt t (.slice (some ⟨b, off, none⟩) n c) (some (.int .i64 (i : Int))) (some (.int .i64 (j : Int))) none).run P w = .ok (.slice (some ⟨b, off + i, none⟩) (j - i) (c - i)) w := by simp [Instr.sliceAt, run_underlying ht, hcut]
  refine gives_of_run (w' := w) (v := .slice (some ⟨b, off + i, none⟩) (j - i) (c - i)) ?_ hR
  unfold execOp
  simp only [h, Option.map_some, Option.map_none, hx, hy, hz, Sem.run_bind, hcut2, Result.andThen_ok, Sem.run_pure]
theorem gives_from {x y : Operand} {t e n c i : Nat} {A : Option Addr} {l : List UInt8} (h : o.op = .slice t x (some y) none none) (ht : P.underlying t = some (.slice e)) (he : (P.info? e).map (·.size) = some 1) (hx : a.eval x = .slice A n c) (hy : a.eval y = .int .i64 (i : Int))
    (hi : i ≤ n) (hn : n ≤ c) (hl : n = l.length) (hr : Rd w A l) (hR : ∀ A', Rd w A' (l.drop i) → R (.slice A' (n - i) (c - i)) w) : gives P o a w R := by
  obtain ⟨q, hq, hs⟩ : ∃ q, P.info? e = some q ∧ q.size = 1 := by
    cases hq : P.info? e with
    | none => simp [hq] at he
    | some q => exact ⟨q, rfl, by simpa [hq] using he⟩
  have hcut : (Instr.slice t (.slice A n c) (some (.int .i64 (i : Int))) none none).run P w = .ok (.slice (if c = i then A else A.map (·.add (i * 1))) (n - i) (c - i)) w := by
    simp [Instr.slice, run_underlying ht, Instr.sliceBounds, Instr.sliceBound, asIntOf, hi, sizeOf, typeInfo, hq, hs]
  have hcut2 : (Instr.sliceAt t (.slice A n c) (some (.int .i64 (i : Int))) none none).run P w = .ok (.slice (if c = i then A else A.map (·.add (i * 1))) (n - i) (c - i)) w := by simp [Instr.sliceAt, run_underlying ht, hcut]
  refine gives_of_run (w' := w) (v := .slice (if c = i then A else A.map (·.add (i * 1))) (n - i) (c - i)) ?_ (hR _ ?_)
  · unfold execOp
    simp only [h, Option.map_some, Option.map_none, hx, hy, Sem.run_bind, hcut2, Result.andThen_ok, Sem.run_pure]
  · by_cases hc : c = i
    · have : l.drop i = [] := List.drop_of_length_le (by omega)
      rw [this]
      exact Rd.nil _ _
    · rw [if_neg hc]
      cases A with
      | none =>
        have hl0 : l = [] := by
          cases l with
          | nil => rfl
          | cons u r => obtain ⟨_, _, hA, _⟩ := hr (by simp); cases hA
        subst hl0
        simp only [List.drop_nil]
        exact Rd.nil _ _
      | some ad =>
        rw [Nat.mul_one]
        exact hr.drop i
/-- The whole of an array as a slice. -/
theorem gives_all {x : Operand} {t g n : Nat} (h : o.op = .slice t x none none none) (hx : a.eval x = .pointer (some ⟨g, 0, none⟩))
    (hrun : (Instr.sliceAt t (.pointer (some ⟨g, 0, none⟩)) none none none).run P w = .ok (.slice (some ⟨g, 0, none⟩) n n) w)
    (hR : R (.slice (some ⟨g, 0, none⟩) n n) w) : gives P o a w R := by
  refine gives_of_run (w' := w) (v := .slice (some ⟨g, 0, none⟩) n n) ?_ hR
  unfold execOp
  simp only [h, Option.map_none, hx, Sem.run_bind, hrun, Result.andThen_ok, Sem.run_pure]
theorem gives_mul_i64 {xt yt : Nat} {x y : Operand} (m n : Int) (h : o.op = .binOp .mul xt x y yt) (hx : a.eval x = .int .i64 m) (hy : a.eval y = .int .i64 n) (hb : -9223372036854775808 ≤ m * n ∧ m * n ≤ 9223372036854775807) (hR : R (.int .i64 (m * n)) w) : gives P o a w R :=
  gives_bin h hx hy (by simp [go_sem]) (by simp [go_sem, IntWalk.i64_in _ hb]) hR
theorem gives_add_i64 {xt yt : Nat} {x y : Operand} (m n : Int) (h : o.op = .binOp .add xt x y yt) (hx : a.eval x = .int .i64 m) (hy : a.eval y = .int .i64 n) (hb : -9223372036854775808 ≤ m + n ∧ m + n ≤ 9223372036854775807) (hR : R (.int .i64 (m + n)) w) : gives P o a w R :=
  gives_bin h hx hy (by simp [go_sem]) (by simp [go_sem, IntWalk.i64_in _ hb]) hR
theorem gives_i64_u64 {x : Operand} {src dst : Nat} (n : Int) (h : o.op = .convert src dst x) (hs : P.underlying src = some (.int .i64)) (hd : P.underlying dst = some (.int .u64)) (hx : a.eval x = .int .i64 n) (hb : 0 ≤ n ∧ n ≤ 18446744073709551615) (hR : R (.int .u64 n) w) : gives P o a w R := by
  have hrun : (convert src dst (.int .i64 n)).run P w = .ok (.int .u64 n) w := by simp [go_sem, hs, hd, IntWalk.u64_in _ hb]
  refine gives_of_run (w' := w) (v := .int .u64 n) ?_ hR
  unfold execOp
  simp only [h, hx, Sem.run_bind, hrun, Result.andThen_ok, Sem.run_pure]
theorem gives_add_u64 {xt yt : Nat} {x y : Operand} (m n : Int) (h : o.op = .binOp .add xt x y yt) (hx : a.eval x = .int .u64 m) (hy : a.eval y = .int .u64 n) (hb : 0 ≤ m + n ∧ m + n ≤ 18446744073709551615) (hR : R (.int .u64 (m + n)) w) : gives P o a w R :=
  gives_bin h hx hy (by simp [go_sem]) (by simp [go_sem, IntWalk.u64_in _ hb]) hR
end
/-- A whole array read, of which the cells are known. -/
theorem run_loadVar_cells {P : Program} (w : World) (g : Nat) (ty : TypeId) (vs : List Value) (n : Nat) (e : TypeId) (hu : P.underlying ty = some (.array n e)) (hi : (P.info? ty).map (·.size) = some n) (hn : n = vs.length)
    (hc : ∀ j v, vs[j]? = some v → w.cell? ⟨g, j, none⟩ = some v) : (loadVar ty ⟨g, 0, none⟩).run P w = .ok (.agg vs.toArray) w := by
  have hl : (loadCells ⟨g, 0, none⟩ vs.length).run P w = .ok vs.toArray w :=
    run_loadCells_list (P := P) w ⟨g, 0, none⟩ vs (fun j v hv => by rw [add_flat, Nat.zero_add]; exact hc j v hv)
  cases hq : P.info? ty with
  | none => simp [hq] at hi
  | some i =>
    have hs : i.size = vs.length := by simp [hq] at hi; omega
    have hagg : (isAgg ty).run P w = .ok true w := by
      unfold isAgg
      rw [Sem.run_bind, run_underlying hu w]
      simp
    simp [loadVar, Sem.run_bind, hagg, sizeOf, typeInfo, hq, hs, hl]
theorem gives_load_cells {P : Program} {o : Oper} {a : Act} {w : World} {R : Value → World → Prop} (ty : TypeId) (x : Operand) (ho : o.op = .load ty x) (g : Nat) (hx : a.eval x = .pointer (some ⟨g, 0, none⟩)) (vs : List Value)
    (n : Nat) (e : TypeId) (hu : P.underlying ty = some (.array n e)) (hi : (P.info? ty).map (·.size) = some n) (hn : n = vs.length) (hc : ∀ j v, vs[j]? = some v → w.cell? ⟨g, j, none⟩ = some v) (hR : R (.agg vs.toArray) w) : gives P o a w R := by
  unfold gives execOp
  simp only [ho, hx, Instr.loadAt, Instr.sureAddr, Sem.run_bind, Sem.run_pure, Result.andThen_ok, run_loadVar_cells w g ty vs n e hu hi hn hc]
  exact hR
theorem wpList_load_cells {P : Program} {ops : Array Oper} {rest : List Oper} {o : Oper} {a : Act} {w : World} {Q : Exit → Act → World → Prop} (hgd : o.guard = none) (ty : TypeId) (x : Operand) (ho : o.op = .load ty x) (g : Nat) (hx : a.eval x = .pointer (some ⟨g, 0, none⟩)) (vs : List Value)
    (n : Nat) (e : TypeId) (hu : P.underlying ty = some (.array n e)) (hi : (P.info? ty).map (·.size) = some n) (hn : n = vs.length) (hc : ∀ j v, vs[j]? = some v → w.cell? ⟨g, j, none⟩ = some v)
    (h : wpList P ops Q rest (a.put o.dst (.agg vs.toArray)) w) : wpList P ops Q (o :: rest) a w :=
  wpList_plain hgd fun _ hK => wp_of_gives (R := fun v w' => v = .agg vs.toArray ∧ w' = w) (gives_load_cells ty x ho g hx vs n e hu hi hn hc ⟨rfl, rfl⟩) (fun v w' ⟨hv, hw⟩ => by subst hv hw; exact hK _ _ h)
/-- A place of an array that is a value. -/
theorem run_index {P : Program} (w : World) (t e : Nat) (vs : List Value) (v : Value) (k : Nat) (ht : P.underlying t = some (.array vs.length e)) (he : (P.info? e).map (·.size) = some 1) (hk : vs[k]? = some v) (hp : (part e vs.toArray k).run P w = .ok v w) :
    (Instr.index t (.agg vs.toArray) (.int .i64 (k : Int))).run P w = .ok v w := by
  have hlt : k < vs.length := (List.getElem?_eq_some_iff.1 hk).1
  obtain ⟨q, hq, hs⟩ : ∃ q, P.info? e = some q ∧ q.size = 1 := by
    cases hq : P.info? e with
    | none => simp [hq] at he
    | some q => exact ⟨q, rfl, by simpa [hq] using he⟩
  simp [Instr.index, asIntOf, run_underlying ht, hlt, sizeOf, typeInfo, hq, hs, hp]
end Go.Proofs.YtdllppaichlnaaaDoor
namespace Go.Proofs.YtdllppaichlnaaaDoor
open Go.RowKit

theorem equalIn_bytes {P : Program} (w : World) (d t e n : Nat) (xs : Array Value) (ht : P.underlying t = some (.array n e)) (he : P.underlying e = some (.int .u8)) (hsz : (P.info? e).map (·.size) = some 1)
    (h : ∀ i, i < n → ∃ z, (part e xs i).run P w = .ok (.int .u8 z) w) : (Op.equalIn (d + 2) t (.agg xs) (.agg xs)).run P w = .ok true w := by
  obtain ⟨q, hq, hs⟩ : ∃ q, P.info? e = some q ∧ q.size = 1 := by
    cases hq : P.info? e with
    | none => simp [hq] at hsz
    | some q => exact ⟨q, rfl, by simpa [hq] using hsz⟩
  have hz : (sizeOf e).run P w = .ok 1 w := by simp [sizeOf, typeInfo, hq, hs]
  rw [Op.equalIn]
  simp only [Sem.run_bind, run_underlying ht, Result.andThen_ok, hz]
  rw [Std.Legacy.Range.forIn_eq_forIn_range']
  have hm : ∀ i ∈ List.range' ([0:n] : Std.Legacy.Range).start ([0:n] : Std.Legacy.Range).size ([0:n] : Std.Legacy.Range).step, i < n := by
    intro i hi
    simp [Std.Legacy.Range.size] at hi
    omega
  generalize List.range' ([0:n] : Std.Legacy.Range).start ([0:n] : Std.Legacy.Range).size ([0:n] : Std.Legacy.Range).step = l at *
  induction l with
  | nil => simp
  | cons i l ih =>
    obtain ⟨z, hzz⟩ := h i (hm i (List.mem_cons_self))
    have := ih (fun j hj => hm j (List.mem_cons_of_mem _ hj))
    simp only [List.forIn_cons, Nat.mul_one, Sem.run_bind, hzz, Result.andThen_ok, run_equalIn_int w d e .u8 .u8 z z he, beq_self_eq_true, Bool.not_true, Bool.false_eq_true, if_false, Sem.run_pure, Sem.run_ite]
    simp only [Nat.mul_one, Sem.run_bind] at this
    exact this
theorem part_byte {P : Program} (w : World) (e : Nat) (l : List UInt8) (he : P.underlying e = some (.int .u8)) (i : Nat) (hi : i < l.length) : ∃ z, (part e (bs l).toArray i).run P w = .ok (.int .u8 z) w :=
  ⟨_, run_part_plain w (by simp [Program.plainKey, he]) (v := .int .u8 ((l[i]).toNat : Int)) (by rw [List.getElem?_toArray, bs_get, List.getElem?_eq_getElem hi]; rfl)⟩
theorem run_eql_bytes {P : Program} (w : World) (t e : Nat) (l : List UInt8) (ht : P.underlying t = some (.array l.length e)) (he : P.underlying e = some (.int .u8)) (hsz : (P.info? e).map (·.size) = some 1) : (binOp .eql t (.agg (bs l).toArray) (.agg (bs l).toArray)).run P w = .ok (.bool true) w := by
  rw [run_eql_struct, equalIn_bytes w 9998 t e _ _ ht he hsz (fun i hi => part_byte w e l he i hi)]
  rfl
theorem run_neq_bytes {P : Program} (w : World) (t e : Nat) (l : List UInt8) (ht : P.underlying t = some (.array l.length e)) (he : P.underlying e = some (.int .u8)) (hsz : (P.info? e).map (·.size) = some 1) : (binOp .neq t (.agg (bs l).toArray) (.agg (bs l).toArray)).run P w = .ok (.bool false) w := by
  rw [run_neq_struct, equalIn_bytes w 9998 t e _ _ ht he hsz (fun i hi => part_byte w e l he i hi)]
  rfl
theorem gives_eql_bytes {P : Program} {o : Oper} {a : Act} {w : World} {R : Value → World → Prop} {t e yt : Nat} {x y : Operand} (l : List UInt8) (h : o.op = .binOp .eql t x y yt) (ht : P.underlying t = some (.array l.length e)) (he : P.underlying e = some (.int .u8)) (hsz : (P.info? e).map (·.size) = some 1)
    (hg : P.eqGuardType P.depth t = false) (hx : a.eval x = .agg (bs l).toArray) (hy : a.eval y = .agg (bs l).toArray) (hR : R (.bool true) w) : gives P o a w R :=
  gives_bin h hx hy (run_eqGuard_agg w .eql t x y _ _ hg) (run_eql_bytes w t e l ht he hsz) hR
/-- A whole array read, in an operation that may be guarded. -/
theorem wpList_load_wd {P : Program} {ops : Array Oper} {rest : List Oper} {o : Oper} {a : Act} {w : World} {Q : Exit → Act → World → Prop} (hgd : Region.wanted o (yielded ops a.tmps) = true) (ty : TypeId) (x : Operand) (ho : o.op = .load ty x) (g : Nat) (hx : a.eval x = .pointer (some ⟨g, 0, none⟩)) (t : TypeId) (vs : List Value) (hr : Rw w g t vs)
    (n : Nat) (e : TypeId) (hu : P.underlying ty = some (.array n e)) (hi : (P.info? ty).map (·.size) = some n) (hn : n = vs.length)
    (h : wpList P ops Q rest (a.put o.dst (.agg vs.toArray)) w) : wpList P ops Q (o :: rest) a w :=
  wpList_step fun K hK => by
    rw [if_pos hgd]
    exact wp_of_gives (R := fun v w' => v = .agg vs.toArray ∧ w' = w) (gives_load_rw ty x ho g hx t vs hr n e hu hi hn ⟨rfl, rfl⟩) (fun v w' ⟨hv, hw⟩ => by subst hv hw; exact hK _ _ h)
end Go.Proofs.YtdllppaichlnaaaDoor
namespace Go.Proofs.YtdllppaichlnaaaDoor

/-- What the parts of 32 bits are together, the lowest first. -/
def num : List Nat → Nat
  | [] => 0
  | a :: l => a + 4294967296 * num l
def Small (l : List Nat) : Prop := ∀ a ∈ l, a < 4294967296
structure Parts (l : List Nat) : Prop where
  len : l.length = 8
  small : Small l
theorem Small.get {l : List Nat} (h : Small l) {i x : Nat} (hx : l[i]? = some x) : x < 4294967296 := h x (List.mem_of_getElem? hx)
theorem num_lt (l : List Nat) (h : Small l) : num l < 4294967296 ^ l.length := by
  induction l with
  | nil => decide
  | cons a l ih =>
    have h1 := ih fun x hx => h x (List.mem_cons_of_mem _ hx)
    have h2 := h a (List.mem_cons_self ..)
    rw [List.length_cons, Nat.pow_succ, num]
    generalize 4294967296 ^ l.length = q at *
    omega
theorem num_append (a b : List Nat) : num (a ++ b) = num a + 4294967296 ^ a.length * num b := by
  induction a with
  | nil => simp [num]
  | cons x a ih =>
    rw [List.cons_append, num, num, ih, List.length_cons, Nat.pow_succ, Nat.mul_add, ← Nat.mul_assoc, Nat.mul_comm 4294967296 (4294967296 ^ a.length)]
    omega
theorem num_set (l : List Nat) (i x d : Nat) (hx : l[i]? = some x) : num (l.set i d) + x * 4294967296 ^ i = num l + d * 4294967296 ^ i := by
  induction l generalizing i with
  | nil => simp at hx
  | cons a l ih =>
    rcases i with _ | i
    · simp only [List.getElem?_cons_zero, Option.some.injEq] at hx
      subst hx
      rw [List.set_cons_zero, num, num, Nat.pow_zero]
      omega
    · have h1 := ih i (by simpa using hx)
      rw [List.set_cons_succ, num, num, Nat.pow_succ, ← Nat.mul_assoc, ← Nat.mul_assoc]
      generalize x * 4294967296 ^ i = u at *
      generalize d * 4294967296 ^ i = v at *
      omega
theorem num_take (l : List Nat) (i x : Nat) (hx : l[i]? = some x) : num (l.take (i + 1)) = num (l.take i) + x * 4294967296 ^ i := by
  have hi := (List.getElem?_eq_some_iff.1 hx).1
  rw [List.take_add_one, hx, Option.toList_some, num_append, List.length_take, Nat.min_eq_left (by omega)]
  simp only [num, Nat.mul_zero, Nat.add_zero]
  rw [Nat.mul_comm]
theorem num_cut (l : List Nat) (i : Nat) (hi : i ≤ l.length) : num l = num (l.take i) + 4294967296 ^ i * num (l.drop i) := by
  have h := num_append (l.take i) (l.drop i)
  rw [List.take_append_drop, List.length_take, Nat.min_eq_left hi] at h
  exact h
theorem num_zeros (n : Nat) : num (List.replicate n 0) = 0 := by
  induction n with
  | zero => rfl
  | succ n ih => rw [List.replicate_succ, num, ih]
theorem Small.set {l : List Nat} (h : Small l) (i d : Nat) (hd : d < 4294967296) : Small (l.set i d) := fun a ha => by
  rcases List.mem_or_eq_of_mem_set ha with h1 | rfl
  · exact h a h1
  · exact hd
theorem Parts.set {l : List Nat} (h : Parts l) (i d : Nat) (hd : d < 4294967296) : Parts (l.set i d) := ⟨by rw [List.length_set]; exact h.len, h.small.set i d hd⟩
theorem Parts.lt {l : List Nat} (h : Parts l) : num l < 4294967296 ^ 8 := by have := num_lt l h.small; rwa [h.len] at this
theorem Parts.zeros : Parts (List.replicate 8 0) := ⟨rfl, fun a ha => by rw [(List.mem_replicate.1 ha).2]; decide⟩

/-- One step of a row: the place's new part and what goes over. -/
theorem mul_step (o b : List Nat) (P x y z v j k i over : Nat) (hj : j = i + k) (hz : o[j]? = some z) (hy : b[k]? = some y) (hv : v = x * y + z + over)
    (h : (num o + over * 4294967296 ^ j) % 4294967296 ^ 8 = (P + x * num (b.take k) * 4294967296 ^ i) % 4294967296 ^ 8) :
    (num (o.set j (v % 4294967296)) + v / 4294967296 * 4294967296 ^ (j + 1)) % 4294967296 ^ 8 = (P + x * num (b.take (k + 1)) * 4294967296 ^ i) % 4294967296 ^ 8 := by
  have h1 := num_set o j z (v % 4294967296) hz
  rw [num_take b k y hy, Nat.mul_add, Nat.add_mul, ← Nat.add_assoc, Nat.mul_assoc x (y * _), Nat.mul_assoc y, ← Nat.pow_add, Nat.add_comm k i, ← hj, ← Nat.mul_assoc x y]
  have h0 : (P + x * num (b.take k) * 4294967296 ^ i + x * y * 4294967296 ^ j) % 4294967296 ^ 8 = (num o + over * 4294967296 ^ j + x * y * 4294967296 ^ j) % 4294967296 ^ 8 := by
    rw [Nat.add_mod (P + _), ← h, ← Nat.add_mod]
  rw [h0]
  clear h0 h
  congr 1
  have h2 : v / 4294967296 * 4294967296 ^ (j + 1) = (4294967296 * (v / 4294967296)) * 4294967296 ^ j := by
    rw [Nat.pow_succ]
    generalize 4294967296 ^ j = q
    rw [Nat.mul_comm q 4294967296, ← Nat.mul_assoc, Nat.mul_comm _ 4294967296]
  have h3 : v * 4294967296 ^ j = (4294967296 * (v / 4294967296)) * 4294967296 ^ j + v % 4294967296 * 4294967296 ^ j := by rw [← Nat.add_mul, Nat.div_add_mod]
  have h4 : v * 4294967296 ^ j = x * y * 4294967296 ^ j + z * 4294967296 ^ j + over * 4294967296 ^ j := by rw [hv, Nat.add_mul, Nat.add_mul]
  rw [h2]
  omega
theorem mul_row (o a b : List Nat) (ho : Parts o) (hb : Parts b) (i x k over : Nat) (hik : i + k = 8) (hx : a[i]? = some x)
    (h : (num o + over * 4294967296 ^ (i + k)) % 4294967296 ^ 8 = (num (a.take i) * num b % 4294967296 ^ 8 + x * num (b.take k) * 4294967296 ^ i) % 4294967296 ^ 8) :
    num o = num (a.take (i + 1)) * num b % 4294967296 ^ 8 := by
  have h1 := ho.lt
  have h2 : (num o + over * 4294967296 ^ (i + k)) % 4294967296 ^ 8 = num o := by
    rw [hik, Nat.add_mul_mod_self_right, Nat.mod_eq_of_lt h1]
  have h3 := num_cut b k (by rw [hb.len]; omega)
  rw [← h2, h, num_take a i x hx, Nat.add_mul, Nat.mod_add_mod]
  have e : x * 4294967296 ^ i * num b = x * num (b.take k) * 4294967296 ^ i + (x * num (b.drop k)) * 4294967296 ^ 8 := by
    rw [h3, ← hik, Nat.pow_add, Nat.mul_add]
    congr 1
    · rw [Nat.mul_right_comm]
    · ac_rfl
  rw [e, ← Nat.add_assoc, Nat.add_mul_mod_self_right]
/-- Which of two is greater: the highest part in which they are unlike says. -/
theorem num_above (a b : List Nat) (ha : Parts a) (hb : Parts b) (i x y : Nat) (hx : a[i]? = some x) (hy : b[i]? = some y) (hd : a.drop (i + 1) = b.drop (i + 1)) (hn : x ≠ y) : decide (num a > num b) = decide (x > y) := by
  have hi := (List.getElem?_eq_some_iff.1 hx).1
  have hi2 := (List.getElem?_eq_some_iff.1 hy).1
  rw [num_cut a (i + 1) hi, num_cut b (i + 1) hi2, hd, num_take a i x hx, num_take b i y hy]
  have h1 : num (a.take i) < 4294967296 ^ i := by
    have := num_lt (a.take i) (fun z hz => ha.small z (List.mem_of_mem_take hz)); rwa [List.length_take, Nat.min_eq_left (by omega)] at this
  have h2 : num (b.take i) < 4294967296 ^ i := by
    have := num_lt (b.take i) (fun z hz => hb.small z (List.mem_of_mem_take hz)); rwa [List.length_take, Nat.min_eq_left (by omega)] at this
  generalize num (a.take i) = u at *
  generalize num (b.take i) = v at *
  generalize 4294967296 ^ (i + 1) * num (b.drop (i + 1)) = r at *
  generalize 4294967296 ^ i = q at *
  rw [decide_eq_decide]
  rcases Nat.lt_or_gt_of_ne hn with h | h
  · have h3 : (x + 1) * q ≤ y * q := Nat.mul_le_mul_right q h
    rw [Nat.add_mul] at h3
    constructor
    · intro; omega
    · intro; omega
  · have h3 : (y + 1) * q ≤ x * q := Nat.mul_le_mul_right q h
    rw [Nat.add_mul] at h3
    constructor
    · intro; omega
    · intro; omega
/-- The root, by halving. -/
def rootN (n p : Nat) : Nat → Nat → Nat → Nat
  | 0, low, _ => low
  | f + 1, low, high => if high - low > 1 then (if ((low + high) / 2) ^ p > n * 4294967296 ^ p then rootN n p f low ((low + high) / 2) else rootN n p f ((low + high) / 2) high) else low
/-- Is it a prime (below 324)? -/
def okTo (n d : Nat) : Bool := (List.range d).all fun e => e < 2 || e * e > n || n % e != 0
def primesL : List Nat := [2, 3, 5, 7, 11, 13, 17, 19, 23, 29, 31, 37, 41, 43, 47, 53, 59, 61, 67, 71, 73, 79, 83, 89, 97, 101, 103, 107, 109, 113, 127, 131, 137, 139, 149, 151, 157, 163, 167, 173, 179, 181, 191, 193, 197, 199, 211, 223, 227, 229, 233, 239, 241, 251, 257, 263, 269, 271, 277, 281, 283, 293, 307, 311]
def primeOf (i : Nat) : Nat := primesL.getD i 0
def lastPrime : Nat → Nat
  | 0 => 1
  | i + 1 => primeOf i
def nextOk (m p : Nat) : Bool := m < p && p ≤ 311 && okTo p 18 && (List.range p).all fun q => q ≤ m || !okTo q 18
def root32 (n p : Nat) : Nat := rootN n p 38 0 274877906944 % 4294967296
theorem primes_ok : ((List.range 64).all fun i => nextOk (lastPrime i) (primeOf i)) = true := by decide +kernel
theorem start_ok : ((List.range 8).all fun i => root32 (primeOf i) 2 == startW.getD i 0) = true := by decide +kernel
theorem round_ok : ((List.range 64).all fun i => root32 (primeOf i) 3 == roundW.getD i 0) = true := by decide +kernel
theorem okTo_succ (n d : Nat) : okTo n (d + 1) = (okTo n d && (d < 2 || d * d > n || n % d != 0)) := by
  unfold okTo
  rw [List.range_succ, List.all_append]
  simp
theorem okTo_more (n d e : Nat) (h : n < d * d) (hde : d ≤ e) : okTo n e = okTo n d := by
  induction e with
  | zero => rw [show d = 0 by omega]
  | succ e ih =>
    rcases Nat.lt_or_ge e d with h1 | h1
    · rw [show d = e + 1 by omega]
    · rw [okTo_succ, ih h1]
      have : d * d ≤ e * e := Nat.mul_le_mul h1 h1
      have h2 : decide (e * e > n) = true := by simp; omega
      rw [h2]; simp
end Go.Proofs.YtdllppaichlnaaaDoor
namespace Go.Proofs.YtdllppaichlnaaaDoor
open Go.RowKit

set_option maxRecDepth 20000 in
set_option maxHeartbeats 3200000 in
theorem absorbed_any (s : Sta) (hs : s.ok) (A : Option Addr) (c : Nat) (l : List UInt8) (w : World) (hr : Rd w A l) (hlc : l.length ≤ c) (hl : l.length ≤ 140737488355328) (ht : Tab w) :
    Calls Tryd.prog 43 #[.agg (us s.list).toArray, .slice A l.length c] w (Ret w (Is (.agg (us (absorb s l).list).toArray))) := by
  go_enter Tryd.func43, Tryd.ntmps43
  go_wp2
  go_loopw [9] (fun i wr => ∃ k : Nat, k ≤ l.length / 64 ∧ i = .int .i64 k ∧ Wds wr w.heap.size 32 (absS s l k).list ∧ Wds wr (w.heap.size + 1) 32 (List.replicate 8 0) ∧ Ext w wr) (fun i _ => l.length / 64 - (intOf i).toNat)
  case atStart => exact ⟨0, Nat.zero_le _, rfl, heap_alloc2_old w _ _, heap_alloc2_new w _ _, (Ext.alloc w _).trans (Ext.alloc _ _)⟩
  case round =>
    obtain ⟨k, hk, rfl, hh, hz, hx0⟩ := hrel
    by_cases hlt : k < l.length / 64
    · have hlt2 : (k : Int) < (l.length : Int) / 64 := by omega
      have hkl : 64 * k + 64 ≤ l.length := by omega
      obtain ⟨b, off, rfl, hc⟩ := hr (by intro e; subst e; simp at hkl)
      have hok := absS_ok hs l k
      have HN := hide (show absS s l (k + 1) = mixedS (absS s l k) ((l.drop (64 * k)).take 64) from rfl)
      obtain ⟨st, HST⟩ : ∃ st, Hid (absS s l k = st) := ⟨_, rfl⟩
      rw [HST.out] at hh hok HN
      obtain ⟨nx, HNX⟩ : ∃ nx, Hid (mixedS st ((l.drop (64 * k)).take 64) = nx) := ⟨_, rfl⟩
      rw [HNX.out] at HN
      have HH := hide hh
      have HZ := hide hz
      have KM := hide fun W (h : Ext wr W) => (show Calls Tryd.prog 42 #[.agg (us st.list).toArray, .slice (some ⟨b, off + 64 * k, none⟩) 64 (c - 64 * k)] W (Ret W (Is (.agg (us nx.list).toArray)))
        from HNX.out ▸ mixed_any st hok (some ⟨b, off + 64 * k, none⟩) (c - 64 * k) ((l.drop (64 * k)).take 64) (by simp; omega) W (by
          have h1 := ((hr.ext (hx0.trans h)).drop (64 * k)).take 64
          rw [add_flat] at h1
          exact h1) (by omega) (ht.ext (hx0.trans h)))
      clear hc hh hz hok
      go_wp2
      refine wp_region_last (Nat.le_refl _) [
          Sp.is (.agg (us st.list).toArray),
          Sp.is (.slice (some ⟨b, off, none⟩) l.length c),
          Sp.is (.int .i64 (k : Int)),
          Sp.is (.int .i64 ((k : Int) * 64)),
          Sp.is (.int .i64 (k : Int)),
          Sp.is (.int .i64 ((k : Int) + 1)),
          Sp.is (.int .i64 (((k : Int) + 1) * 64)),
          Sp.is (.slice (some ⟨b, off + 64 * k, none⟩) 64 (c - 64 * k)),
          Sp.is (.agg (us nx.list).toArray)] 9 _ rfl (by kernel_rfl) (by kernel_rfl) (by kernel_rfl) ?_ ?_
      · refine ⟨.inr ?_, .inr ?_, .inr ?_, .inr ?_, .inr ?_, .inr ?_, .inr ?_, .inr ?_, .inr ?_, .inl rfl, trivial⟩
        · intro az wz hx hB hk H
          refine .inl ⟨wanted_none rfl, ?_⟩
          exact gives_load_rw 32 (.tmp 2) rfl w.heap.size (by rw [(ev (show az.tmps[2]? = some (.pointer (some ⟨w.heap.size, 0, none⟩)) from hk 2 rfl))]) 32 (us st.list) (Rw.below HH.out hx.below (Rw.lt HH.out)) 8 31 Tryd.underlying32 (by kernel_rfl) (by rw [us_length, list_length]) ⟨Grw.refl _ _, rfl⟩
        · intro az wz hx hB hk H
          refine .inl ⟨wanted_none rfl, ?_⟩
          refine gives_move rfl ?_
          rw [(ev (show az.tmps[1]? = some (.slice (some ⟨b, off, none⟩) l.length c) from hk 1 rfl))]
          exact ⟨Grw.refl _ _, rfl⟩
        · intro az wz hx hB hk H
          refine .inl ⟨wanted_none rfl, ?_⟩
          refine gives_move rfl ?_
          rw [(ev (show az.tmps[5]? = some (.int .i64 (k : Int)) from hk 5 rfl))]
          exact ⟨Grw.refl _ _, rfl⟩
        · intro az wz hx hB hk H
          obtain ⟨v14, h14, s14⟩ := H 2 rfl _ rfl 14 rfl
          refine .inl ⟨wanted_none rfl, ?_⟩
          exact gives_mul_i64 (k : Int) 64 rfl (by rw [ev h14]; exact s14) rfl (by omega) ⟨Grw.refl _ _, rfl⟩
        · intro az wz hx hB hk H
          refine .inl ⟨wanted_none rfl, ?_⟩
          refine gives_move rfl ?_
          rw [(ev (show az.tmps[5]? = some (.int .i64 (k : Int)) from hk 5 rfl))]
          exact ⟨Grw.refl _ _, rfl⟩
        · intro az wz hx hB hk H
          obtain ⟨v16, h16, s16⟩ := H 4 rfl _ rfl 16 rfl
          refine .inl ⟨wanted_none rfl, ?_⟩
          exact gives_add_i64 (k : Int) 1 rfl (by rw [ev h16]; exact s16) rfl (by omega) ⟨Grw.refl _ _, rfl⟩
        · intro az wz hx hB hk H
          obtain ⟨v17, h17, s17⟩ := H 5 rfl _ rfl 17 rfl
          refine .inl ⟨wanted_none rfl, ?_⟩
          exact gives_mul_i64 ((k : Int) + 1) 64 rfl (by rw [ev h17]; exact s17) rfl (by omega) ⟨Grw.refl _ _, rfl⟩
        · intro az wz hx hB hk H
          obtain ⟨v13, h13, s13⟩ := H 1 rfl _ rfl 13 rfl
          obtain ⟨v15, h15, s15⟩ := H 3 rfl _ rfl 15 rfl
          obtain ⟨v18, h18, s18⟩ := H 6 rfl _ rfl 18 rfl
          refine .inl ⟨wanted_none rfl, ?_⟩
          exact gives_sub (i := 64 * k) (j := 64 * k + 64) rfl Tryd.underlying37 (by kernel_rfl) (by rw [ev h13]; exact s13) (by rw [ev h15, s15]; congr 1; omega) (by rw [ev h18, s18]; congr 1; omega) (by omega) (by omega) (by omega) ⟨Grw.refl _ _, by show _ = _; congr 1; omega⟩
        · intro az wz hx hB hk H
          obtain ⟨v12, h12, s12⟩ := H 0 rfl _ rfl 12 rfl
          obtain ⟨v19, h19, s19⟩ := H 7 rfl _ rfl 19 rfl
          refine .inl ⟨wanted_none rfl, ?_⟩
          refine gives_call rfl Tryd.call42 (by simp only [List.map_toArray, List.map_cons, List.map_nil, ev h12, ev h19]; rw [s12, s19]) ?_
          exact (KM.out wz (Below.mono hx.below (Nat.le_refl _))).mono fun _ _ h => h.grw hB
      · intro az wz hx hd hs hv hsame
        obtain ⟨v12, h12, s12⟩ := hv 0 _ 12 (by decide) rfl rfl
        obtain rfl : v12 = (.agg (us st.list).toArray) := s12
        obtain ⟨v13, h13, s13⟩ := hv 1 _ 13 (by decide) rfl rfl
        obtain rfl : v13 = (.slice (some ⟨b, off, none⟩) l.length c) := s13
        obtain ⟨v14, h14, s14⟩ := hv 2 _ 14 (by decide) rfl rfl
        obtain rfl : v14 = (.int .i64 (k : Int)) := s14
        obtain ⟨v15, h15, s15⟩ := hv 3 _ 15 (by decide) rfl rfl
        obtain rfl : v15 = (.int .i64 ((k : Int) * 64)) := s15
        obtain ⟨v16, h16, s16⟩ := hv 4 _ 16 (by decide) rfl rfl
        obtain rfl : v16 = (.int .i64 (k : Int)) := s16
        obtain ⟨v17, h17, s17⟩ := hv 5 _ 17 (by decide) rfl rfl
        obtain rfl : v17 = (.int .i64 ((k : Int) + 1)) := s17
        obtain ⟨v18, h18, s18⟩ := hv 6 _ 18 (by decide) rfl rfl
        obtain rfl : v18 = (.int .i64 (((k : Int) + 1) * 64)) := s18
        obtain ⟨v19, h19, s19⟩ := hv 7 _ 19 (by decide) rfl rfl
        obtain rfl : v19 = (.slice (some ⟨b, off + 64 * k, none⟩) 64 (c - 64 * k)) := s19
        obtain ⟨v20, h20, s20⟩ := hv 8 _ 20 (by decide) rfl rfl
        obtain rfl : v20 = (.agg (us nx.list).toArray) := s20
        have hfr := frame_last [(12, (.agg (us st.list).toArray)), (13, (.slice (some ⟨b, off, none⟩) l.length c)), (14, (.int .i64 (k : Int))), (15, (.int .i64 ((k : Int) * 64))), (16, (.int .i64 (k : Int))), (17, (.int .i64 ((k : Int) + 1))), (18, (.int .i64 (((k : Int) + 1) * 64))), (19, (.slice (some ⟨b, off + 64 * k, none⟩) 64 (c - 64 * k))), (20, (.agg (us nx.list).toArray))] hs (by kernel_rfl) (by simp only [List.forall_mem_cons, List.not_mem_nil, false_implies, implies_true, and_true]; exact ⟨h12, h13, h14, h15, h16, h17, h18, h19, h20⟩) hsame
        simp only [List.foldl_cons, List.foldl_nil, List.setIfInBounds_toArray, List.set_cons_succ, List.set_cons_zero] at hfr
        obtain ⟨tm, df⟩ := az
        simp only [] at hfr hd
        subst hfr hd
        clear hv hsame hs h12 h13 h14 h15 h16 h17 h18 h19 h20
        refine ⟨wanted_none rfl, ?_⟩
        refine gives_store_rw 32 (.tmp 2) (.tmp 20) rfl w.heap.size rfl (us nx.list) rfl 32 (us st.list) (Rw.below HH.out hx.below (Rw.lt HH.out)) 8 (by kernel_rfl) (by rw [us_length, list_length]) (by rw [us_length, us_length, list_length, list_length]) (us_one _) ?_
        intro w5 hr5 hl5
        have hz5 : Wds w5 (w.heap.size + 1) 32 (List.replicate 8 0) := Wds.other (Rw.below HZ.out hx.below (Rw.lt HZ.out)) hl5 (by omega)
        have hx5 : Ext w w5 := Ext.laid (Below.trans hx0 (Below.mono hx.below hx0.size)) hl5 (Nat.le_refl _)
        clear hx KM HH HZ hl5
        go_wp2
        refine ⟨⟨k + 1, by omega, by go_num, ?_, hz5, hx5⟩, by simp [intOf]; omega⟩
        rw [HN.out]
        exact hr5
    · have hge : ¬ (k : Int) < (l.length : Int) / 64 := by omega
      have HH : Hid (Wds wr w.heap.size 32 (absorb s l).list) := by
        have e : k = l.length / 64 := by omega
        rw [e] at hh
        exact hh
      obtain ⟨nx, HNX⟩ : ∃ nx, Hid (absorb s l = nx) := ⟨_, rfl⟩
      rw [HNX.out] at HH
      have HZ := hide hz
      clear hh hz hk hlt
      go_wp2_with (first
        | ((with_reducible show wpList _ _ _ (⟨some 22, .load _ _, _, _, _, _⟩ :: _) _ _);
           refine wpList_load_rw rfl 32 (.tmp 2) rfl _ rfl 32 (us nx.list) HH.out 8 31 Tryd.underlying32 (by kernel_rfl) (by rw [us_length, list_length]) ?_)
        | ((with_reducible show wpList _ _ _ (⟨none, .store _ (.tmp 4) _, _, _, _, _⟩ :: _) _ _);
           refine wpList_store_rw rfl 32 (.tmp 4) (.tmp 22) rfl _ rfl (us nx.list) rfl 32 (us (List.replicate 8 0)) HZ.out 8 (by kernel_rfl) (by rw [us_length, list_length]) (by rw [us_length, us_length, list_length]; rfl) (us_one _) ?_;
           intro w5 hr5 hl5))
      exact ret_rw rfl rfl _ rfl _ _ hr5 8 31 Tryd.underlying32 (by kernel_rfl) (by rw [us_length, list_length]) (Ret.mk (hx0.laid hl5 (by omega)) (show Value.agg (us nx.list).toArray = Value.agg (us (absorb s l).list).toArray by rw [HNX.out]))
end Go.Proofs.YtdllppaichlnaaaDoor
namespace Go.Proofs.YtdllppaichlnaaaDoor
open Go.RowKit

theorem be8_get (n k : Nat) (h : k < 8) : (be8 n).drop (7 - k) = b8n (n / 2 ^ (8 * k)) :: (be8 n).drop (8 - k) := by
  rcases k with _ | _ | _ | _ | _ | _ | _ | _ | k
  case succ.succ.succ.succ.succ.succ.succ.succ => omega
  all_goals simp [be8]
theorem b8n_b8 (n : Nat) {v : Int} (h : v = ((n % 256 : Nat) : Int)) : b8 v = b8n n := by
  subst h
  unfold b8 b8n
  rw [Int.toNat_natCast]
  apply UInt8.toNat_inj.1
  simp
theorem set_back (P T : List UInt8) (m i : Nat) (v : UInt8) (hi : i = P.length + m) : (P ++ (List.replicate (m + 1) 0 ++ T)).set i v = P ++ (List.replicate m 0 ++ v :: T) := by
  subst hi
  rw [List.set_append_right _ _ (by omega), Nat.add_sub_cancel_left, List.set_append_left _ _ (by simp)]
  have : (List.replicate (m + 1) (0 : UInt8)).set m v = List.replicate m 0 ++ [v] := by
    rw [List.replicate_succ', List.set_append_right _ _ (by simp)]
    simp
  rw [this]
  simp

theorem back_step {w : World} {g : Nat} {P : List UInt8} {N k i : Nat} {v : Int} (hb : Blk w g (P ++ (List.replicate (8 - k) 0 ++ (be8 N).drop (8 - k)))) (hk : k < 8) (hi : i = P.length + (7 - k)) (hv : v = ((N / 2 ^ (8 * k) % 256 : Nat) : Int)) :
    Blk (w.setCell ⟨g, i, none⟩ (.int .u8 v)) g (P ++ (List.replicate (8 - (k + 1)) 0 ++ (be8 N).drop (8 - (k + 1)))) := by
  have h := hb.set i v (by omega) (by omega)
  rw [show 8 - k = (7 - k) + 1 by omega, set_back _ _ _ _ _ hi] at h
  rw [show 8 - (k + 1) = 7 - k by omega, be8_get N k hk, ← b8n_b8 _ hv, show 8 - k = (7 - k) + 1 by omega]
  exact h
theorem wrap_total (total N k : Nat) (e0 : 8 * (total : Int) % 18446744073709551616 = (N : Int)) : IntKind.u64.wrap (8 * (total : Int)) / 2 ^ (8 * k) % 256 = ((N / 2 ^ (8 * k) % 256 : Nat) : Int) := by
  rw [IntKind.wrap_u64, e0]
  have h1 : (N : Int) / 2 ^ (8 * k) = ((N / 2 ^ (8 * k) : Nat) : Int) := by rw [Int.natCast_ediv, Int.natCast_pow]; rfl
  rw [h1]
  generalize N / 2 ^ (8 * k) = y
  omega

set_option maxRecDepth 20000 in
set_option maxHeartbeats 3200000 in
theorem ending_size (A : Option Addr) (c : Nat) (r : List UInt8) (total size : Nat) (w : World) (hr : Rd w A r) (hrl : r.length < 64)
    (hs : (size = 64 ∧ r.length + 9 ≤ 64) ∨ (size = 128 ∧ 64 < r.length + 9)) :
    Calls Tryd.prog 44 #[.slice A r.length c, .int .u64 (total : Int)] w (Ret w (Bytes (endingS r total))) := by
  obtain ⟨N, HN, e0⟩ : ∃ N : Nat, Hid (8 * total % 18446744073709551616 = N) ∧ 8 * (total : Int) % 18446744073709551616 = (N : Int) := ⟨_, rfl, by omega⟩
  obtain ⟨P, HP⟩ : ∃ P : List UInt8, Hid (r ++ [128] ++ List.replicate (padLen r.length) 0 = P) := ⟨r ++ [128] ++ List.replicate (padLen r.length) 0, rfl⟩
  have hpl : P.length = size - 8 := by rw [← HP.out]; simp [padLen]; omega
  have HE : Hid (endingS r total = P ++ be8 N) := by show endingS r total = _; unfold endingS; rw [HN.out, HP.out]
  have hmk := hide fun W => run_make_bytes size (by omega) W
  have hrs : r.length < size := by omega
  have H0 : Hid ((over (List.replicate size 0) 0 (r.take size)).set r.length 128 = P ++ (List.replicate 8 0 ++ [])) := by
    show _ = _
    rw [← HP.out, List.take_of_length_le (by omega)]
    unfold over
    simp only [List.take_zero, List.nil_append, List.drop_replicate, Nat.zero_add]
    rw [List.set_append_right _ _ (Nat.le_refl _), Nat.sub_self]
    obtain ⟨m, hm⟩ : ∃ m, size - r.length = m + 1 := ⟨size - r.length - 1, by omega⟩
    have hpd : m = padLen r.length + 8 := by unfold padLen; omega
    rw [hm, List.replicate_succ, List.set_cons_zero, hpd, ← List.replicate_append_replicate]
    simp
  have hsz : 0 ≤ (size : Int) := by omega
  rcases hs with ⟨rfl, h9⟩ | ⟨rfl, h9⟩
  · have h9i : ¬ (64 : Int) < (r.length : Int) + 9 := by omega
    have hmk2 : ∀ W, (Instr.makeSlice 37 (.int .i64 64) (.int .i64 64)).run Tryd.prog W = .ok (.slice (some ⟨W.heap.size, 0, none⟩) 64 64) (W.alloc (.cells (madeCells #[.int .u8 0] 64) 5)) := hmk.out
    go_enter Tryd.func44, Tryd.ntmps44
    go_wp2_with (refine wpList_copy rfl (.tmp 14) (.tmp 15) rfl w.heap.size 0 64 64 A r.length c rfl rfl (List.replicate 64 0) r rfl (Blk.made w 64) (hr.ext (Ext.alloc w _)) (by rw [List.length_replicate]; omega) w.heap.size (Nat.le_refl _) ?_; intro w1 hg1 hb1; obtain ⟨y, hy⟩ : ∃ y, (over (List.replicate 64 0) 0 (r.take 64))[r.length]? = some y := ⟨_, List.getElem?_eq_getElem (by rw [over_length _ _ _ (by rw [List.length_replicate, List.length_take]; omega), List.length_replicate]; exact hrs)⟩; have hcx := hg1.cell hy; have hfx := hg1.frozen r.length; have HG := hide hg1; clear hg1 hy)
    have hx1 : Ext w w1 := Below.trans (Ext.alloc w _) hb1
    have HB : Hid (Blk (w1.setCell ⟨w.heap.size, r.length, none⟩ (.int .u8 128)) w.heap.size (P ++ (List.replicate 8 0 ++ (be8 N).drop 8))) := by
      have := HG.out.set r.length 128 (by decide) (by decide)
      rw [show b8 128 = (128 : UInt8) from rfl, H0.out] at this
      exact this
    clear hcx hfx HG hb1 hmk hmk2 H0
    go_loopw [21] (fun i wr => ∃ k : Nat, k ≤ 8 ∧ i = .int .i64 k ∧ Blk wr w.heap.size (P ++ (List.replicate (8 - k) 0 ++ (be8 N).drop (8 - k))) ∧ Ext w wr) (fun i _ => 8 - (intOf i).toNat)
    case atStart => exact ⟨0, Nat.zero_le _, rfl, HB.out, Below.set hx1 (Nat.le_refl _) _⟩
    clear HB hx1
    case round =>
      obtain ⟨k, hk, rfl, hb, hx⟩ := hrel
      by_cases hlt : k < 8
      · obtain ⟨y, hy⟩ : ∃ y, (P ++ (List.replicate (8 - k) 0 ++ (be8 N).drop (8 - k)))[64 - 1 - k]? = some y := ⟨_, List.getElem?_eq_getElem (by simp [be8]; omega)⟩
        have hcx := hb.cell hy
        have hfx := hb.frozen (64 - 1 - k)
        have hki : (k : Int) < 8 := by omega
        clear hy
        go_wp2
        exact ⟨⟨k + 1, by omega, by go_num, back_step hb hlt (by omega) (wrap_total total N k e0), Below.set hx (Nat.le_refl _) _⟩, by simp [intOf]; omega⟩
      · have hge : ¬ (k : Int) < 8 := by omega
        have HB : Hid (Blk wr w.heap.size (P ++ be8 N)) := by
          have e : k = 8 := by omega
          rw [e] at hb
          exact hb
        clear hb hk hlt
        go_wp2
        go_ret
        refine Ret.mk hx ?_
        rw [HE.out]
        exact HB.out.bytes (by simp [be8]; omega) (Nat.le_refl _)
  · have h9i : (64 : Int) < (r.length : Int) + 9 := by omega
    have hmk2 : ∀ W, (Instr.makeSlice 37 (.int .i64 128) (.int .i64 128)).run Tryd.prog W = .ok (.slice (some ⟨W.heap.size, 0, none⟩) 128 128) (W.alloc (.cells (madeCells #[.int .u8 0] 128) 5)) := hmk.out
    go_enter Tryd.func44, Tryd.ntmps44
    go_wp2_with (refine wpList_copy rfl (.tmp 14) (.tmp 15) rfl w.heap.size 0 128 128 A r.length c rfl rfl (List.replicate 128 0) r rfl (Blk.made w 128) (hr.ext (Ext.alloc w _)) (by rw [List.length_replicate]; omega) w.heap.size (Nat.le_refl _) ?_; intro w1 hg1 hb1; obtain ⟨y, hy⟩ : ∃ y, (over (List.replicate 128 0) 0 (r.take 128))[r.length]? = some y := ⟨_, List.getElem?_eq_getElem (by rw [over_length _ _ _ (by rw [List.length_replicate, List.length_take]; omega), List.length_replicate]; exact hrs)⟩; have hcx := hg1.cell hy; have hfx := hg1.frozen r.length; have HG := hide hg1; clear hg1 hy)
    have hx1 : Ext w w1 := Below.trans (Ext.alloc w _) hb1
    have HB : Hid (Blk (w1.setCell ⟨w.heap.size, r.length, none⟩ (.int .u8 128)) w.heap.size (P ++ (List.replicate 8 0 ++ (be8 N).drop 8))) := by
      have := HG.out.set r.length 128 (by decide) (by decide)
      rw [show b8 128 = (128 : UInt8) from rfl, H0.out] at this
      exact this
    clear hcx hfx HG hb1 hmk hmk2 H0
    go_loopw [21] (fun i wr => ∃ k : Nat, k ≤ 8 ∧ i = .int .i64 k ∧ Blk wr w.heap.size (P ++ (List.replicate (8 - k) 0 ++ (be8 N).drop (8 - k))) ∧ Ext w wr) (fun i _ => 8 - (intOf i).toNat)
    case atStart => exact ⟨0, Nat.zero_le _, rfl, HB.out, Below.set hx1 (Nat.le_refl _) _⟩
    clear HB hx1
    case round =>
      obtain ⟨k, hk, rfl, hb, hx⟩ := hrel
      by_cases hlt : k < 8
      · obtain ⟨y, hy⟩ : ∃ y, (P ++ (List.replicate (8 - k) 0 ++ (be8 N).drop (8 - k)))[128 - 1 - k]? = some y := ⟨_, List.getElem?_eq_getElem (by simp [be8]; omega)⟩
        have hcx := hb.cell hy
        have hfx := hb.frozen (128 - 1 - k)
        have hki : (k : Int) < 8 := by omega
        clear hy
        go_wp2
        exact ⟨⟨k + 1, by omega, by go_num, back_step hb hlt (by omega) (wrap_total total N k e0), Below.set hx (Nat.le_refl _) _⟩, by simp [intOf]; omega⟩
      · have hge : ¬ (k : Int) < 8 := by omega
        have HB : Hid (Blk wr w.heap.size (P ++ be8 N)) := by
          have e : k = 8 := by omega
          rw [e] at hb
          exact hb
        clear hb hk hlt
        go_wp2
        go_ret
        refine Ret.mk hx ?_
        rw [HE.out]
        exact HB.out.bytes (by simp [be8]; omega) (Nat.le_refl _)
theorem ending_any (A : Option Addr) (c : Nat) (r : List UInt8) (total : Nat) (w : World) (hr : Rd w A r) (hrl : r.length < 64) :
    Calls Tryd.prog 44 #[.slice A r.length c, .int .u64 (total : Int)] w (Ret w (Bytes (endingS r total))) := by
  by_cases h : r.length + 9 ≤ 64
  · exact ending_size A c r total 64 w hr hrl (.inl ⟨rfl, h⟩)
  · exact ending_size A c r total 128 w hr hrl (.inr ⟨rfl, by omega⟩)
end Go.Proofs.YtdllppaichlnaaaDoor
