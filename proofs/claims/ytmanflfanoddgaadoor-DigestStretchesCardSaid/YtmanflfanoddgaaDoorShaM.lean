/-
  One block: mixed's contract.
-/
import Derived.Test.YtmanflfanoddgaaDoorShaS
namespace Go.Proofs.YtmanflfanoddgaaDoor
open Go.RowKit

/-- The tables' cells are in their places. -/
structure Tab (w : World) : Prop where
  k : ∀ i n : Nat, roundW[i]? = some n → w.cell? ⟨4, i, none⟩ = some (.int .u32 (n : Int))
  h : ∀ i n : Nat, startW[i]? = some n → w.cell? ⟨0, i, none⟩ = some (.int .u32 (n : Int))
theorem Tab.keep {w w' : World} (h : Tab w) (hx : Keeps w w') : Tab w' := ⟨fun i n hn => hx.cell (h.k i n hn), fun i n hn => hx.cell (h.h i n hn)⟩
theorem Tab.ext {w w' : World} (h : Tab w) (hx : Ext w w') : Tab w' := h.keep hx.keeps

/-- The state moved on by one place: 'copy(v[1:], v[:7])'. -/
theorem run_move (w : World) (g : Nat) (a b c d e f g' h : Nat) (hv : Wds w g 28 [a, b, c, d, e, f, g', h]) :
    ∃ w', (Builtin.copy_ #[127, 127] 3 #[.slice (some ⟨g, 1, none⟩) 7 7, .slice (some ⟨g, 0, none⟩) 7 8]).run Tryd.prog w = .ok (goInt 7) w' ∧ Wds w' g 28 [a, a, b, c, d, e, f, g'] ∧ Laid1 g w w' := by
  have h1 := run_copy_row (P := Tryd.prog) w 127 127 3 27 g 1 7 7 ⟨g, 0, none⟩ 7 8 (us [a, b, c, d, e, f, g', h]).toArray 28 (us [a, b, c, d, e, f, g'])
    Tryd.underlying127 (by kernel_rfl) hv rfl
    (fun j v hj => by
      rw [add_flat, Nat.zero_add]
      refine Rw.cell hv ?_
      have hlt : j < 7 := (List.getElem?_eq_some_iff.1 hj).1
      rw [← hj]
      have e : us [a, b, c, d, e, f, g', h] = us [a, b, c, d, e, f, g'] ++ us [h] := rfl
      rw [e, List.getElem?_append_left hlt])
    (by simp [us]) (fun v hv => (List.all_eq_true.1 (us_one _)) v hv)
  refine ⟨_, h1, ?_, Laid1.of_row w g _⟩
  exact setRow_heap w g _ _ _ _ hv

theorem plus_get (s v : Sta) (k x y : Nat) (hx : s.list[k]? = some x) (hy : v.list[k]? = some y) : (s.plus v).list[k]? = some ((x + y) % 4294967296) := by
  rcases k with _ | _ | _ | _ | _ | _ | _ | _ | k
  case succ.succ.succ.succ.succ.succ.succ.succ => simp [Sta.list] at hx
  all_goals
    simp only [Sta.list, List.getElem?_cons_zero, List.getElem?_cons_succ, Option.some.injEq] at hx hy
    subst hx hy
    rfl
theorem set_take (P S : List Nat) (k z : Nat) (hP : P[k]? = some z) (hS : k < S.length) : (P.take k ++ S.drop k).set k z = P.take (k + 1) ++ S.drop (k + 1) := by
  have hk : k < P.length := (List.getElem?_eq_some_iff.1 hP).1
  have hlen : (P.take k).length = k := by simp; omega
  rw [List.set_append_right _ _ (by omega), hlen, Nat.sub_self, List.drop_eq_getElem_cons hS, List.set_cons_zero, List.take_add_one, hP]
  simp
theorem get_take (P S : List Nat) (k : Nat) (hP : k < P.length) : (P.take k ++ S.drop k)[k]? = S[k]? := by
  have hlen : (P.take k).length = k := by simp; omega
  rw [List.getElem?_append_right (by omega), hlen, Nat.sub_self, List.getElem?_drop]
  rfl

set_option maxRecDepth 20000 in
set_option maxHeartbeats 3200000 in
theorem mixed_any (s : Sta) (hs : s.ok) (A : Option Addr) (c : Nat) (l : List UInt8) (hl : l.length = 64) (w : World) (hr : Rd w A l) (hc : 64 ≤ c) (ht : Tab w) :
    Calls Tryd.prog 101 #[.agg (us s.list).toArray, .slice A 64 c] w (Ret w (Is (.agg (us (mixedS s l).list).toArray))) := by
  have K1 := hide fun W (h : Ext w W) => schedule_any A c l hl W (hr.ext h) hc
  go_enter Tryd.func101, Tryd.ntmps101
  go_wp2_with (first
    | (go_at_call 109; refine (K1.out _ ((Ext.alloc w _).trans (Ext.alloc _ _))).mono ?_; rintro e w1 ⟨v1, rfl, hw1, rfl⟩;
       have hx1 : Ext w w1 := ((Ext.alloc w _).trans (Ext.alloc _ _)).trans hw1;
       have HH1 : Hid (Wds w1 w.heap.size 28 s.list) := Wds.ext (show Wds _ _ _ _ from heap_alloc2_old w _ _) hw1;
       have HZ1 : Hid (Wds w1 (w.heap.size + 1) 28 (List.replicate 8 0)) := Wds.ext (show Wds _ _ _ _ from heap_alloc2_new w _ _) hw1;
       have hs1 : w.heap.size + 2 ≤ w1.heap.size := by have := hw1.size; simpa using this)
    | ((with_reducible show wpList _ _ _ (⟨none, .store _ (.tmp 5) _, _, _, _, _⟩ :: _) _ _);
       refine wpList_store_rw rfl 29 (.tmp 5) (.tmp 12) rfl _ rfl (us (sched l)) rfl 29 (us (List.replicate 64 0)) (heap_alloc_new w1 _) 64 (by kernel_rfl) (by rw [us_length, sched_length]) (by rw [us_length, us_length, sched_length]; rfl) (us_one _) ?_;
       intro w2 hr2 hl2;
       have HW2 : Hid (Wds w2 w1.heap.size 29 (sched l)) := hr2;
       have hx2 : Ext w w2 := (hx1.trans (Ext.alloc _ _)).laid hl2 (by omega);
       have hs2 : w1.heap.size + 1 ≤ w2.heap.size := by have := hl2.below.size; simpa using this;
       have HH2 : Hid (Wds w2 w.heap.size 28 s.list) := Wds.other (Wds.ext HH1.out (Ext.alloc _ _)) hl2 (by omega);
       have HZ2 : Hid (Wds w2 (w.heap.size + 1) 28 (List.replicate 8 0)) := Wds.other (Wds.ext HZ1.out (Ext.alloc _ _)) hl2 (by omega))
    | ((with_reducible show wpList _ _ _ (⟨some 13, .load _ _, _, _, _, _⟩ :: _) _ _);
       refine wpList_load_rw rfl 28 (.tmp 2) rfl _ rfl 28 (us s.list) HH2.out 8 27 Tryd.underlying28 (by kernel_rfl) rfl ?_)
    | ((with_reducible show wpList _ _ _ (⟨none, .store _ (.tmp 6) _, _, _, _, _⟩ :: _) _ _);
       refine wpList_store_rw rfl 28 (.tmp 6) (.tmp 13) rfl _ rfl (us s.list) rfl 28 (us (List.replicate 8 0)) (heap_alloc_new w2 _) 8 (by kernel_rfl) rfl rfl (us_one _) ?_;
       intro w3 hr3 hl3;
       have HV3 : Hid (Wds w3 w2.heap.size 28 s.list) := hr3;
       have hx3 : Ext w w3 := (hx2.trans (Ext.alloc _ _)).laid hl3 (by omega);
       have HH3 : Hid (Wds w3 w.heap.size 28 s.list) := Wds.other (Wds.ext HH2.out (Ext.alloc _ _)) hl3 (by omega);
       have HZ3 : Hid (Wds w3 (w.heap.size + 1) 28 (List.replicate 8 0)) := Wds.other (Wds.ext HZ2.out (Ext.alloc _ _)) hl3 (by omega);
       have HW3 : Hid (Wds w3 w1.heap.size 29 (sched l)) := Wds.other (Wds.ext HW2.out (Ext.alloc _ _)) hl3 (by omega)))
  generalize hgv : w2.heap.size = gv at *
  generalize hgw : w1.heap.size = gw at *
  obtain ⟨gh, hgh⟩ : ∃ x, x = w.heap.size := ⟨_, rfl⟩
  rw [← hgh] at HH3 HZ3 hs1 ⊢
  have hgle : w.heap.size ≤ gh := by omega
  clear hgh
  clear HH1 HH2 HZ1 HZ2 HW2 hr2 hl2 hr3 hl3 hx1 hx2 hw1 hgv hgw K1
  go_loopw [14] (fun i wr => ∃ k : Nat, k ≤ 64 ∧ i = .int .i64 k ∧ Wds wr gv 28 (s.rounds (sched l) k).list ∧ Wds wr gw 29 (sched l) ∧ Wds wr gh 28 s.list ∧ Wds wr (gh + 1) 28 (List.replicate 8 0) ∧ Ext w wr) (fun i _ => 64 - (intOf i).toNat)
  case atStart => exact ⟨0, Nat.zero_le _, rfl, HV3.out, HW3.out, HH3.out, HZ3.out, hx3⟩
  clear HV3 HW3 HH3 HZ3 hx3
  case round =>
    obtain ⟨k, hk, rfl, hv, hw, hh, hz, hx⟩ := hrel
    by_cases hlt : k < 64
    · have hok := Sta.rounds_ok hs (sched l) k
      obtain ⟨st, HST⟩ : ∃ st, Hid (s.rounds (sched l) k = st) := ⟨_, rfl⟩
      rw [HST.out] at hv hok
      obtain ⟨a, b, c', d, e, f, g, h⟩ := st
      have oa := hok.a
      have ob := hok.b
      have oc := hok.c
      have od := hok.d
      have oe := hok.e
      have of := hok.f
      have og := hok.g
      have oh := hok.h
      simp only [] at oa ob oc od oe of og oh
      obtain ⟨q, hq⟩ : ∃ q, (sched l)[k]? = some q := ⟨_, List.getElem?_eq_getElem (by rw [sched_length]; exact hlt)⟩
      obtain ⟨r, hrk⟩ : ∃ r, roundW[k]? = some r := ⟨_, List.getElem?_eq_getElem (by simpa [roundW] using hlt)⟩
      have HN := hide (show s.rounds (sched l) (k + 1) = (Sta.mk a b c' d e f g h).next r q by
        rw [Sta.rounds, HST.out, List.getD_eq_getElem?_getD, List.getD_eq_getElem?_getD, hq, hrk]; rfl)
      have cq := hw.cell hq
      have cr := (ht.ext hx).k k r hrk
      have v0 := hv.cell (i := 0) (n := a) rfl
      have v1 := hv.cell (i := 1) (n := b) rfl
      have v2 := hv.cell (i := 2) (n := c') rfl
      have v3 := hv.cell (i := 3) (n := d) rfl
      have v4 := hv.cell (i := 4) (n := e) rfl
      have v5 := hv.cell (i := 5) (n := f) rfl
      have v6 := hv.cell (i := 6) (n := g) rfl
      have v7 := hv.cell (i := 7) (n := h) rfl
      have KT := hide fun W => (show Calls Tryd.prog 110 #[.int .u32 (e : Int), .int .i64 6, .int .i64 11, .int .i64 25] W (Val (.int .u32 (tri 6 11 25 e : Int)) W) from turned_any 6 11 25 (by decide) (by decide) (by decide) e oe W)
      have KU := hide fun W => (show Calls Tryd.prog 110 #[.int .u32 (a : Int), .int .i64 2, .int .i64 13, .int .i64 22] W (Val (.int .u32 (tri 2 13 22 a : Int)) W) from turned_any 2 13 22 (by decide) (by decide) (by decide) a oa W)
      have KC := hide fun W => (show Calls Tryd.prog 111 #[.int .u32 (e : Int), .int .u32 (f : Int), .int .u32 (g : Int)] W (Val (.int .u32 (chf e f g : Int)) W) from choice_any e f g oe of og W)
      have KM := hide fun W => (show Calls Tryd.prog 112 #[.int .u32 (a : Int), .int .u32 (b : Int), .int .u32 (c' : Int)] W (Val (.int .u32 (maj a b c' : Int)) W) from maj_any a b c' oa ob oc W)
      clear hq hrk hok
      go_wp2
      go_quiet (first
        | (go_at_call 110; exact Calls.quiet_of_same (KT.out _))
        | (go_at_call 111; exact Calls.quiet_of_same (KC.out _)))
      obtain ⟨t, HT, ht32⟩ : ∃ t : Nat, Hid ((Sta.mk a b c' d e f g h).t1 r q = t) ∧ t < 4294967296 := ⟨_, rfl, Nat.mod_lt _ (by decide)⟩
      have et : (((h : Int) + (tri 6 11 25 e : Int) + (chf e f g : Int) + (r : Int)) % 4294967296 + (q : Int)) % 4294967296 = (t : Int) := by
        rw [← HT.out]
        simp only [Sta.t1]
        omega
      rw [et]
      generalize hw5 : wr.drewN nq = w5
      have hv5 : Wds w5 gv 28 (Sta.mk a b c' d e f g h).list := by rw [← hw5]; exact hv
      have hw6 : Wds w5 gw 29 (sched l) := by rw [← hw5]; exact hw
      have hh5 : Wds w5 gh 28 s.list := by rw [← hw5]; exact hh
      have hz5 : Wds w5 (gh + 1) 28 (List.replicate 8 0) := by rw [← hw5]; exact hz
      have hx5 : Ext w w5 := by rw [← hw5]; exact hx.drewN _
      clear et hw5 hv hw hh hz hx v0 v1 v2 v3 v4 v5 v6 v7 cq cr KT KC
      have v0 := hv5.cell (i := 0) (n := a) rfl
      have v1 := hv5.cell (i := 1) (n := b) rfl
      have v2 := hv5.cell (i := 2) (n := c') rfl
      go_wp2
      go_quiet (first
        | (go_at_call 110; exact Calls.quiet_of_same (KU.out _))
        | (go_at_call 112; exact Calls.quiet_of_same (KM.out _)))
      obtain ⟨u, HU, hu32⟩ : ∃ t : Nat, Hid ((Sta.mk a b c' d e f g h).t2 = t) ∧ t < 4294967296 := ⟨_, rfl, Nat.mod_lt _ (by decide)⟩
      have eu : ((tri 2 13 22 a : Int) + (maj a b c' : Int)) % 4294967296 = (u : Int) := by
        rw [← HU.out]
        simp only [Sta.t2]
        omega
      rw [eu]
      generalize hw7 : w5.drewN nq = w7
      have hv7 : Wds w7 gv 28 (Sta.mk a b c' d e f g h).list := by rw [← hw7]; exact hv5
      have hw8 : Wds w7 gw 29 (sched l) := by rw [← hw7]; exact hw6
      have hh7 : Wds w7 gh 28 s.list := by rw [← hw7]; exact hh5
      have hz7 : Wds w7 (gh + 1) 28 (List.replicate 8 0) := by rw [← hw7]; exact hz5
      have hx7 : Ext w w7 := by rw [← hw7]; exact hx5.drewN _
      clear eu hw7 hv5 hw6 hh5 hz5 hx5 v0 v1 v2 KU KM
      have v0 := hv7.cell (i := 0) (n := a) rfl
      have v1 := hv7.cell (i := 1) (n := b) rfl
      have v2 := hv7.cell (i := 2) (n := c') rfl
      have v3 := hv7.cell (i := 3) (n := d) rfl
      have v4 := hv7.cell (i := 4) (n := e) rfl
      have v5 := hv7.cell (i := 5) (n := f) rfl
      have v6 := hv7.cell (i := 6) (n := g) rfl
      have v7 := hv7.cell (i := 7) (n := h) rfl
      have f0 := hv7.frozen 0
      have f1 := hv7.frozen 1
      have f2 := hv7.frozen 2
      have f3 := hv7.frozen 3
      have f4 := hv7.frozen 4
      have f5 := hv7.frozen 5
      have f6 := hv7.frozen 6
      have f7 := hv7.frozen 7
      obtain ⟨w9, hrun, hv9, hl9⟩ := run_move w7.drew gv a b c' d e f g h hv7
      have hw9 : Wds w9 gw 29 (sched l) := Wds.other (w := w7.drew) hw8 hl9 (by omega)
      have hh9 : Wds w9 gh 28 s.list := Wds.other (w := w7.drew) hh7 hl9 (by omega)
      have hz9 : Wds w9 (gh + 1) 28 (List.replicate 8 0) := Wds.other (w := w7.drew) hz7 hl9 (by omega)
      have hx9 : Ext w w9 := (hx7.trans (Ext.drew _)).laid hl9 (by omega)
      clear v0 v1 v2 v3 v4 v5 v6 v7 f0 f1 f2 f3 f4 f5 f6 f7
      have v0 := hv9.cell (i := 0) (n := a) rfl
      have v4 := hv9.cell (i := 4) (n := d) rfl
      have f0 := hv9.frozen 0
      have f4 := hv9.frozen 4
      go_wp2
      go_region
      clear hrun hv7 hw8 hh7 hz7 hx7
      go_wp2
      refine ⟨⟨k + 1, by omega, by go_num, ?_, ?_, ?_, ?_, ?_⟩, by simp [intOf]; omega⟩
      · rw [HN.out]
        refine Wds.put (Wds.put hv9 4 ((d + t) % 4294967296) (by omega) rfl) 0 ((t + u) % 4294967296) (by omega) ?_
        simp only [Sta.next, Sta.list]
        rw [HT.out, HU.out]
        rfl
      · exact Wds.far (Wds.far hw9 (by show gw ≠ gv; omega) _) (by show gw ≠ gv; omega) _
      · exact Wds.far (Wds.far hh9 (by show gh ≠ gv; omega) _) (by show gh ≠ gv; omega) _
      · exact Wds.far (Wds.far hz9 (by show gh + 1 ≠ gv; omega) _) (by show gh + 1 ≠ gv; omega) _
      · exact Below.set (Below.set hx9 (by show w.heap.size ≤ gv; omega) _) (by show w.heap.size ≤ gv; omega) _
    · have hge : ¬ (k : Int) < 64 := by omega
      have HV : Hid (Wds wr gv 28 (s.rounds (sched l) 64).list) := by
        have e : k = 64 := by omega
        rw [e] at hv
        exact hv
      obtain ⟨wa, hwa⟩ : ∃ x, x = wr := ⟨_, rfl⟩
      subst hwa
      obtain ⟨v, HVV⟩ : ∃ v, Hid (s.rounds (sched l) 64 = v) := ⟨_, rfl⟩
      rw [HVV.out] at HV
      have HM : Hid (mixedS s l = s.plus v) := by show s.plus _ = _; rw [HVV.out]
      clear hv hk hlt
      go_wp2
      go_loopw [63] (fun i wr => ∃ k : Nat, k ≤ 8 ∧ i = .int .i64 k ∧ Wds wr gv 28 v.list ∧ Wds wr gh 28 ((s.plus v).list.take k ++ s.list.drop k) ∧ Wds wr (gh + 1) 28 (List.replicate 8 0) ∧ Ext w wr) (fun i _ => 8 - (intOf i).toNat)
      case atStart => exact ⟨0, Nat.zero_le _, rfl, HV.out, hh, hz, hx⟩
      clear hh hz hx HV hw
      case round =>
        obtain ⟨j, hj, rfl, hv, hh, hz, hx⟩ := hrel
        by_cases hlt : j < 8
        · obtain ⟨x, hxj⟩ : ∃ x, s.list[j]? = some x := ⟨_, List.getElem?_eq_getElem (by simpa [Sta.list] using hlt)⟩
          obtain ⟨y, hyj⟩ : ∃ y, v.list[j]? = some y := ⟨_, List.getElem?_eq_getElem (by simpa [Sta.list] using hlt)⟩
          have HP := hide (plus_get s v j x y hxj hyj)
          have cx : wr.cell? ⟨gh, j, none⟩ = some (.int .u32 (x : Int)) := hh.cell (by rw [get_take _ _ _ (by simpa [Sta.list] using hlt)]; exact hxj)
          have cy := hv.cell hyj
          have fx := hh.frozen j
          clear hxj hyj
          go_wp2
          go_region
          go_wp2
          refine ⟨⟨j + 1, by omega, by go_num, ?_, ?_, ?_, ?_⟩, by simp [intOf]; omega⟩
          · exact Wds.far (w := wr.drew) hv (by show gv ≠ gh; omega) _
          · exact Wds.put (w := wr.drew) hh j ((x + y) % 4294967296) (by omega) (set_take _ _ _ _ HP.out (by simpa [Sta.list] using hlt))
          · exact Wds.far (w := wr.drew) hz (by show gh + 1 ≠ gh; omega) _
          · exact Below.set (hx.trans (Ext.drew _)) (by show w.heap.size ≤ gh; omega) _
        · have hge2 : ¬ (j : Int) < 8 := by omega
          have HH : Hid (Wds wr gh 28 (s.plus v).list) := by
            have e : j = 8 := by omega
            rw [e] at hh
            exact hh
          have HZ := hide hz
          clear hh hz hv hj hlt
          go_wp2_with (first
            | ((with_reducible show wpList _ _ _ (⟨some 75, .load _ _, _, _, _, _⟩ :: _) _ _);
               refine wpList_load_rw rfl 28 (.tmp 2) rfl _ rfl 28 (us (s.plus v).list) HH.out 8 27 Tryd.underlying28 (by kernel_rfl) rfl ?_)
            | ((with_reducible show wpList _ _ _ (⟨none, .store _ (.tmp 4) _, _, _, _, _⟩ :: _) _ _);
               refine wpList_store_rw rfl 28 (.tmp 4) (.tmp 75) rfl _ rfl (us (s.plus v).list) rfl 28 (us (List.replicate 8 0)) HZ.out 8 (by kernel_rfl) rfl rfl (us_one _) ?_;
               intro w5 hr5 hl5))
          rw [HM.out]
          exact ret_rw rfl rfl _ rfl _ _ hr5 8 27 Tryd.underlying28 (by kernel_rfl) rfl (Ret.mk (hx.laid hl5 (by omega)) rfl)
end Go.Proofs.YtmanflfanoddgaaDoor
