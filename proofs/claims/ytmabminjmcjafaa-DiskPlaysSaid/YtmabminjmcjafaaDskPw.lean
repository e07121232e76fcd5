/-
  The walk of DiskPlays.
-/
import Derived.Test.YtmabminjmcjafaaDskDp
import Derived.Test.YtmabminjmcjafaaGrowL
import Derived.BigQuiet
namespace Go.Proofs.Ytmabminjmcjafaa
open Go.RowKit

/-- A call of the script: kind, number, bytes, choices. -/
structure Ac where
  k : Nat
  i : Int
  P : Option Addr
  cp : Nat
  p : List UInt8
  Q : Option Addr
  cq : Nat
  q : List Bool
structure AcOk (w : World) (y : Ac) : Prop where
  k : y.k < 256
  i : -9223372036854775808 ≤ y.i ∧ y.i < 9223372036854775808
  p : Rd w y.P y.p
  n : y.p.length ≤ 140737488351232
  q : RdB w y.Q y.q
/-- The slice at A reads as these calls. -/
def RdA (w : World) (A : Option Addr) (L : List Ac) : Prop := L ≠ [] → ∃ b off, A = some ⟨b, off, none⟩ ∧ ∀ j y, L[j]? = some y → ∀ q v, ([.int .u8 (y.k : Int), .int .i64 y.i, .slice y.P y.p.length y.cp, .slice y.Q y.q.length y.cq])[q]? = some v → w.cell? ⟨b, off + j * 4 + q, none⟩ = some v
theorem RdB.ext {w w' : World} {A : Option Addr} {l : List Bool} (h : RdB w A l) (hx : Ext w w') : RdB w' A l := fun hn => by
  obtain ⟨b, off, hA, hc⟩ := h hn
  exact ⟨b, off, hA, fun j v hj => hx.keeps.cell (hc j v hj)⟩
/-- The disk behind a call. -/
def actD (D : Dk) (y : Ac) : Dk := if y.k % 6 = 0 then wD D y.i (fullS y.p) else if y.k % 6 = 1 then wD D y.i y.p else if y.k % 6 = 2 then D else if y.k % 6 = 3 then sD D else if y.k % 6 = 4 then (if y.i < 0 then D else { D with arm := y.i.toNat }) else D.fallen y.q
theorem actD_bd {w : World} {D : Dk} (b : Bd D) (hp : D.pen.length < 900000) (ho : D.ops < 900000) (y : Ac) (hy : AcOk w y) : Bd (actD D y) ∧ (actD D y).pen.length ≤ D.pen.length + 1 ∧ (actD D y).ops ≤ D.ops + 1 ∧ (actD D y).dur.length = D.dur.length := by
  unfold actD
  split
  · exact wD_bd b hp ho _ _
  · split
    · exact wD_bd b hp ho _ _
    · split
      · exact ⟨b, by omega, by omega, rfl⟩
      · split
        · exact sD_bd b ho
        · split
          · split
            · exact ⟨b, by omega, by omega, rfl⟩
            · exact ⟨⟨⟨b.ok.pos, b.ok.max, b.ok.dur, b.ok.pen⟩, b.pen, b.ops, by show y.i.toNat < _; have := hy.i.2; omega⟩, by show D.pen.length ≤ _; omega, by show D.ops ≤ _; omega, rfl⟩
          · exact fallen_bd b y.q
theorem do_any {w0 w : World} {g gx : Nat} {D : Dk} (hT : Two w0 w g gx D D) (b : Bd D) (hp : D.pen.length < 900000) (ho : D.ops < 900000) (y : Ac) (hy : AcOk w0 y) :
    Calls Try.prog 12 #[.pointer (some ⟨g, 0, none⟩), .pointer (some ⟨gx, 0, none⟩), .agg #[.int .u8 (y.k : Int), .int .i64 y.i, .slice y.P y.p.length y.cp, .slice y.Q y.q.length y.cq]] w (DoP w0 g gx (actD D y)) := by
  have hP : ∀ W, Ext w0 W → Rd W y.P y.p := fun W hW => hy.p.ext hW
  have hK : ∀ W, Ext w0 W → RdB W y.Q y.q := fun W hW => hy.q.ext hW
  unfold actD
  by_cases k0 : y.k % 6 = 0
  · rw [if_pos k0]; exact do_0 hT b hp ho y.k hy.k y.i hy.i.1 hy.i.2 hP rfl hy.n hK rfl k0
  rw [if_neg k0]
  by_cases k1 : y.k % 6 = 1
  · rw [if_pos k1]; exact do_1 hT b hp ho y.k hy.k y.i hy.i.1 hy.i.2 hP rfl hy.n hK rfl k1
  rw [if_neg k1]
  by_cases k2 : y.k % 6 = 2
  · rw [if_pos k2]; exact do_2 hT b hp ho y.k hy.k y.i hy.i.1 hy.i.2 hP rfl hy.n hK rfl k2
  rw [if_neg k2]
  by_cases k3 : y.k % 6 = 3
  · rw [if_pos k3]; exact do_3 hT b hp ho y.k hy.k y.i hy.i.1 hy.i.2 hP rfl hy.n hK rfl k3
  rw [if_neg k3]
  by_cases k4 : y.k % 6 = 4
  · rw [if_pos k4]; exact do_4 hT b hp ho y.k hy.k y.i hy.i.1 hy.i.2 hP rfl hy.n hK rfl k4
  rw [if_neg k4]
  exact do_5 hT b hp ho y.k hy.k y.i hy.i.1 hy.i.2 hP rfl hy.n hK rfl (by omega)
def slv (m : Nat) : World → Value → Prop := fun _ v => ∃ A c, v = .slice A m c
def pwv (p : World → Prop) (x : Value) : World → Value → Prop := fun w v => v = x ∧ p w
theorem stbP_getD {R : World → World → Prop} {L : List (World → Value → Prop)} (hL : ∀ p ∈ L, ∀ w w' v, p w v → R w w' → p w' v) : ∀ i w w' v, L.getD i (fun _ _ => True) w v → R w w' → L.getD i (fun _ _ => True) w' v := fun i w w' v h hs => by
  rw [List.getD_eq_getElem?_getD] at h ⊢
  cases hi : L[i]? with
  | none => trivial
  | some p =>
    rw [hi] at h
    exact hL p (List.mem_of_getElem? hi) w w' v h hs
theorem run_indexA (b off n c i : Nat) (h : i < n) (w : World) : (Instr.indexAt 22 (.slice (some ⟨b, off, none⟩) n c) (.int .i64 (i : Int))).run Try.prog w = .ok (.pointer (some ⟨b, off + i * 4, none⟩)) w := by
  have hi : (i : Int) < (n : Int) := by omega
  have h0 : (0 : Int) ≤ (i : Int) := by omega
  simp [go_sem, Try.underlying22, hi, h0, add_flat]
theorem load_bool7 {w : World} {ad : Addr} {v : Bool} (hc : w.cell? ad = some (.bool v)) : (loadVar 4 ad).run Try.prog w = .ok (.bool v) w := by
  simp [loadVar, isAgg, go_sem, hc]
theorem worldT {w0 w : World} {g gx : Nat} {D X : Dk} (_ : Hid (Two w0 w g gx D X)) : ∃ u, u = w := ⟨w, rfl⟩
theorem worldT5 {w0 w : World} {g gx : Nat} {D X : Dk} {p : Prop} (_ : Hid (Two w0 w g gx D X ∧ p)) : ∃ u, u = w := ⟨w, rfl⟩
theorem Ext.below0 {w w0 wz : World} (h : Ext w0 wz) (h0 : Ext w w0) : Ext w wz := h0.trans h
theorem RefAt.mono {B B' : Nat} {w : World} {g gl cl c : Nat} {A : Option Addr} {rest : List Value} {D : Dk} (h : RefAt B w g gl cl A c rest D) (hB : B' ≤ B) : RefAt B' w g gl cl A c rest D := by
  refine ⟨h.blk, h.dur, ?_, ⟨Nat.le_trans hB h.base.1, Nat.le_trans hB h.base.2⟩, h.cap⟩
  refine ⟨h.pen.1, ?_⟩
  rcases h.pen.2 with hn | ⟨g', cap, cur, hv, hb, rest⟩
  · exact .inl hn
  · exact .inr ⟨g', cap, cur, hv, Nat.le_trans hB hb, rest⟩
theorem plays_bad (i : Int) (A : Option Addr) (m c : Nat) (w : World) (hi : i < 1 ∨ 4096 < i) : Calls Try.prog 3 #[.int .i64 i, .slice A m c] w (Awake w) := by
  have KA := hide (awake_any w)
  have KN := hide (fun (W : World) => new_bad i (w := W) hi)
  by_cases h1 : i < 1
  · clear hi
    go_enter Try.func3, Try.ntmps3
    go_wp2_with (first
      | (go_at_call 8; (with_reducible refine KA.out.mono ?_); rintro e w1 ⟨rfl, hx1⟩; have X1 := hide hx1)
      | (go_at_call 9; (with_reducible refine (KN.out _).mono ?_); rintro e w2 ⟨rfl, hw2⟩; have hw2 := hw2.symm; subst hw2))
    go_ret
    exact ⟨rfl, X1.out⟩
  · have h2 : 4096 < i := by omega
    clear hi
    go_enter Try.func3, Try.ntmps3
    go_wp2_with (first
      | (go_at_call 8; (with_reducible refine KA.out.mono ?_); rintro e w1 ⟨rfl, hx1⟩; have X1 := hide hx1)
      | (go_at_call 9; (with_reducible refine (KN.out _).mono ?_); rintro e w2 ⟨rfl, hw2⟩; have hw2 := hw2.symm; subst hw2))
    go_ret
    exact ⟨rfl, X1.out⟩
set_option maxRecDepth 20000 in
set_option maxHeartbeats 12800000 in
theorem plays_good (n : Nat) (h1 : 1 ≤ n) (h2 : n ≤ 4096) (A : Option Addr) (L : List Ac) (m c : Nat) (w : World) (hA : RdA w A L) (hm : L.length = m) (hml : m ≤ 4398046511104) (hy : ∀ y ∈ L, AcOk w y) : Calls Try.prog 3 #[.int .i64 (n : Int), .slice A m c] w (Awake w) := by
  have KA := hide (awake_any w)
  have KN := hide (fun (W : World) => new_any n h1 h2 W)
  have KM := hide (fun (W : World) => rnew_any n h1 h2 W)
  have hn1 : ¬ (n : Int) < 1 := by omega
  have hn2 : ¬ (4096 : Int) < (n : Int) := by omega
  have hmI : (m : Int) ≤ 4398046511104 := by omega
  have HA := hide hA
  have HM := hide hm
  have HY := hide hy
  have HN12 := hide (show 1 ≤ n ∧ n ≤ 4096 from ⟨h1, h2⟩)
  clear hA hm hy hml h1 h2
  go_enter Try.func3, Try.ntmps3
  go_upto_region 6 with (first
    | (go_at_call 8; (with_reducible refine KA.out.mono ?_); rintro e w0 ⟨rfl, hx1⟩; have X1 := hide hx1)
    | (go_at_call 9; (with_reducible refine (KN.out _).mono ?_); rintro e w2 ⟨g, gd, gn, rfl, hd2, hx2⟩; have H2 := hide hd2; have X2 := hide hx2; clear hd2 hx2))
  have KLN := hide (len_any H2.out)
  rw [D0_len] at KLN
  go_upto_region 10 with (first
    | (go_at_call 10; (with_reducible refine KLN.out.mono ?_); rintro e w3 ⟨rfl, hw3⟩; have hw3 := hw3.symm; subst hw3)
    | (go_at_call 11; (with_reducible refine (KM.out _).mono ?_); rintro e w4 ⟨gx, gl, cl, rest, rfl, hr4, hx4⟩; have H4 := hide hr4; have X4 := hide hx4; clear hr4 hx4))
  have T4 := hide (show Two w0 w4 g gx (D0 n) (D0 n) from ⟨gd, gn, none, 0, gl, cl, none, 0, rest, H2.out.ext X4.out, H4.out.mono X2.out.size, X2.out.trans X4.out⟩)
  have HB0 := hide (show Bd (D0 n) from ⟨D0_ok n HN12.out.1 HN12.out.2, by show (0 : Nat) < _; decide, by show (0 : Nat) < _; decide, by show (0 : Nat) < _; decide⟩)
  clear H2 X2 H4 X4 KLN KM KN KA
  go_loopw [8] (fun iv wr => ∃ (i : Nat) (D : Dk), i ≤ m ∧ i ≤ 80 ∧ iv = .int .i64 (i : Int) ∧ Hid (Two w0 wr g gx D D ∧ Bd D ∧ D.pen.length ≤ i ∧ D.ops ≤ i ∧ D.dur.length = n)) (fun iv _ => m - (intOf iv).toNat)
  case atStart => exact ⟨0, D0 n, Nat.zero_le _, Nat.zero_le _, rfl, hide ⟨T4.out, HB0.out, Nat.le_refl _, Nat.le_refl _, D0_len n⟩⟩
  case round =>
    obtain ⟨i, D, hi, hi80, rfl, HST⟩ := hrel
    obtain ⟨wr, HWR⟩ := worldT5 HST
    subst HWR
    by_cases hlt : i < m
    · have hii : (i : Int) < (m : Int) := by omega
      by_cases h80 : i < 80
      · have h80i : (i : Int) < 80 := by omega
        obtain ⟨y, hyy⟩ : ∃ y, L[i]? = some y := ⟨_, List.getElem?_eq_getElem (by rw [HM.out]; exact hlt)⟩
        obtain ⟨b, off, hAA, hc⟩ := HA.out (by intro h; rw [h] at hyy; cases hyy)
        subst hAA
        have HOKY := hide (show AcOk w0 y from by have h := HY.out y (List.mem_of_getElem? hyy); exact ⟨h.k, h.i, h.p.ext X1.out, h.n, h.q.ext X1.out⟩)
        have HCY := hide (fun (q : Nat) (v : Value) (hq : ([.int .u8 (y.k : Int), .int .i64 y.i, .slice y.P y.p.length y.cp, .slice y.Q y.q.length y.cq])[q]? = some v) => X1.out.keeps.cell (hc i y hyy q v hq))
        have HLT := hide hlt
        obtain ⟨D', HD'⟩ : ∃ D', Hid (actD D y = D') := ⟨_, hide rfl⟩
        have HBD' := hide (actD_bd HST.out.2.1 (by have := HST.out.2.2.1; omega) (by have := HST.out.2.2.2.1; omega) y HOKY.out)
        have KD := hide (fun (W : World) (hW : Two w0 W g gx D D) => do_any hW HST.out.2.1 (by have := HST.out.2.2.1; omega) (by have := HST.out.2.2.2.1; omega) y HOKY.out)
        rw [HD'.out] at HBD' KD
        have HT2 := hide HST.out.1
        have hjx : ∀ {j : Nat} {wz : World}, Two w0 wz g gx (if 1 ≤ j then D' else D) (if 1 ≤ j then D' else D) → Ext w0 wz := fun h => h.ex
        clear hc hyy
        go_upto_region 12 with fail
        rename_i hK
        refine wp_region_chainI (fun q w v => ([eqv (.pointer (some ⟨g, 0, none⟩)), eqv (.pointer (some ⟨gx, 0, none⟩)), eqv (.slice (some ⟨b, off, none⟩) m c), eqv (.int .i64 (i : Int)), eqv (.pointer (some ⟨b, off + i * 4, none⟩)), eqv (.agg #[.int .u8 (y.k : Int), .int .i64 y.i, .slice y.P y.p.length y.cp, .slice y.Q y.q.length y.cq]), pwv (Two w0 · g gx D' D') (.bool true), pwv (Two w0 · g gx D' D') (.bool false), pwv (Two w0 · g gx D' D') (.bool false), eqv (.pointer (some ⟨g, 0, none⟩)), eqv (.int .i64 (D'.pen.length : Int)), eqv (.pointer (some ⟨gx, 0, none⟩)), eqv (.pointer (some ⟨gx, 0, none⟩)), eqv (.pointer (some ⟨gx, 1, none⟩)), slv D'.pen.length, eqv (.int .i64 (D'.pen.length : Int)), eqv (.bool false), pwv (Two w0 · g gx D' D') (.bool false), pwv (Two w0 · g gx D' D') (.bool false), eqv (.pointer (some ⟨g, 0, none⟩)), eqv (.int .i64 (D'.ops : Int)), eqv (.pointer (some ⟨gx, 0, none⟩)), eqv (.pointer (some ⟨gx, 0, none⟩)), eqv (.pointer (some ⟨gx, 4, none⟩)), eqv (.int .i64 (D'.ops : Int)), eqv (.bool false), pwv (Two w0 · g gx D' D') (.bool false), pwv (Two w0 · g gx D' D') (.bool false), eqv (.pointer (some ⟨g, 0, none⟩)), eqv (.bool (!D'.off)), eqv (.pointer (some ⟨gx, 0, none⟩)), eqv (.pointer (some ⟨gx, 0, none⟩)), eqv (.pointer (some ⟨gx, 3, none⟩)), eqv (.bool D'.off), eqv (.bool false), eqv (.bool false)] : List (World → Value → Prop)).getD q (fun _ _ => True) w v) (fun j w => Two w0 w g gx (if 1 ≤ j then D' else D) (if 1 ≤ j then D' else D)) (fun w w' => Two w0 w g gx D' D' → Two w0 w' g gx D' D') [6] (by kernel_rfl) (by kernel_rfl) (by kernel_rfl) (stbP_getD ?_) (HT2.out.ext (Ext.drew _)) ?_ ?_
        · intro p hp
          simp only [List.mem_cons, List.not_mem_nil, or_false] at hp
          rcases hp with rfl | rfl | rfl | rfl | rfl | rfl | rfl | rfl | rfl | rfl | rfl | rfl | rfl | rfl | rfl | rfl | rfl | rfl | rfl | rfl | rfl | rfl | rfl | rfl | rfl | rfl | rfl | rfl | rfl | rfl | rfl | rfl | rfl | rfl | rfl | rfl
          all_goals first | exact fun _ _ _ h _ => h | exact fun _ _ _ ⟨h, ht⟩ hs => ⟨h, hs ht⟩
        · refine ⟨?_, ?_, ?_, ?_, ?_, ?_, ?_, ?_, ?_, ?_, ?_, ?_, ?_, ?_, ?_, ?_, ?_, ?_, ?_, ?_, ?_, ?_, ?_, ?_, ?_, ?_, ?_, ?_, ?_, ?_, ?_, ?_, ?_, ?_, ?_, ?_, trivial⟩
          · intro az wz hk H
            rw [if_neg (by decide)]
            intro j hj hJ
            refine .inl ⟨wanted_none rfl, ?_⟩
            refine gives_move rfl ?_
            rw [(ev (show az.tmps[5]? = some (.pointer (some ⟨g, 0, none⟩)) from hk 5 rfl))]
            exact ⟨rfl, rfl⟩
          · intro az wz hk H
            rw [if_neg (by decide)]
            intro j hj hJ
            refine .inl ⟨wanted_none rfl, ?_⟩
            refine gives_move rfl ?_
            rw [(ev (show az.tmps[7]? = some (.pointer (some ⟨gx, 0, none⟩)) from hk 7 rfl))]
            exact ⟨rfl, rfl⟩
          · intro az wz hk H
            rw [if_neg (by decide)]
            intro j hj hJ
            refine .inl ⟨wanted_none rfl, ?_⟩
            refine gives_move rfl ?_
            rw [(ev (show az.tmps[1]? = some (.slice (some ⟨b, off, none⟩) m c) from hk 1 rfl))]
            exact ⟨rfl, rfl⟩
          · intro az wz hk H
            rw [if_neg (by decide)]
            intro j hj hJ
            refine .inl ⟨wanted_none rfl, ?_⟩
            refine gives_move rfl ?_
            rw [(ev (show az.tmps[8]? = some (.int .i64 (i : Int)) from hk 8 rfl))]
            exact ⟨rfl, rfl⟩
          · intro az wz hk H
            rw [if_neg (by decide)]
            intro j hj hJ
            obtain ⟨v59, h59, s59⟩ := H 2 rfl _ rfl 59 rfl
            obtain rfl : v59 = .slice (some ⟨b, off, none⟩) m c := s59
            obtain ⟨v60, h60, s60⟩ := H 3 rfl _ rfl 60 rfl
            obtain rfl : v60 = .int .i64 (i : Int) := s60
            refine .inl ⟨wanted_none rfl, ?_⟩
            exact gives_indexP rfl (ev h59) (ev h60) (run_indexA b off m c i HLT.out _) ⟨rfl, rfl⟩
          · intro az wz hk H
            rw [if_neg (by decide)]
            intro j hj hJ
            have hx0 : Ext w0 wz := hjx hJ
            obtain ⟨v61, h61, s61⟩ := H 4 rfl _ rfl 61 rfl
            obtain rfl : v61 = .pointer (some ⟨b, off + i * 4, none⟩) := s61
            refine .inl ⟨wanted_none rfl, ?_⟩
            exact gives_load_at 35 (.tmp 61) rfl b (off + i * 4) (ev h61) [.int .u8 (y.k : Int), .int .i64 y.i, .slice y.P y.p.length y.cp, .slice y.Q y.q.length y.cq] 4 (agg_struct Try.underlying35 wz) (by kernel_rfl) rfl (fun q v hq => hx0.keeps.cell (HCY.out q v hq)) ⟨rfl, rfl⟩
          · intro az wz hk H
            rw [if_pos (by decide)]
            intro j hj hJ
            obtain rfl : j = 0 := ch_at hj 0 rfl (by decide)
            obtain ⟨v57, h57, s57⟩ := H 0 rfl _ rfl 57 rfl
            obtain rfl : v57 = .pointer (some ⟨g, 0, none⟩) := s57
            obtain ⟨v58, h58, s58⟩ := H 1 rfl _ rfl 58 rfl
            obtain rfl : v58 = .pointer (some ⟨gx, 0, none⟩) := s58
            obtain ⟨v62, h62, s62⟩ := H 5 rfl _ rfl 62 rfl
            obtain rfl : v62 = .agg #[.int .u8 (y.k : Int), .int .i64 y.i, .slice y.P y.p.length y.cp, .slice y.Q y.q.length y.cq] := s62
            have hT0 : Two w0 wz g gx D D := hJ
            refine ⟨wanted_none rfl, gives_call (args := #[.pointer (some ⟨g, 0, none⟩), .pointer (some ⟨gx, 0, none⟩), .agg #[.int .u8 (y.k : Int), .int .i64 y.i, .slice y.P y.p.length y.cp, .slice y.Q y.q.length y.cq]]) rfl Try.call12 (by simp only [List.map_toArray, List.map_cons, List.map_nil, ev h57, ev h58, ev h62]) ?_⟩
            exact (KD.out wz hT0).mono fun e w' ⟨he, ht⟩ => ⟨_, he, ⟨rfl, ht⟩, ht, fun _ => ht⟩
          · intro az wz hk H
            rw [if_neg (by decide)]
            intro j hj hJ
            obtain ⟨v63, h63, s63⟩ := H 6 rfl _ rfl 63 rfl
            obtain ⟨hv63, hT⟩ : pwv (Two w0 · g gx D' D') (.bool true) wz v63 := s63
            subst hv63
            refine .inl ⟨wanted_none rfl, ?_⟩
            exact gives_not true rfl (ev h63) ⟨⟨rfl, hT⟩, rfl⟩
          · intro az wz hk H
            rw [if_neg (by decide)]
            intro j hj hJ
            obtain ⟨v64, h64, s64⟩ := H 7 rfl _ rfl 64 rfl
            obtain ⟨hv64, hT⟩ : pwv (Two w0 · g gx D' D') (.bool false) wz v64 := s64
            subst hv64
            refine .inl ⟨wanted_none rfl, ?_⟩
            refine gives_move rfl ?_
            rw [ev h64]
            exact ⟨⟨rfl, hT⟩, rfl⟩
          · intro az wz hk H
            rw [if_neg (by decide)]
            intro j hj hJ
            obtain ⟨v65, h65, s65⟩ := H 8 rfl _ rfl 65 rfl
            obtain ⟨hv65, hT⟩ : pwv (Two w0 · g gx D' D') (.bool false) wz v65 := s65
            subst hv65
            have g0 : az.tmps[65]? = some (.bool false) := h65
            refine .inl ⟨wanted_yes _ rfl rfl rfl g0, ?_⟩
            refine gives_move rfl ?_
            rw [(ev (show az.tmps[5]? = some (.pointer (some ⟨g, 0, none⟩)) from hk 5 rfl))]
            exact ⟨rfl, rfl⟩
          · intro az wz hk H
            rw [if_neg (by decide)]
            intro j hj hJ
            obtain ⟨v65, h65, s65⟩ := H 8 rfl _ rfl 65 rfl
            obtain ⟨hv65, hT⟩ : pwv (Two w0 · g gx D' D') (.bool false) wz v65 := s65
            subst hv65
            have g0 : az.tmps[65]? = some (.bool false) := h65
            obtain ⟨v66, h66, s66⟩ := H 9 rfl _ rfl 66 rfl
            obtain rfl : v66 = .pointer (some ⟨g, 0, none⟩) := s66
            refine .inl ⟨wanted_yes _ rfl rfl rfl g0, ?_⟩
            obtain ⟨gd, gn, A, cc, gl, cl, AX, cx, rest, h1, h2, h3⟩ := hT
            refine gives_call (args := #[.pointer (some ⟨g, 0, none⟩)]) rfl Try.call13 (by simp only [List.map_toArray, List.map_cons, List.map_nil, ev h66]) ?_
            exact (pending_any h1).mono fun e w' ⟨he, hw⟩ => ⟨_, he, rfl, hw.symm⟩
          · intro az wz hk H
            rw [if_neg (by decide)]
            intro j hj hJ
            obtain ⟨v65, h65, s65⟩ := H 8 rfl _ rfl 65 rfl
            obtain ⟨hv65, hT⟩ : pwv (Two w0 · g gx D' D') (.bool false) wz v65 := s65
            subst hv65
            have g0 : az.tmps[65]? = some (.bool false) := h65
            refine .inl ⟨wanted_yes _ rfl rfl rfl g0, ?_⟩
            refine gives_move rfl ?_
            rw [(ev (show az.tmps[7]? = some (.pointer (some ⟨gx, 0, none⟩)) from hk 7 rfl))]
            exact ⟨rfl, rfl⟩
          · intro az wz hk H
            rw [if_neg (by decide)]
            intro j hj hJ
            obtain ⟨v65, h65, s65⟩ := H 8 rfl _ rfl 65 rfl
            obtain ⟨hv65, hT⟩ : pwv (Two w0 · g gx D' D') (.bool false) wz v65 := s65
            subst hv65
            have g0 : az.tmps[65]? = some (.bool false) := h65
            obtain ⟨v68, h68, s68⟩ := H 11 rfl _ rfl 68 rfl
            obtain rfl : v68 = .pointer (some ⟨gx, 0, none⟩) := s68
            refine .inl ⟨wanted_yes _ rfl rfl rfl g0, ?_⟩
            exact gives_nilCheck rfl (ev h68) ⟨rfl, rfl⟩
          · intro az wz hk H
            rw [if_neg (by decide)]
            intro j hj hJ
            obtain ⟨v65, h65, s65⟩ := H 8 rfl _ rfl 65 rfl
            obtain ⟨hv65, hT⟩ : pwv (Two w0 · g gx D' D') (.bool false) wz v65 := s65
            subst hv65
            have g0 : az.tmps[65]? = some (.bool false) := h65
            obtain ⟨v69, h69, s69⟩ := H 12 rfl _ rfl 69 rfl
            obtain rfl : v69 = .pointer (some ⟨gx, 0, none⟩) := s69
            refine .inl ⟨wanted_yes _ rfl rfl rfl g0, ?_⟩
            exact gives_fieldP rfl (ev h69) (run_field7 gx 1 _) ⟨rfl, rfl⟩
          · intro az wz hk H
            rw [if_neg (by decide)]
            intro j hj hJ
            obtain ⟨v65, h65, s65⟩ := H 8 rfl _ rfl 65 rfl
            obtain ⟨hv65, hT⟩ : pwv (Two w0 · g gx D' D') (.bool false) wz v65 := s65
            subst hv65
            have g0 : az.tmps[65]? = some (.bool false) := h65
            obtain ⟨v70, h70, s70⟩ := H 13 rfl _ rfl 70 rfl
            obtain rfl : v70 = .pointer (some ⟨gx, 1, none⟩) := s70
            refine .inl ⟨wanted_yes _ rfl rfl rfl g0, ?_⟩
            obtain ⟨gd, gn, A, cc, gl, cl, AX, cx, rest, h1, h2, h3⟩ := hT
            exact gives_load_v rfl (ev h70) (load_slice Try.underlying37 (h2.blk.cell (i := 1) rfl)) ⟨⟨_, _, rfl⟩, rfl⟩
          · intro az wz hk H
            rw [if_neg (by decide)]
            intro j hj hJ
            obtain ⟨v65, h65, s65⟩ := H 8 rfl _ rfl 65 rfl
            obtain ⟨hv65, hT⟩ : pwv (Two w0 · g gx D' D') (.bool false) wz v65 := s65
            subst hv65
            have g0 : az.tmps[65]? = some (.bool false) := h65
            obtain ⟨v71, h71, s71⟩ := H 14 rfl _ rfl 71 rfl
            obtain ⟨Av, cv, rfl⟩ : slv D'.pen.length wz v71 := s71
            refine .inl ⟨wanted_yes _ rfl rfl rfl g0, ?_⟩
            exact gives_len rfl ⟨_, Try.underlying37⟩ (ev h71) ⟨rfl, rfl⟩
          · intro az wz hk H
            rw [if_neg (by decide)]
            intro j hj hJ
            obtain ⟨v65, h65, s65⟩ := H 8 rfl _ rfl 65 rfl
            obtain ⟨hv65, hT⟩ : pwv (Two w0 · g gx D' D') (.bool false) wz v65 := s65
            subst hv65
            have g0 : az.tmps[65]? = some (.bool false) := h65
            obtain ⟨v67, h67, s67⟩ := H 10 rfl _ rfl 67 rfl
            obtain rfl : v67 = .int .i64 (D'.pen.length : Int) := s67
            obtain ⟨v72, h72, s72⟩ := H 15 rfl _ rfl 72 rfl
            obtain rfl : v72 = .int .i64 (D'.pen.length : Int) := s72
            refine .inl ⟨wanted_yes _ rfl rfl rfl g0, ?_⟩
            refine gives_of_run (w' := wz) (v := .bool false) ?_ ⟨rfl, rfl⟩
            simp [execOp, go_sem, h67, h72]
          · intro az wz hk H
            rw [if_neg (by decide)]
            intro j hj hJ
            obtain ⟨v65, h65, s65⟩ := H 8 rfl _ rfl 65 rfl
            obtain ⟨hv65, hT⟩ : pwv (Two w0 · g gx D' D') (.bool false) wz v65 := s65
            subst hv65
            obtain ⟨v73, h73, s73⟩ := H 16 rfl _ rfl 73 rfl
            obtain rfl : v73 = .bool false := s73
            refine .inl ⟨wanted_none rfl, ?_⟩
            refine gives_pick false rfl (ev h65) ?_
            rw [if_neg (by decide), ev h73]
            exact ⟨⟨rfl, hT⟩, rfl⟩
          · intro az wz hk H
            rw [if_neg (by decide)]
            intro j hj hJ
            obtain ⟨v74, h74, s74⟩ := H 17 rfl _ rfl 74 rfl
            obtain ⟨hv74, hT⟩ : pwv (Two w0 · g gx D' D') (.bool false) wz v74 := s74
            subst hv74
            refine .inl ⟨wanted_none rfl, ?_⟩
            refine gives_move rfl ?_
            rw [ev h74]
            exact ⟨⟨rfl, hT⟩, rfl⟩
          · intro az wz hk H
            rw [if_neg (by decide)]
            intro j hj hJ
            obtain ⟨v75, h75, s75⟩ := H 18 rfl _ rfl 75 rfl
            obtain ⟨hv75, hT⟩ : pwv (Two w0 · g gx D' D') (.bool false) wz v75 := s75
            subst hv75
            have g0 : az.tmps[75]? = some (.bool false) := h75
            refine .inl ⟨wanted_yes _ rfl rfl rfl g0, ?_⟩
            refine gives_move rfl ?_
            rw [(ev (show az.tmps[5]? = some (.pointer (some ⟨g, 0, none⟩)) from hk 5 rfl))]
            exact ⟨rfl, rfl⟩
          · intro az wz hk H
            rw [if_neg (by decide)]
            intro j hj hJ
            obtain ⟨v75, h75, s75⟩ := H 18 rfl _ rfl 75 rfl
            obtain ⟨hv75, hT⟩ : pwv (Two w0 · g gx D' D') (.bool false) wz v75 := s75
            subst hv75
            have g0 : az.tmps[75]? = some (.bool false) := h75
            obtain ⟨v76, h76, s76⟩ := H 19 rfl _ rfl 76 rfl
            obtain rfl : v76 = .pointer (some ⟨g, 0, none⟩) := s76
            refine .inl ⟨wanted_yes _ rfl rfl rfl g0, ?_⟩
            obtain ⟨gd, gn, A, cc, gl, cl, AX, cx, rest, h1, h2, h3⟩ := hT
            refine gives_call (args := #[.pointer (some ⟨g, 0, none⟩)]) rfl Try.call14 (by simp only [List.map_toArray, List.map_cons, List.map_nil, ev h76]) ?_
            exact (ops_any h1).mono fun e w' ⟨he, hw⟩ => ⟨_, he, rfl, hw.symm⟩
          · intro az wz hk H
            rw [if_neg (by decide)]
            intro j hj hJ
            obtain ⟨v75, h75, s75⟩ := H 18 rfl _ rfl 75 rfl
            obtain ⟨hv75, hT⟩ : pwv (Two w0 · g gx D' D') (.bool false) wz v75 := s75
            subst hv75
            have g0 : az.tmps[75]? = some (.bool false) := h75
            refine .inl ⟨wanted_yes _ rfl rfl rfl g0, ?_⟩
            refine gives_move rfl ?_
            rw [(ev (show az.tmps[7]? = some (.pointer (some ⟨gx, 0, none⟩)) from hk 7 rfl))]
            exact ⟨rfl, rfl⟩
          · intro az wz hk H
            rw [if_neg (by decide)]
            intro j hj hJ
            obtain ⟨v75, h75, s75⟩ := H 18 rfl _ rfl 75 rfl
            obtain ⟨hv75, hT⟩ : pwv (Two w0 · g gx D' D') (.bool false) wz v75 := s75
            subst hv75
            have g0 : az.tmps[75]? = some (.bool false) := h75
            obtain ⟨v78, h78, s78⟩ := H 21 rfl _ rfl 78 rfl
            obtain rfl : v78 = .pointer (some ⟨gx, 0, none⟩) := s78
            refine .inl ⟨wanted_yes _ rfl rfl rfl g0, ?_⟩
            exact gives_nilCheck rfl (ev h78) ⟨rfl, rfl⟩
          · intro az wz hk H
            rw [if_neg (by decide)]
            intro j hj hJ
            obtain ⟨v75, h75, s75⟩ := H 18 rfl _ rfl 75 rfl
            obtain ⟨hv75, hT⟩ : pwv (Two w0 · g gx D' D') (.bool false) wz v75 := s75
            subst hv75
            have g0 : az.tmps[75]? = some (.bool false) := h75
            obtain ⟨v79, h79, s79⟩ := H 22 rfl _ rfl 79 rfl
            obtain rfl : v79 = .pointer (some ⟨gx, 0, none⟩) := s79
            refine .inl ⟨wanted_yes _ rfl rfl rfl g0, ?_⟩
            exact gives_fieldP rfl (ev h79) (run_field7 gx 4 _) ⟨rfl, rfl⟩
          · intro az wz hk H
            rw [if_neg (by decide)]
            intro j hj hJ
            obtain ⟨v75, h75, s75⟩ := H 18 rfl _ rfl 75 rfl
            obtain ⟨hv75, hT⟩ : pwv (Two w0 · g gx D' D') (.bool false) wz v75 := s75
            subst hv75
            have g0 : az.tmps[75]? = some (.bool false) := h75
            obtain ⟨v80, h80, s80⟩ := H 23 rfl _ rfl 80 rfl
            obtain rfl : v80 = .pointer (some ⟨gx, 4, none⟩) := s80
            refine .inl ⟨wanted_yes _ rfl rfl rfl g0, ?_⟩
            obtain ⟨gd, gn, A, cc, gl, cl, AX, cx, rest, h1, h2, h3⟩ := hT
            exact gives_load_v rfl (ev h80) (load_int7 (h2.blk.cell (i := 4) rfl)) ⟨rfl, rfl⟩
          · intro az wz hk H
            rw [if_neg (by decide)]
            intro j hj hJ
            obtain ⟨v75, h75, s75⟩ := H 18 rfl _ rfl 75 rfl
            obtain ⟨hv75, hT⟩ : pwv (Two w0 · g gx D' D') (.bool false) wz v75 := s75
            subst hv75
            have g0 : az.tmps[75]? = some (.bool false) := h75
            obtain ⟨v77, h77, s77⟩ := H 20 rfl _ rfl 77 rfl
            obtain rfl : v77 = .int .i64 (D'.ops : Int) := s77
            obtain ⟨v81, h81, s81⟩ := H 24 rfl _ rfl 81 rfl
            obtain rfl : v81 = .int .i64 (D'.ops : Int) := s81
            refine .inl ⟨wanted_yes _ rfl rfl rfl g0, ?_⟩
            refine gives_of_run (w' := wz) (v := .bool false) ?_ ⟨rfl, rfl⟩
            simp [execOp, go_sem, h77, h81]
          · intro az wz hk H
            rw [if_neg (by decide)]
            intro j hj hJ
            obtain ⟨v75, h75, s75⟩ := H 18 rfl _ rfl 75 rfl
            obtain ⟨hv75, hT⟩ : pwv (Two w0 · g gx D' D') (.bool false) wz v75 := s75
            subst hv75
            obtain ⟨v82, h82, s82⟩ := H 25 rfl _ rfl 82 rfl
            obtain rfl : v82 = .bool false := s82
            refine .inl ⟨wanted_none rfl, ?_⟩
            refine gives_pick false rfl (ev h75) ?_
            rw [if_neg (by decide), ev h82]
            exact ⟨⟨rfl, hT⟩, rfl⟩
          · intro az wz hk H
            rw [if_neg (by decide)]
            intro j hj hJ
            obtain ⟨v83, h83, s83⟩ := H 26 rfl _ rfl 83 rfl
            obtain ⟨hv83, hT⟩ : pwv (Two w0 · g gx D' D') (.bool false) wz v83 := s83
            subst hv83
            refine .inl ⟨wanted_none rfl, ?_⟩
            refine gives_move rfl ?_
            rw [ev h83]
            exact ⟨⟨rfl, hT⟩, rfl⟩
          · intro az wz hk H
            rw [if_neg (by decide)]
            intro j hj hJ
            obtain ⟨v84, h84, s84⟩ := H 27 rfl _ rfl 84 rfl
            obtain ⟨hv84, hT⟩ : pwv (Two w0 · g gx D' D') (.bool false) wz v84 := s84
            subst hv84
            have g0 : az.tmps[84]? = some (.bool false) := h84
            refine .inl ⟨wanted_yes _ rfl rfl rfl g0, ?_⟩
            refine gives_move rfl ?_
            rw [(ev (show az.tmps[5]? = some (.pointer (some ⟨g, 0, none⟩)) from hk 5 rfl))]
            exact ⟨rfl, rfl⟩
          · intro az wz hk H
            rw [if_neg (by decide)]
            intro j hj hJ
            obtain ⟨v84, h84, s84⟩ := H 27 rfl _ rfl 84 rfl
            obtain ⟨hv84, hT⟩ : pwv (Two w0 · g gx D' D') (.bool false) wz v84 := s84
            subst hv84
            have g0 : az.tmps[84]? = some (.bool false) := h84
            obtain ⟨v85, h85, s85⟩ := H 28 rfl _ rfl 85 rfl
            obtain rfl : v85 = .pointer (some ⟨g, 0, none⟩) := s85
            refine .inl ⟨wanted_yes _ rfl rfl rfl g0, ?_⟩
            obtain ⟨gd, gn, A, cc, gl, cl, AX, cx, rest, h1, h2, h3⟩ := hT
            refine gives_call (args := #[.pointer (some ⟨g, 0, none⟩)]) rfl Try.call15 (by simp only [List.map_toArray, List.map_cons, List.map_nil, ev h85]) ?_
            exact (on_any h1).mono fun e w' ⟨he, hw⟩ => ⟨_, he, rfl, hw.symm⟩
          · intro az wz hk H
            rw [if_neg (by decide)]
            intro j hj hJ
            obtain ⟨v84, h84, s84⟩ := H 27 rfl _ rfl 84 rfl
            obtain ⟨hv84, hT⟩ : pwv (Two w0 · g gx D' D') (.bool false) wz v84 := s84
            subst hv84
            have g0 : az.tmps[84]? = some (.bool false) := h84
            refine .inl ⟨wanted_yes _ rfl rfl rfl g0, ?_⟩
            refine gives_move rfl ?_
            rw [(ev (show az.tmps[7]? = some (.pointer (some ⟨gx, 0, none⟩)) from hk 7 rfl))]
            exact ⟨rfl, rfl⟩
          · intro az wz hk H
            rw [if_neg (by decide)]
            intro j hj hJ
            obtain ⟨v84, h84, s84⟩ := H 27 rfl _ rfl 84 rfl
            obtain ⟨hv84, hT⟩ : pwv (Two w0 · g gx D' D') (.bool false) wz v84 := s84
            subst hv84
            have g0 : az.tmps[84]? = some (.bool false) := h84
            obtain ⟨v87, h87, s87⟩ := H 30 rfl _ rfl 87 rfl
            obtain rfl : v87 = .pointer (some ⟨gx, 0, none⟩) := s87
            refine .inl ⟨wanted_yes _ rfl rfl rfl g0, ?_⟩
            exact gives_nilCheck rfl (ev h87) ⟨rfl, rfl⟩
          · intro az wz hk H
            rw [if_neg (by decide)]
            intro j hj hJ
            obtain ⟨v84, h84, s84⟩ := H 27 rfl _ rfl 84 rfl
            obtain ⟨hv84, hT⟩ : pwv (Two w0 · g gx D' D') (.bool false) wz v84 := s84
            subst hv84
            have g0 : az.tmps[84]? = some (.bool false) := h84
            obtain ⟨v88, h88, s88⟩ := H 31 rfl _ rfl 88 rfl
            obtain rfl : v88 = .pointer (some ⟨gx, 0, none⟩) := s88
            refine .inl ⟨wanted_yes _ rfl rfl rfl g0, ?_⟩
            exact gives_fieldP rfl (ev h88) (run_field7 gx 3 _) ⟨rfl, rfl⟩
          · intro az wz hk H
            rw [if_neg (by decide)]
            intro j hj hJ
            obtain ⟨v84, h84, s84⟩ := H 27 rfl _ rfl 84 rfl
            obtain ⟨hv84, hT⟩ : pwv (Two w0 · g gx D' D') (.bool false) wz v84 := s84
            subst hv84
            have g0 : az.tmps[84]? = some (.bool false) := h84
            obtain ⟨v89, h89, s89⟩ := H 32 rfl _ rfl 89 rfl
            obtain rfl : v89 = .pointer (some ⟨gx, 3, none⟩) := s89
            refine .inl ⟨wanted_yes _ rfl rfl rfl g0, ?_⟩
            obtain ⟨gd, gn, A, cc, gl, cl, AX, cx, rest, h1, h2, h3⟩ := hT
            exact gives_load_v rfl (ev h89) (load_bool7 (h2.blk.cell (i := 3) rfl)) ⟨rfl, rfl⟩
          · intro az wz hk H
            rw [if_neg (by decide)]
            intro j hj hJ
            obtain ⟨v84, h84, s84⟩ := H 27 rfl _ rfl 84 rfl
            obtain ⟨hv84, hT⟩ : pwv (Two w0 · g gx D' D') (.bool false) wz v84 := s84
            subst hv84
            have g0 : az.tmps[84]? = some (.bool false) := h84
            obtain ⟨v86, h86, s86⟩ := H 29 rfl _ rfl 86 rfl
            obtain rfl : v86 = .bool (!D'.off) := s86
            obtain ⟨v90, h90, s90⟩ := H 33 rfl _ rfl 90 rfl
            obtain rfl : v90 = .bool D'.off := s90
            refine .inl ⟨wanted_yes _ rfl rfl rfl g0, ?_⟩
            refine gives_of_run (w' := wz) (v := .bool false) ?_ ⟨rfl, rfl⟩
            simp [execOp, go_sem, h86, h90, Try.underlying4]
          · intro az wz hk H
            rw [if_neg (by decide)]
            intro j hj hJ
            obtain ⟨v84, h84, s84⟩ := H 27 rfl _ rfl 84 rfl
            obtain ⟨hv84, hT⟩ : pwv (Two w0 · g gx D' D') (.bool false) wz v84 := s84
            subst hv84
            obtain ⟨v91, h91, s91⟩ := H 34 rfl _ rfl 91 rfl
            obtain rfl : v91 = .bool false := s91
            refine .inl ⟨wanted_none rfl, ?_⟩
            refine gives_pick false rfl (ev h84) ?_
            rw [if_neg (by decide), ev h91]
            exact ⟨rfl, rfl⟩
        · intro az wz hJ hd hs hv hsame
          have hT : Two w0 wz g gx D' D' := hJ
          obtain ⟨v57, h57, s57⟩ := hv 0 _ 57 rfl rfl
          obtain rfl : v57 = .pointer (some ⟨g, 0, none⟩) := s57
          obtain ⟨v58, h58, s58⟩ := hv 1 _ 58 rfl rfl
          obtain rfl : v58 = .pointer (some ⟨gx, 0, none⟩) := s58
          obtain ⟨v59, h59, s59⟩ := hv 2 _ 59 rfl rfl
          obtain rfl : v59 = .slice (some ⟨b, off, none⟩) m c := s59
          obtain ⟨v60, h60, s60⟩ := hv 3 _ 60 rfl rfl
          obtain rfl : v60 = .int .i64 (i : Int) := s60
          obtain ⟨v61, h61, s61⟩ := hv 4 _ 61 rfl rfl
          obtain rfl : v61 = .pointer (some ⟨b, off + i * 4, none⟩) := s61
          obtain ⟨v62, h62, s62⟩ := hv 5 _ 62 rfl rfl
          obtain rfl : v62 = .agg #[.int .u8 (y.k : Int), .int .i64 y.i, .slice y.P y.p.length y.cp, .slice y.Q y.q.length y.cq] := s62
          obtain ⟨v63, h63, s63⟩ := hv 6 _ 63 rfl rfl
          obtain rfl : v63 = .bool true := s63.1
          obtain ⟨v64, h64, s64⟩ := hv 7 _ 64 rfl rfl
          obtain rfl : v64 = .bool false := s64.1
          obtain ⟨v65, h65, s65⟩ := hv 8 _ 65 rfl rfl
          obtain rfl : v65 = .bool false := s65.1
          obtain ⟨v66, h66, s66⟩ := hv 9 _ 66 rfl rfl
          obtain rfl : v66 = .pointer (some ⟨g, 0, none⟩) := s66
          obtain ⟨v67, h67, s67⟩ := hv 10 _ 67 rfl rfl
          obtain rfl : v67 = .int .i64 (D'.pen.length : Int) := s67
          obtain ⟨v68, h68, s68⟩ := hv 11 _ 68 rfl rfl
          obtain rfl : v68 = .pointer (some ⟨gx, 0, none⟩) := s68
          obtain ⟨v69, h69, s69⟩ := hv 12 _ 69 rfl rfl
          obtain rfl : v69 = .pointer (some ⟨gx, 0, none⟩) := s69
          obtain ⟨v70, h70, s70⟩ := hv 13 _ 70 rfl rfl
          obtain rfl : v70 = .pointer (some ⟨gx, 1, none⟩) := s70
          obtain ⟨v71, h71, s71⟩ := hv 14 _ 71 rfl rfl
          obtain ⟨v72, h72, s72⟩ := hv 15 _ 72 rfl rfl
          obtain rfl : v72 = .int .i64 (D'.pen.length : Int) := s72
          obtain ⟨v73, h73, s73⟩ := hv 16 _ 73 rfl rfl
          obtain rfl : v73 = .bool false := s73
          obtain ⟨v74, h74, s74⟩ := hv 17 _ 74 rfl rfl
          obtain rfl : v74 = .bool false := s74.1
          obtain ⟨v75, h75, s75⟩ := hv 18 _ 75 rfl rfl
          obtain rfl : v75 = .bool false := s75.1
          obtain ⟨v76, h76, s76⟩ := hv 19 _ 76 rfl rfl
          obtain rfl : v76 = .pointer (some ⟨g, 0, none⟩) := s76
          obtain ⟨v77, h77, s77⟩ := hv 20 _ 77 rfl rfl
          obtain rfl : v77 = .int .i64 (D'.ops : Int) := s77
          obtain ⟨v78, h78, s78⟩ := hv 21 _ 78 rfl rfl
          obtain rfl : v78 = .pointer (some ⟨gx, 0, none⟩) := s78
          obtain ⟨v79, h79, s79⟩ := hv 22 _ 79 rfl rfl
          obtain rfl : v79 = .pointer (some ⟨gx, 0, none⟩) := s79
          obtain ⟨v80, h80, s80⟩ := hv 23 _ 80 rfl rfl
          obtain rfl : v80 = .pointer (some ⟨gx, 4, none⟩) := s80
          obtain ⟨v81, h81, s81⟩ := hv 24 _ 81 rfl rfl
          obtain rfl : v81 = .int .i64 (D'.ops : Int) := s81
          obtain ⟨v82, h82, s82⟩ := hv 25 _ 82 rfl rfl
          obtain rfl : v82 = .bool false := s82
          obtain ⟨v83, h83, s83⟩ := hv 26 _ 83 rfl rfl
          obtain rfl : v83 = .bool false := s83.1
          obtain ⟨v84, h84, s84⟩ := hv 27 _ 84 rfl rfl
          obtain rfl : v84 = .bool false := s84.1
          obtain ⟨v85, h85, s85⟩ := hv 28 _ 85 rfl rfl
          obtain rfl : v85 = .pointer (some ⟨g, 0, none⟩) := s85
          obtain ⟨v86, h86, s86⟩ := hv 29 _ 86 rfl rfl
          obtain rfl : v86 = .bool (!D'.off) := s86
          obtain ⟨v87, h87, s87⟩ := hv 30 _ 87 rfl rfl
          obtain rfl : v87 = .pointer (some ⟨gx, 0, none⟩) := s87
          obtain ⟨v88, h88, s88⟩ := hv 31 _ 88 rfl rfl
          obtain rfl : v88 = .pointer (some ⟨gx, 0, none⟩) := s88
          obtain ⟨v89, h89, s89⟩ := hv 32 _ 89 rfl rfl
          obtain rfl : v89 = .pointer (some ⟨gx, 3, none⟩) := s89
          obtain ⟨v90, h90, s90⟩ := hv 33 _ 90 rfl rfl
          obtain rfl : v90 = .bool D'.off := s90
          obtain ⟨v91, h91, s91⟩ := hv 34 _ 91 rfl rfl
          obtain rfl : v91 = .bool false := s91
          obtain ⟨v92, h92, s92⟩ := hv 35 _ 92 rfl rfl
          obtain rfl : v92 = .bool false := s92
          have hfr := frame_last (k := 36) [(57, .pointer (some ⟨g, 0, none⟩)), (58, .pointer (some ⟨gx, 0, none⟩)), (59, .slice (some ⟨b, off, none⟩) m c), (60, .int .i64 (i : Int)), (61, .pointer (some ⟨b, off + i * 4, none⟩)), (62, .agg #[.int .u8 (y.k : Int), .int .i64 y.i, .slice y.P y.p.length y.cp, .slice y.Q y.q.length y.cq]), (63, .bool true), (64, .bool false), (65, .bool false), (66, .pointer (some ⟨g, 0, none⟩)), (67, .int .i64 (D'.pen.length : Int)), (68, .pointer (some ⟨gx, 0, none⟩)), (69, .pointer (some ⟨gx, 0, none⟩)), (70, .pointer (some ⟨gx, 1, none⟩)), (71, v71), (72, .int .i64 (D'.pen.length : Int)), (73, .bool false), (74, .bool false), (75, .bool false), (76, .pointer (some ⟨g, 0, none⟩)), (77, .int .i64 (D'.ops : Int)), (78, .pointer (some ⟨gx, 0, none⟩)), (79, .pointer (some ⟨gx, 0, none⟩)), (80, .pointer (some ⟨gx, 4, none⟩)), (81, .int .i64 (D'.ops : Int)), (82, .bool false), (83, .bool false), (84, .bool false), (85, .pointer (some ⟨g, 0, none⟩)), (86, .bool (!D'.off)), (87, .pointer (some ⟨gx, 0, none⟩)), (88, .pointer (some ⟨gx, 0, none⟩)), (89, .pointer (some ⟨gx, 3, none⟩)), (90, .bool D'.off), (91, .bool false), (92, .bool false)] hs (by kernel_rfl) (by simp only [List.forall_mem_cons, List.not_mem_nil, false_implies, implies_true, and_true]; exact ⟨h57, h58, h59, h60, h61, h62, h63, h64, h65, h66, h67, h68, h69, h70, h71, h72, h73, h74, h75, h76, h77, h78, h79, h80, h81, h82, h83, h84, h85, h86, h87, h88, h89, h90, h91, h92⟩) (fun t' h => hsame t' fun i o ho => h i o (by intro e; subst e; cases ho) (by simpa using ho))
          simp only [List.foldl_cons, List.foldl_nil, List.setIfInBounds_toArray, List.set_cons_succ, List.set_cons_zero] at hfr
          obtain ⟨tm, df⟩ := az
          simp only [] at hfr hd
          subst hfr hd
          clear hv hsame hs h57 h58 h59 h60 h61 h62 h63 h64 h65 h66 h67 h68 h69 h70 h71 h72 h73 h74 h75 h76 h77 h78 h79 h80 h81 h82 h83 h84 h85 h86 h87 h88 h89 h90 h91 h92
          refine hK _ _ ?_
          have T3 := hide hT
          clear hJ hT
          go_wp2
          exact ⟨⟨i + 1, D', by omega, by omega, by go_num, hide ⟨T3.out, HBD'.out.1, by have h1 := HBD'.out.2.1; have h2 := HST.out.2.2.1; omega, by have h1 := HBD'.out.2.2.1; have h2 := HST.out.2.2.2.1; omega, HBD'.out.2.2.2.trans HST.out.2.2.2.2⟩⟩, by simp [intOf]; omega⟩
      · have h80i : ¬ (i : Int) < 80 := by omega
        have HST0 := HST.out
        have KR := hide (show Calls Try.prog 16 #[.pointer (some ⟨g, 0, none⟩), .slice none 0 0] _ _ from HST0.1.call (D' := D.fallen []) fun gd gn A c h1 => restart_any (ck := 0) (P := none) h1 HST0.2.1.ok HST0.2.1.pen HST0.1.size [] (fun _ _ => fun h => absurd rfl h))
        have KS := hide (fun (W : World) (hW : Two w0 W g gx (D.fallen []) D) => hW.rcall (X' := D.fallen []) fun gl cl A c rest h2 => rrestart_any (ck := 0) (P := none) h2 HST0.2.1.ok HST0.2.1.pen hW.size [] 0 rfl (fun _ _ => fun h => absurd rfl h))
        obtain ⟨DF, HDF⟩ : ∃ DF, Hid (D.fallen [] = DF) := ⟨_, hide rfl⟩
        have HBF := hide (fallen_bd HST0.2.1 [])
        rw [HDF.out] at KR KS HBF
        clear HST0
        go_upto_region 17 with (first
          | (go_at_call 16; (with_reducible refine KR.out.mono ?_); rintro e w3 ⟨rfl, ht3, -⟩; have T3 := hide ht3)
          | (go_at_call 17; (with_reducible refine (KS.out _ T3.out).mono ?_); rintro e w4 ⟨rfl, ht4, -⟩; have T4 := hide ht4))
        clear KR KS T3
        go_loopw [9] (fun iv wr => ∃ q : Nat, q ≤ n ∧ q ≤ 40 ∧ iv = .int .i64 (q : Int) ∧ Hid (Two w0 wr g gx DF DF)) (fun iv _ => n - (intOf iv).toNat)
        case atStart => exact ⟨0, Nat.zero_le _, Nat.zero_le _, rfl, T4⟩
        case round =>
          obtain ⟨q, hq, hq40, rfl, HT5⟩ := hrel
          obtain ⟨wq, HWQ⟩ := worldT HT5
          subst HWQ
          by_cases hqn : q < n
          · have hqi : (q : Int) < (n : Int) := by omega
            by_cases hq4 : q < 40
            · have hq4i : (q : Int) < 40 := by omega
              have KRD := hide (show Calls Try.prog 18 #[.pointer (some ⟨g, 0, none⟩), .int .i64 (q : Int)] wq (fun e w' => ∃ v, e = .returned (.tuple #[v, .int .i64 (gE DF (q : Int))]) ∧ Bytes (gB DF (q : Int)) w' v ∧ Ext wq w') from by
                obtain ⟨gd, gn, A, c, gl, cl, AX, cx, rest, h1, h2, h3⟩ := HT5.out
                exact read_uni h1 HBF.out.1 (q : Int))
              have KGT := hide (fun (W : World) (hW : Ext wq W) => (show Calls Try.prog 19 #[.pointer (some ⟨gx, 0, none⟩), .int .i64 (q : Int)] W (Same W (.tuple #[.string ⟨(gB DF (q : Int)).toArray⟩, .int .i64 (gE DF (q : Int))])) from by
                obtain ⟨gd, gn, A, c, gl, cl, AX, cx, rest, h1, h2, h3⟩ := HT5.out.ext hW
                exact get_uni h2 HBF.out.1 (q : Int)))
              obtain ⟨er, HER⟩ : ∃ er, Hid (gE DF (q : Int) = er) := ⟨_, hide rfl⟩
              obtain ⟨by_, HBY⟩ : ∃ u, Hid (gB DF (q : Int) = u) := ⟨_, hide rfl⟩
              rw [HER.out, HBY.out] at KRD KGT
              go_upto_region 21 with (first
                | (go_at_call 18; (with_reducible refine KRD.out.mono ?_); rintro e w5 ⟨v5, rfl, hb5, hx5⟩; have X5 := hide hx5; have BY5 := hide hb5)
                | (go_at_call 19; (with_reducible refine (KGT.out _ X5.out).mono ?_); rintro e w6 ⟨rfl, hw6⟩; have hw6 := hw6.symm; subst hw6))
              have T6 := hide (HT5.out.ext X5.out)
              go_wp2_with (go_loud (refine wpList_str rfl (.tmp 118) rfl by_ BY5.out ?_))
              exact ⟨⟨q + 1, by omega, by omega, by go_num, T6⟩, by simp [intOf]; omega⟩
            · have hq4i : ¬ (q : Int) < 40 := by omega
              go_wp2
              go_ret
              exact ⟨rfl, HT5.out.ex.below0 X1.out⟩
          · have hqi : ¬ (q : Int) < (n : Int) := by omega
            go_wp2
            go_ret
            exact ⟨rfl, HT5.out.ex.below0 X1.out⟩
    · have hii : ¬ (i : Int) < (m : Int) := by omega
      have HST0 := HST.out
      have KR := hide (show Calls Try.prog 16 #[.pointer (some ⟨g, 0, none⟩), .slice none 0 0] _ _ from HST0.1.call (D' := D.fallen []) fun gd gn A c h1 => restart_any (ck := 0) (P := none) h1 HST0.2.1.ok HST0.2.1.pen HST0.1.size [] (fun _ _ => fun h => absurd rfl h))
      have KS := hide (fun (W : World) (hW : Two w0 W g gx (D.fallen []) D) => hW.rcall (X' := D.fallen []) fun gl cl A c rest h2 => rrestart_any (ck := 0) (P := none) h2 HST0.2.1.ok HST0.2.1.pen hW.size [] 0 rfl (fun _ _ => fun h => absurd rfl h))
      obtain ⟨DF, HDF⟩ : ∃ DF, Hid (D.fallen [] = DF) := ⟨_, hide rfl⟩
      have HBF := hide (fallen_bd HST0.2.1 [])
      rw [HDF.out] at KR KS HBF
      clear HST0
      go_upto_region 17 with (first
        | (go_at_call 16; (with_reducible refine KR.out.mono ?_); rintro e w3 ⟨rfl, ht3, -⟩; have T3 := hide ht3)
        | (go_at_call 17; (with_reducible refine (KS.out _ T3.out).mono ?_); rintro e w4 ⟨rfl, ht4, -⟩; have T4 := hide ht4))
      clear KR KS T3
      go_loopw [9] (fun iv wr => ∃ q : Nat, q ≤ n ∧ q ≤ 40 ∧ iv = .int .i64 (q : Int) ∧ Hid (Two w0 wr g gx DF DF)) (fun iv _ => n - (intOf iv).toNat)
      case atStart => exact ⟨0, Nat.zero_le _, Nat.zero_le _, rfl, T4⟩
      case round =>
        obtain ⟨q, hq, hq40, rfl, HT5⟩ := hrel
        obtain ⟨wq, HWQ⟩ := worldT HT5
        subst HWQ
        by_cases hqn : q < n
        · have hqi : (q : Int) < (n : Int) := by omega
          by_cases hq4 : q < 40
          · have hq4i : (q : Int) < 40 := by omega
            have KRD := hide (show Calls Try.prog 18 #[.pointer (some ⟨g, 0, none⟩), .int .i64 (q : Int)] wq (fun e w' => ∃ v, e = .returned (.tuple #[v, .int .i64 (gE DF (q : Int))]) ∧ Bytes (gB DF (q : Int)) w' v ∧ Ext wq w') from by
              obtain ⟨gd, gn, A, c, gl, cl, AX, cx, rest, h1, h2, h3⟩ := HT5.out
              exact read_uni h1 HBF.out.1 (q : Int))
            have KGT := hide (fun (W : World) (hW : Ext wq W) => (show Calls Try.prog 19 #[.pointer (some ⟨gx, 0, none⟩), .int .i64 (q : Int)] W (Same W (.tuple #[.string ⟨(gB DF (q : Int)).toArray⟩, .int .i64 (gE DF (q : Int))])) from by
              obtain ⟨gd, gn, A, c, gl, cl, AX, cx, rest, h1, h2, h3⟩ := HT5.out.ext hW
              exact get_uni h2 HBF.out.1 (q : Int)))
            obtain ⟨er, HER⟩ : ∃ er, Hid (gE DF (q : Int) = er) := ⟨_, hide rfl⟩
            obtain ⟨by_, HBY⟩ : ∃ u, Hid (gB DF (q : Int) = u) := ⟨_, hide rfl⟩
            rw [HER.out, HBY.out] at KRD KGT
            go_upto_region 21 with (first
              | (go_at_call 18; (with_reducible refine KRD.out.mono ?_); rintro e w5 ⟨v5, rfl, hb5, hx5⟩; have X5 := hide hx5; have BY5 := hide hb5)
              | (go_at_call 19; (with_reducible refine (KGT.out _ X5.out).mono ?_); rintro e w6 ⟨rfl, hw6⟩; have hw6 := hw6.symm; subst hw6))
            have T6 := hide (HT5.out.ext X5.out)
            go_wp2_with (go_loud (refine wpList_str rfl (.tmp 118) rfl by_ BY5.out ?_))
            exact ⟨⟨q + 1, by omega, by omega, by go_num, T6⟩, by simp [intOf]; omega⟩
          · have hq4i : ¬ (q : Int) < 40 := by omega
            go_wp2
            go_ret
            exact ⟨rfl, HT5.out.ex.below0 X1.out⟩
        · have hqi : ¬ (q : Int) < (n : Int) := by omega
          go_wp2
          go_ret
          exact ⟨rfl, HT5.out.ex.below0 X1.out⟩
theorem diskPlays_walk (i : Int) (A : Option Addr) (L : List Ac) (m c : Nat) (w : World) (hA : RdA w A L) (hm : L.length = m) (hml : m ≤ 4398046511104) (hy : ∀ y ∈ L, AcOk w y) : Calls Try.prog 3 #[.int .i64 i, .slice A m c] w (Awake w) := by
  by_cases hi : i < 1 ∨ 4096 < i
  · exact plays_bad i A m c w hi
  · obtain ⟨n, rfl⟩ : ∃ n : Nat, i = (n : Int) := ⟨i.toNat, by omega⟩
    exact plays_good n (by omega) (by omega) A L m c w hA hm hml hy
end Go.Proofs.Ytmabminjmcjafaa
