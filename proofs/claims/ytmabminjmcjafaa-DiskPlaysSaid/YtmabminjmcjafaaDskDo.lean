/-
  The law's do: a call at both disks.
-/
import Derived.Test.YtmabminjmcjafaaDskWu
import Derived.Test.YtmabminjmcjafaaChi
namespace Go.Proofs.Ytmabminjmcjafaa
open Go.RowKit

/-- Both disks, as they are. -/
def Two (w0 w : World) (g gx : Nat) (D X : Dk) : Prop := ∃ gd gn A c gl cl AX cx rest, DiskAt w0.heap.size w g gd gn A c D ∧ RefAt w0.heap.size w gx gl cl AX cx rest X ∧ Ext w0 w
/-- Blocks of bytes and of calls stay. -/
def StayB (w w' : World) : Prop := ∀ (k : Nat) (t : TypeId) (vs : List Value), (t = 5 ∨ t = 35) → Rw w k t vs → Rw w' k t vs
theorem StayB.refl (w : World) : StayB w w := fun _ _ _ _ h => h
theorem StayB.trans {a b c : World} (h : StayB a b) (k : StayB b c) : StayB a c := fun q t vs ht hr => k q t vs ht (h q t vs ht hr)
theorem StayB.ext {a b : World} (h : Ext a b) : StayB a b := fun _ _ _ _ hr => hr.ext h
section
variable {w0 w w' : World} {g gx : Nat} {D X D' : Dk}
theorem Two.ext (h : Two w0 w g gx D X) (hx : Ext w w') : Two w0 w' g gx D X := by
  obtain ⟨gd, gn, A, c, gl, cl, AX, cx, rest, h1, h2, h3⟩ := h
  exact ⟨gd, gn, A, c, gl, cl, AX, cx, rest, h1.ext hx, h2.ext hx, h3.trans hx⟩
theorem Two.ex (h : Two w0 w g gx D X) : Ext w0 w := by
  obtain ⟨_, _, _, _, _, _, _, _, _, _, _, h3⟩ := h
  exact h3
/-- A call of the program's disk. -/
theorem Two.call (h : Two w0 w g gx D X) {f : FuncId} {args : Array Value} {r : Value} (K : ∀ gd gn A c, DiskAt w0.heap.size w g gd gn A c D → Calls Try.prog f args w (DPost w0.heap.size g gd gn w A r D')) :
    Calls Try.prog f args w (fun e w' => e = .returned r ∧ Two w0 w' g gx D' X ∧ StayB w w') := by
  obtain ⟨gd, gn, A, c, gl, cl, AX, cx, rest, h1, h2, h3⟩ := h
  refine (K gd gn A c h1).mono fun e w' hp => ?_
  obtain ⟨A', c', rfl, hd, hf, hn⟩ := hp
  refine ⟨rfl, ⟨gd, gn, A', c', gl, cl, AX, cx, rest, hd, h2.dfr h1 hf, Dfr.grown h3 h1 hf⟩, fun q t vs ht hr => (hf.other q hr.lt (fun e => ?_) (fun e => ?_) (fun e => ?_) (fun a ha => hr.apart_own h1.pen (by rcases ht with rfl | rfl <;> decide) a ha)).trans hr⟩
  · subst e; exact hr.apart h1.blk (by rcases ht with rfl | rfl <;> decide) rfl
  · subst e; exact hr.apart h1.dur (by rcases ht with rfl | rfl <;> decide) rfl
  · subst e; exact hr.apart h1.new (by rcases ht with rfl | rfl <;> decide) rfl
/-- A call of the document's. -/
theorem Two.rcall (h : Two w0 w g gx D X) {X' : Dk} {f : FuncId} {args : Array Value} {r : Value} (K : ∀ gl cl A c rest, RefAt w0.heap.size w gx gl cl A c rest X → Calls Try.prog f args w (UPost w0.heap.size gx w r X')) :
    Calls Try.prog f args w (fun e w' => e = .returned r ∧ Two w0 w' g gx D X' ∧ StayB w w') := by
  obtain ⟨gd, gn, A, c, gl, cl, AX, cx, rest, h1, h2, h3⟩ := h
  refine (K gl cl AX cx rest h2).mono fun e w' hp => ?_
  obtain ⟨gl', cl', A', c', rest', rfl, hr, hu⟩ := hp
  exact ⟨rfl, ⟨gd, gn, A, c, gl', cl', A', c', rest', h1.ufr hu, hr, Below.trans h3 hu.below⟩, fun q t vs ht hr => hu.stay q t vs (by rcases ht with rfl | rfl <;> decide) (by rcases ht with rfl | rfl <;> decide) (by rcases ht with rfl | rfl <;> decide) hr⟩
theorem Two.size (h : Two w0 w g gx D X) : w0.heap.size ≤ w.heap.size := h.ex.size
end
/-- What a call leaves. -/
def DoP (w0 : World) (g gx : Nat) (D' : Dk) (e : Ending) (w' : World) : Prop := e = .returned (.bool true) ∧ Two w0 w' g gx D' D'
section
variable {w0 w : World} {g gx np cp nk ck : Nat} {D : Dk} {Pp Pk : Option Addr} {p : List UInt8} {keep : List Bool}
set_option maxRecDepth 20000 in
set_option maxHeartbeats 3200000 in
theorem do_2 (hT : Two w0 w g gx D D) (b : Bd D) (hpn : D.pen.length < 900000) (hop : D.ops < 900000) (k : Nat) (hk : k < 256) (i : Int) (hi0 : -9223372036854775808 ≤ i) (hi1 : i < 9223372036854775808) (hP : ∀ W, Ext w0 W → Rd W Pp p) (hnp : p.length = np) (hnpl : np ≤ 140737488351232) (hK : ∀ W, Ext w0 W → RdB W Pk keep) (hnk : keep.length = nk) (hkm : k % 6 = 2) : Calls Try.prog 12 #[.pointer (some ⟨g, 0, none⟩), .pointer (some ⟨gx, 0, none⟩), .agg #[.int .u8 (k : Int), .int .i64 i, .slice Pp np cp, .slice Pk nk ck]] w (DoP w0 g gx (D)) := by
  have hrem : (k : Int) % 6 = 2 := by omega
  obtain ⟨W1, hX1, hB1, hgg⟩ : ∃ W, Ext w W ∧ Rw W w.heap.size 35 [.int .u8 (k : Int), .int .i64 i, .slice Pp np cp, .slice Pk nk ck] ∧ w.alloc (.cells #[.int .u8 (k : Int), .int .i64 i, .slice Pp np cp, .slice Pk nk ck] 35) = W := ⟨_, Ext.alloc _ _, Rw.new _ _ _, rfl⟩
  have T1 := hide (hT.ext hX1)
  have B1 := hide hB1
  have HBD := hide b
  have HLIM := hide (show D.pen.length < 900000 ∧ D.ops < 900000 from ⟨hpn, hop⟩)
  have HPP := hide hP
  have HKK := hide hK
  have HNP := hide hnp
  have HNK := hide hnk
  clear hX1 hB1 hT b hpn hop hP hK hnp hnk hkm
  have KR := hide (show Calls Try.prog 18 #[.pointer (some ⟨g, 0, none⟩), .int .i64 i] W1 (fun e w' => ∃ v, e = .returned (.tuple #[v, .int .i64 (gE D i)]) ∧ Bytes (gB D i) w' v ∧ Ext W1 w') from by
    obtain ⟨gd, gn, A, c, gl, cl, AX, cx, rest, h1, h2, h3⟩ := T1.out
    exact read_uni h1 HBD.out i)
  have KG := hide (fun (W : World) (hW : Ext W1 W) => (show Calls Try.prog 19 #[.pointer (some ⟨gx, 0, none⟩), .int .i64 i] W (Same W (.tuple #[.string ⟨(gB D i).toArray⟩, .int .i64 (gE D i)])) from by
    obtain ⟨gd, gn, A, c, gl, cl, AX, cx, rest, h1, h2, h3⟩ := T1.out.ext hW
    exact get_uni h2 HBD.out i))
  obtain ⟨er, HER⟩ : ∃ er, Hid (gE D i = er) := ⟨_, hide rfl⟩
  obtain ⟨by_, HBY⟩ : ∃ u, Hid (gB D i = u) := ⟨_, hide rfl⟩
  rw [HER.out, HBY.out] at KR KG
  go_enter Try.func12, Try.ntmps12
  go_upto_region 1 with fail
  clear hgg
  have a0 := B1.out.cell (i := 0) rfl
  have a1 := B1.out.cell (i := 1) rfl
  have a2 := B1.out.cell (i := 2) rfl
  have a3 := B1.out.cell (i := 3) rfl
  go_upto_region 9 with (first
    | (go_at_call 18; (with_reducible refine KR.out.mono ?_); rintro e w2 ⟨v2, rfl, hb2, hx2⟩; have X2 := hide hx2; have BY2 := hide hb2; have B2 := hide (B1.out.ext hx2); have b1 := B2.out.cell (i := 1) rfl)
    | (go_at_call 19; (with_reducible refine (KG.out _ X2.out).mono ?_); rintro e w3 ⟨rfl, hw3⟩; have hw3 := hw3.symm; subst hw3))
  go_wp2_with (refine wpList_str (by rfl) (.tmp 63) rfl by_ BY2.out ?_)
  go_ret
  exact ⟨rfl, T1.out.ext X2.out⟩
set_option maxRecDepth 20000 in
set_option maxHeartbeats 3200000 in
theorem do_3 (hT : Two w0 w g gx D D) (b : Bd D) (hpn : D.pen.length < 900000) (hop : D.ops < 900000) (k : Nat) (hk : k < 256) (i : Int) (hi0 : -9223372036854775808 ≤ i) (hi1 : i < 9223372036854775808) (hP : ∀ W, Ext w0 W → Rd W Pp p) (hnp : p.length = np) (hnpl : np ≤ 140737488351232) (hK : ∀ W, Ext w0 W → RdB W Pk keep) (hnk : keep.length = nk) (hkm : k % 6 = 3) : Calls Try.prog 12 #[.pointer (some ⟨g, 0, none⟩), .pointer (some ⟨gx, 0, none⟩), .agg #[.int .u8 (k : Int), .int .i64 i, .slice Pp np cp, .slice Pk nk ck]] w (DoP w0 g gx (sD D)) := by
  have hrem : (k : Int) % 6 = 3 := by omega
  obtain ⟨W1, hX1, hB1, hgg⟩ : ∃ W, Ext w W ∧ Rw W w.heap.size 35 [.int .u8 (k : Int), .int .i64 i, .slice Pp np cp, .slice Pk nk ck] ∧ w.alloc (.cells #[.int .u8 (k : Int), .int .i64 i, .slice Pp np cp, .slice Pk nk ck] 35) = W := ⟨_, Ext.alloc _ _, Rw.new _ _ _, rfl⟩
  have T1 := hide (hT.ext hX1)
  have B1 := hide hB1
  have HBD := hide b
  have HLIM := hide (show D.pen.length < 900000 ∧ D.ops < 900000 from ⟨hpn, hop⟩)
  have HPP := hide hP
  have HKK := hide hK
  have HNP := hide hnp
  have HNK := hide hnk
  clear hX1 hB1 hT b hpn hop hP hK hnp hnk hkm
  have KS := hide (T1.out.call (D' := sD D) fun gd gn A c h1 => sync_uni h1 HBD.out T1.out.size)
  have KT := hide (fun (W : World) (hW : Two w0 W g gx (sD D) D) => hW.rcall (X' := sD D) fun gl cl A c rest h2 => rsync_uni h2 HBD.out hW.size)
  obtain ⟨er, HER⟩ : ∃ er, Hid (sE D = er) := ⟨_, hide rfl⟩
  have HDB := hide (sD_bd HBD.out HLIM.out.2)
  rw [HER.out] at KS KT
  go_enter Try.func12, Try.ntmps12
  go_upto_region 1 with fail
  clear hgg
  have a0 := B1.out.cell (i := 0) rfl
  have a1 := B1.out.cell (i := 1) rfl
  have a2 := B1.out.cell (i := 2) rfl
  have a3 := B1.out.cell (i := 3) rfl
  go_wp2_with (first
    | (go_at_call 22; (with_reducible refine KS.out.mono ?_); rintro e w2 ⟨rfl, ht2, -⟩; have T2 := hide ht2)
    | (go_at_call 25; (with_reducible refine (KT.out _ T2.out).mono ?_); rintro e w3 ⟨rfl, ht3, -⟩; have T3 := hide ht3))
  go_ret
  exact ⟨rfl, T3.out⟩
set_option maxRecDepth 20000 in
set_option maxHeartbeats 3200000 in
theorem do_4 (hT : Two w0 w g gx D D) (b : Bd D) (hpn : D.pen.length < 900000) (hop : D.ops < 900000) (k : Nat) (hk : k < 256) (i : Int) (hi0 : -9223372036854775808 ≤ i) (hi1 : i < 9223372036854775808) (hP : ∀ W, Ext w0 W → Rd W Pp p) (hnp : p.length = np) (hnpl : np ≤ 140737488351232) (hK : ∀ W, Ext w0 W → RdB W Pk keep) (hnk : keep.length = nk) (hkm : k % 6 = 4) : Calls Try.prog 12 #[.pointer (some ⟨g, 0, none⟩), .pointer (some ⟨gx, 0, none⟩), .agg #[.int .u8 (k : Int), .int .i64 i, .slice Pp np cp, .slice Pk nk ck]] w (DoP w0 g gx (if i < 0 then D else { D with arm := i.toNat })) := by
  have hrem : (k : Int) % 6 = 4 := by omega
  obtain ⟨W1, hX1, hB1, hgg⟩ : ∃ W, Ext w W ∧ Rw W w.heap.size 35 [.int .u8 (k : Int), .int .i64 i, .slice Pp np cp, .slice Pk nk ck] ∧ w.alloc (.cells #[.int .u8 (k : Int), .int .i64 i, .slice Pp np cp, .slice Pk nk ck] 35) = W := ⟨_, Ext.alloc _ _, Rw.new _ _ _, rfl⟩
  have T1 := hide (hT.ext hX1)
  have B1 := hide hB1
  have HBD := hide b
  have HLIM := hide (show D.pen.length < 900000 ∧ D.ops < 900000 from ⟨hpn, hop⟩)
  have HPP := hide hP
  have HKK := hide hK
  have HNP := hide hnp
  have HNK := hide hnk
  clear hX1 hB1 hT b hpn hop hP hK hnp hnk hkm
  by_cases hneg : i < 0
  · rw [if_pos hneg]
    have KM := hide (show Calls Try.prog 23 #[.pointer (some ⟨g, 0, none⟩), .int .i64 i] W1 (Same W1 (.int .i64 1)) from by
      obtain ⟨gd, gn, A, c, gl, cl, AX, cx, rest, h1, h2, h3⟩ := T1.out
      exact arm_neg h1 i hneg)
    go_enter Try.func12, Try.ntmps12
    go_upto_region 1 with fail
    clear hgg
    have a0 := B1.out.cell (i := 0) rfl
    have a1 := B1.out.cell (i := 1) rfl
    have a2 := B1.out.cell (i := 2) rfl
    have a3 := B1.out.cell (i := 3) rfl
    go_wp2_with (go_at_call 23; (with_reducible refine KM.out.mono ?_); rintro e w2 ⟨rfl, hw2⟩; have hw2 := hw2.symm; subst hw2)
    go_ret
    exact ⟨rfl, T1.out⟩
  · rw [if_neg hneg]
    obtain ⟨m, rfl⟩ : ∃ m : Nat, i = (m : Int) := ⟨i.toNat, by omega⟩
    rw [Int.toNat_natCast]
    have KM := hide (T1.out.call (D' := { D with arm := m }) fun gd gn A c h1 => arm_any h1 m)
    have HMB := hide (show m < 9223372036854775808 from by omega)
    clear hi0 hi1
    go_enter Try.func12, Try.ntmps12
    go_upto_region 1 with fail
    clear hgg
    have a0 := B1.out.cell (i := 0) rfl
    have a1 := B1.out.cell (i := 1) rfl
    have a2 := B1.out.cell (i := 2) rfl
    have a3 := B1.out.cell (i := 3) rfl
    go_upto_region 16 with (go_at_call 23; (with_reducible refine KM.out.mono ?_); rintro e w2 ⟨rfl, ht2, hs2⟩; have T2 := hide ht2; have B2 := hide (hs2 _ _ _ (.inr rfl) B1.out); have b1 := B2.out.cell (i := 1) rfl; clear ht2 hs2)
    obtain ⟨gd, gn, A, c, gl, cl, AX, cx, rest, h1, h2, h3⟩ := T2.out
    have x2 := h2.blk.cell (i := 2) rfl
    have f2 := h2.blk.frozen 2
    have R3 := h2.put 2 (.int .i64 (m : Int)) { D with arm := m } rfl rfl rfl
    have T3 := hide (show Two w0 (w2.setCell ⟨gx, 2, none⟩ (.int .i64 (m : Int))) g gx { D with arm := m } { D with arm := m } from ⟨gd, gn, A, c, gl, cl, AX, cx, rest, h1.ufr (Ufr.cell h2 2 _), R3, Below.trans h3 (Ufr.cell h2 2 (.int .i64 (m : Int))).below⟩)
    clear h1 h2 h3 R3
    go_wp2
    go_ret
    exact ⟨rfl, T3.out⟩
set_option maxRecDepth 20000 in
set_option maxHeartbeats 3200000 in
theorem do_5 (hT : Two w0 w g gx D D) (b : Bd D) (hpn : D.pen.length < 900000) (hop : D.ops < 900000) (k : Nat) (hk : k < 256) (i : Int) (hi0 : -9223372036854775808 ≤ i) (hi1 : i < 9223372036854775808) (hP : ∀ W, Ext w0 W → Rd W Pp p) (hnp : p.length = np) (hnpl : np ≤ 140737488351232) (hK : ∀ W, Ext w0 W → RdB W Pk keep) (hnk : keep.length = nk) (hkm : k % 6 = 5) : Calls Try.prog 12 #[.pointer (some ⟨g, 0, none⟩), .pointer (some ⟨gx, 0, none⟩), .agg #[.int .u8 (k : Int), .int .i64 i, .slice Pp np cp, .slice Pk nk ck]] w (DoP w0 g gx (D.fallen keep)) := by
  have hrem : (k : Int) % 6 = 5 := by omega
  obtain ⟨W1, hX1, hB1, hgg⟩ : ∃ W, Ext w W ∧ Rw W w.heap.size 35 [.int .u8 (k : Int), .int .i64 i, .slice Pp np cp, .slice Pk nk ck] ∧ w.alloc (.cells #[.int .u8 (k : Int), .int .i64 i, .slice Pp np cp, .slice Pk nk ck] 35) = W := ⟨_, Ext.alloc _ _, Rw.new _ _ _, rfl⟩
  have T1 := hide (hT.ext hX1)
  have B1 := hide hB1
  have HBD := hide b
  have HLIM := hide (show D.pen.length < 900000 ∧ D.ops < 900000 from ⟨hpn, hop⟩)
  have HPP := hide hP
  have HKK := hide hK
  have HNP := hide hnp
  have HNK := hide hnk
  clear hX1 hB1 hT b hpn hop hP hK hnp hnk hkm
  have KR := hide (T1.out.rcall (X' := D.fallen keep) fun gl cl A c rest h2 => rrestart_any (ck := ck) h2 HBD.out.ok HBD.out.pen T1.out.size keep nk HNK.out (fun W hW => HKK.out W (Below.trans T1.out.ex hW.below)))
  have KS := hide (fun (W : World) (hW : Two w0 W g gx D (D.fallen keep)) => hW.call (D' := D.fallen keep) fun gd gn A c h1 => (show Calls Try.prog 16 #[.pointer (some ⟨g, 0, none⟩), .slice Pk nk ck] W (DPost w0.heap.size g gd gn W A (.int .i64 0) (D.fallen keep)) from by
    have h := restart_any (ck := ck) (P := Pk) h1 HBD.out.ok HBD.out.pen hW.size keep (fun W2 hf => HKK.out W2 (Dfr.grown hW.ex h1 hf))
    rw [HNK.out] at h
    exact h))
  have HDB := hide (fallen_bd HBD.out keep)
  go_enter Try.func12, Try.ntmps12
  go_upto_region 1 with fail
  clear hgg
  have a0 := B1.out.cell (i := 0) rfl
  have a1 := B1.out.cell (i := 1) rfl
  have a2 := B1.out.cell (i := 2) rfl
  have a3 := B1.out.cell (i := 3) rfl
  go_wp2_with (first
    | (go_at_call 17; (with_reducible refine KR.out.mono ?_); rintro e w2 ⟨rfl, ht2, hs2⟩; have T2 := hide ht2; have B2 := hide (hs2 _ _ _ (.inr rfl) B1.out); have b3 := B2.out.cell (i := 3) rfl; clear ht2 hs2)
    | (go_at_call 16; (with_reducible refine (KS.out _ T2.out).mono ?_); rintro e w3 ⟨rfl, ht3, -⟩; have T3 := hide ht3))
  go_ret
  exact ⟨rfl, T3.out⟩
end
end Go.Proofs.Ytmabminjmcjafaa
