/-
  The program's begin.
  The program's Open.
  The program's add and Append.
  The program's add.
  The program's Append.
  Bytes of the log that stand in its tail: the program's rest and bytes.
  A record that stands in the log's tail: the program's Read.
  Bytes of the log, wherever they stand: the program's rest.
  So many bytes of the log, wherever they stand: the program's bytes.
  The program's firstFrom.
-/
import Derived.Maps.AppendAt
import Derived.Test.YtdifpbicdicggaaDoorPkLgAl4
set_option linter.unusedVariables false
set_option linter.unusedSimpArgs false

namespace Go.Proofs.YtdifpbicdicggaaDoor
open Go.RowKit

/-- The log with the next epoch. -/
def nextL (L : Lg) : Lg := { L with hd := { L.hd with ep := (L.hd.ep + 1) % 18446744073709551616 } }
def bgB (L : Lg) : List UInt8 := sealB 1 (nextL L).hd.ns []
def bgP (L : Lg) : List UInt8 := partB (nextL L) (flo L.sure) L.tail
def bgS (L : Lg) : Int := (secOf (nextL L) (flo L.sure) : Int)
/-- What begin answers, and the disk behind it. -/
def bgE (D : Dk) (L : Lg) : Int :=
  if wE D L.at_ (bgB L) ≠ 0 then wE D L.at_ (bgB L)
  else if roomOf (nextL L) > 0 then (if wE (wD D L.at_ (bgB L)) (bgS L) (bgP L) ≠ 0 then wE (wD D L.at_ (bgB L)) (bgS L) (bgP L) else sE (wD (wD D L.at_ (bgB L)) (bgS L) (bgP L)))
  else sE (wD D L.at_ (bgB L))
def bgD (D : Dk) (L : Lg) : Dk :=
  if wE D L.at_ (bgB L) ≠ 0 then wD D L.at_ (bgB L)
  else if roomOf (nextL L) > 0 then (if wE (wD D L.at_ (bgB L)) (bgS L) (bgP L) ≠ 0 then wD (wD D L.at_ (bgB L)) (bgS L) (bgP L) else sD (wD (wD D L.at_ (bgB L)) (bgS L) (bgP L)))
  else sD (wD D L.at_ (bgB L))
section
variable {w0 w w1 : World} {X : Bk} {D D' : Dk} {L L' : Lg} {r : Value} {e : Ending} {w' : World}
theorem Lg.Ok.onD (ok : L.Ok D) (h : D'.dur.length = D.dur.length) : L.Ok D' := ⟨ok.hd, ok.cn, by rw [h]; exact ok.at_, ok.sure, ok.tail, ok.held⟩
theorem Lfr.cell (X : Bk) (w : World) (i : Nat) (v : Value) : Lfr X w (w.setCell ⟨X.q, i, none⟩ v) := ⟨rfl, rfl, rfl, by simp, fun k _ hn => Below.heap_setCell w ⟨X.q, i, none⟩ v k (fun e => hn (.inl e))⟩
theorem nextL_ok (ok : L.Ok D) : (nextL L).Ok D := ⟨⟨Nat.mod_lt _ (by decide), ok.hd.old, ok.hd.st, ok.hd.fi, ok.hd.ck, ok.hd.cn⟩, ok.cn, ok.at_, ok.sure, ok.tail, ok.held⟩
theorem gsync_any (h : LgAt w0 w X D L) (b : Bd D) : Calls Tryd.prog 36 #[.pointer (some ⟨X.g, 0, none⟩)] w (LPost w0 w X (.int .i64 (sE D)) (sD D) L) := (sync_uni h.disk b h.ext.size).mono fun _ _ hp => LPost.of_disk h hp
set_option maxRecDepth 20000 in
set_option maxHeartbeats 3200000 in
theorem begin_any (h : LgAt w0 w X D L) (ok : L.Ok D) (b : Bd D) (hp : D.pen.length < 800000) (ho : D.ops < 800000) (htl : L.tail.length ≤ 480) (hs : L.hd.st < 1152921504606846976) (hT : Tab w0) : Calls Tryd.prog 45 #[.pointer (some ⟨X.q, 0, none⟩)] w (LPost w0 w X (.int .i64 (bgE D L)) (bgD D L) (nextL L)) := by
  have HL := hide h
  have HT := hide hT
  have HOK := hide (nextL_ok ok)
  have HTL := hide htl
  have HS := hide hs
  have c2 := h.blk.cell (i := 2) rfl
  have f2 := h.blk.frozen 2
  have hep := ok.hd.ep
  obtain ⟨ep1, HEP⟩ : ∃ ep1 : Nat, Hid ((L.hd.ep + 1) % 18446744073709551616 = ep1) := ⟨_, hide rfl⟩
  have hwe : IntKind.u64.wrap ((L.hd.ep : Int) + 1) = (ep1 : Int) := by rw [IntKind.wrap_u64]; have := HEP.out; omega
  have HL1 : Hid (LgAt w0 (w.setCell ⟨X.q, 2, none⟩ (.int .u64 (ep1 : Int))) X D (nextL L)) := hide (h.put 2 _ (nextL L) rfl (by rw [← HEP.out]; rfl))
  have HF1 : Hid (Lfr X w (w.setCell ⟨X.q, 2, none⟩ (.int .u64 (ep1 : Int)))) := hide (Lfr.cell X w 2 _)
  obtain ⟨wa, hwa⟩ : ∃ wa, w.setCell ⟨X.q, 2, none⟩ (.int .u64 (ep1 : Int)) = wa := ⟨_, rfl⟩
  rw [hwa] at HL1 HF1
  have d0 := HL1.out.blk.cell (i := 0) rfl
  have d1 := HL1.out.blk.cell (i := 1) rfl
  have d2 := HL1.out.blk.cell (i := 2) rfl
  have d3 := HL1.out.blk.cell (i := 3) rfl
  have d4 := HL1.out.blk.cell (i := 4) rfl
  have d5 := HL1.out.blk.cell (i := 5) rfl
  have d6 := HL1.out.blk.cell (i := 6) rfl
  have d7 := HL1.out.blk.cell (i := 7) rfl
  have hb1 : (nextL L).at_ = L.at_ := rfl
  obtain ⟨L1, HLE⟩ : ∃ L1, Hid (nextL L = L1) := ⟨_, hide rfl⟩
  obtain ⟨q1, HQ1⟩ : ∃ q1, Hid (bgB L = q1) := ⟨_, hide rfl⟩
  have HQ1' : Hid (sealB 1 L1.hd.ns [] = q1) := hide (by rw [← HQ1.out, ← HLE.out]; rfl)
  have HWH : Hid (∀ W, Ext wa W → Calls Tryd.prog 39 #[.pointer (some ⟨X.g, 0, none⟩), .int .i64 (L.at_ : Int), .agg #[.int .u64 (L1.hd.ep : Int), .int .u64 (L1.hd.old : Int), .int .u64 (L1.hd.st : Int), .int .u64 (L1.hd.fi : Int), .int .u64 (L1.hd.ck : Int), .int .u64 (L1.hd.cn : Int)]] W (DPost w0.heap.size X.g X.gd X.gn W X.A (.int .i64 (wE D L.at_ q1)) (wD D L.at_ q1))) := hide (fun W hW => by
    have k := writeHead_any (HL1.out.disk.ext hW) b (Nat.le_trans HL1.out.ext.size hW.size) (L.at_ : Int) L1.hd (by rw [← HLE.out]; exact HOK.out.hd) (HT.out.ext (HL1.out.ext.trans hW))
    rw [HQ1'.out] at k
    exact k)
  obtain ⟨b1, p1, o1, l1⟩ := wD_bd b (by omega) (by omega) (L.at_ : Int) q1
  have hat : L1.at_ = L.at_ := by rw [← HLE.out]; rfl
  rw [HLE.out] at d1 d2 d3 d4 d5 d6 d7 HL1 HOK
  rw [hat] at d1
  obtain ⟨e1, HE1⟩ : ∃ e1, Hid (wE D L.at_ q1 = e1) := ⟨_, hide rfl⟩
  obtain ⟨D1, HD1⟩ : ∃ D1, Hid (wD D L.at_ q1 = D1) := ⟨_, hide rfl⟩
  rw [HE1.out, HD1.out] at HWH
  rw [HD1.out] at b1 p1 o1 l1
  have HB1 := hide b1
  have HOK1 : Hid (L1.Ok D1) := hide (HOK.out.onD l1)
  have HP1 : Hid (D1.pen.length < 850000 ∧ D1.ops < 850000) := hide (by omega)
  have HBE : Hid (bgE D L = if e1 ≠ 0 then e1 else if roomOf L1 > 0 then (if wE D1 (bgS L) (bgP L) ≠ 0 then wE D1 (bgS L) (bgP L) else sE (wD D1 (bgS L) (bgP L))) else sE D1) := hide (by unfold bgE; rw [HQ1.out, HE1.out, HD1.out, HLE.out])
  have HBD : Hid (bgD D L = if e1 ≠ 0 then D1 else if roomOf L1 > 0 then (if wE D1 (bgS L) (bgP L) ≠ 0 then wD D1 (bgS L) (bgP L) else sD (wD D1 (bgS L) (bgP L))) else sD D1) := hide (by unfold bgD; rw [HQ1.out, HE1.out, HD1.out, HLE.out])
  obtain ⟨xE, HXE⟩ : ∃ xE, Hid (bgE D L = xE) := ⟨_, hide rfl⟩
  obtain ⟨xD, HXD⟩ : ∃ xD, Hid (bgD D L = xD) := ⟨_, hide rfl⟩
  rw [HXE.out] at HBE ⊢
  rw [HXD.out] at HBD ⊢
  have HST1 : Hid (L1.hd.st < 1152921504606846976) := hide (by rw [← HLE.out]; exact hs)
  have HSU : Hid (L1.sure = L.sure ∧ L1.tail = L.tail) := hide (by rw [← HLE.out]; exact ⟨rfl, rfl⟩)
  have HBS : Hid (bgS L = (secOf L1 (flo L.sure) : Int) ∧ bgP L = partB L1 (flo L.sure) L.tail) := hide (by unfold bgS bgP; rw [HLE.out]; exact ⟨rfl, rfl⟩)
  rw [HLE.out]
  clear h b hT ok hp ho htl hs hep b1 p1 o1 l1 hb1 hat
  go_enter Tryd.func45, Tryd.ntmps45
  go_upto_region 2 with fail
  go_region_law (first
    | (go_simp; go_at_call 39; (with_reducible refine (HWH.out _ (Ext.drew _)).mono ?_); rintro e w2 hp2; have HPA := hide (LPost.trans HF1.out (Bk.Later.refl _ _) (LPost.pre (Ext.drew _) (LPost.of_disk (HL1.out.ext_ (Ext.drew _)) hp2))); obtain ⟨A2, c2', rfl, -⟩ := hp2))
  all_goals
    clear d0 d1 d2 d3 d4 d5 d6 d7 c2 f2 hwe
    by_cases he1 : e1 = 0
    · subst he1
      have HBE2 : Hid (xE = if roomOf L1 > 0 then (if wE D1 (bgS L) (bgP L) ≠ 0 then wE D1 (bgS L) (bgP L) else sE (wD D1 (bgS L) (bgP L))) else sE D1) := hide (by rw [HBE.out, if_neg (by decide)])
      have HBD2 : Hid (xD = if roomOf L1 > 0 then (if wE D1 (bgS L) (bgP L) ≠ 0 then wD D1 (bgS L) (bgP L) else sD (wD D1 (bgS L) (bgP L))) else sD D1) := hide (by rw [HBD.out, if_neg (by decide)])
      obtain ⟨X2, -, HL2, HF2, HN2⟩ := HPA.out
      replace HL2 := hide HL2
      replace HF2 := hide HF2
      replace HN2 := hide HN2
      have hq2 : X2.q = X.q := HN2.out.q
      have KRM := hide (room_any HL2.out HOK1.out HST1.out)
      rw [hq2] at KRM
      obtain ⟨rm, HRM⟩ : ∃ rm, Hid (roomOf L1 = rm) := ⟨_, hide rfl⟩
      rw [HRM.out] at KRM HBE2 HBD2
      have g0 := HL2.out.blk.cell (i := 0) rfl
      rw [hq2] at g0
      by_cases hrm : rm > 0
      · have hri : (0 : Int) < rm := hrm
        obtain ⟨At, ct, htv, -, hrt⟩ := HL2.out.tail.bytes
        have HRT := hide hrt
        have g9 := HL2.out.blk.cell (i := 9) rfl
        rw [hq2, htv] at g9
        have KTA : Hid (∀ W, Ext w2 W → Calls Tryd.prog 35 #[.pointer (some ⟨X.q, 0, none⟩)] W (Same W (.int .u64 (flo L1.sure : Int)))) := hide (fun W hW => by have k := tailAt_any (HL2.out.ext_ hW) HOK1.out; rw [hq2] at k; exact k)
        have KGW : Hid (∀ W, Ext w2 W → Calls Tryd.prog 34 #[.pointer (some ⟨X.q, 0, none⟩), .int .u64 (flo L1.sure : Int), .slice At L1.tail.length ct] W (LPost w0 W X2 (.int .i64 (wE D1 (secOf L1 (flo L1.sure)) (partB L1 (flo L1.sure) L1.tail))) (wD D1 (secOf L1 (flo L1.sure)) (partB L1 (flo L1.sure) L1.tail)) L1)) := hide (fun W hW => by
          have k := gwrite_any (HL2.out.ext_ hW) HOK1.out HB1.out (flo L1.sure) (by have h1 := flo_le L1.sure; have h2 := HOK1.out.sure; omega) At ct L1.tail.length L1.tail (HRT.out.ext hW) rfl (by rw [HSU.out.2]; exact HTL.out) HT.out
          rw [hq2] at k
          exact k)
        have HBS2 : Hid (bgS L = (secOf L1 (flo L1.sure) : Int) ∧ bgP L = partB L1 (flo L1.sure) L1.tail) := hide (by rw [HSU.out.1, HSU.out.2]; exact HBS.out)
        obtain ⟨s2, HS2⟩ : ∃ s2 : Int, Hid ((secOf L1 (flo L1.sure) : Int) = s2) := ⟨_, hide rfl⟩
        obtain ⟨q2, HQ2⟩ : ∃ q2, Hid (partB L1 (flo L1.sure) L1.tail = q2) := ⟨_, hide rfl⟩
        obtain ⟨e2, HE2⟩ : ∃ e2, Hid (wE D1 s2 q2 = e2) := ⟨_, hide rfl⟩
        obtain ⟨D2, HD2⟩ : ∃ D2, Hid (wD D1 s2 q2 = D2) := ⟨_, hide rfl⟩
        have KGW2 : Hid (∀ W, Ext w2 W → Calls Tryd.prog 34 #[.pointer (some ⟨X.q, 0, none⟩), .int .u64 (flo L1.sure : Int), .slice At L1.tail.length ct] W (LPost w0 W X2 (.int .i64 e2) D2 L1)) := hide (by rw [← HE2.out, ← HD2.out, ← HS2.out, ← HQ2.out]; exact KGW.out)
        have HBE3 : Hid (xE = (if e2 ≠ 0 then e2 else sE D2) ∧ xD = (if e2 ≠ 0 then D2 else sD D2)) := hide (by rw [HBE2.out, HBD2.out, if_pos hrm, if_pos hrm, HBS2.out.1, HBS2.out.2, HS2.out, HQ2.out, HE2.out, HD2.out]; exact ⟨rfl, rfl⟩)
        have HB2 : Hid (Bd D2) := hide (by rw [← HD2.out]; exact (wD_bd HB1.out (by have := HP1.out; omega) (by have := HP1.out; omega) s2 q2).1)
        have HOK2 : Hid (L1.Ok D2) := hide (HOK1.out.onD (by rw [← HD2.out]; exact (wD_bd HB1.out (by have := HP1.out; omega) (by have := HP1.out; omega) s2 q2).2.2.2))
        have HQX := hide hq2
        obtain ⟨fl, HFL⟩ : ∃ fl : Nat, Hid (flo L1.sure = fl) := ⟨_, hide rfl⟩
        obtain ⟨nt, HNT⟩ : ∃ nt : Nat, Hid (L1.tail.length = nt) := ⟨_, hide rfl⟩
        rw [HFL.out] at KTA KGW2
        rw [HNT.out] at KGW2 g9
        clear KGW hrm hq2 htv hrt
        go_upto_region 6 with (go_at_call 29; (with_reducible refine KRM.out.mono ?_); rintro e w3 ⟨rfl, m3, rfl⟩; have HX3 : Hid (Ext w2 (w2.drewN m3)) := hide ((Ext.refl _).drewN _))
        go_region_law (first
          | (go_simp; go_at_call 35; (with_reducible refine (KTA.out _ ((Ext.refl w2).drewN _)).mono ?_); rintro e w4 ⟨rfl, rfl⟩)
          | (go_simp; go_at_call 34; (with_reducible refine (KGW2.out _ ((Ext.refl w2).drewN _)).mono ?_); rintro e w5 hp5; have HP5 := hide (LPost.trans HF2.out HN2.out (LPost.pre ((Ext.refl w2).drewN _) hp5)); obtain ⟨X5', rfl, -⟩ := hp5))
        all_goals
          by_cases he2 : e2 = 0
          · subst he2
            have HBE4 : Hid (xE = sE D2 ∧ xD = sD D2) := hide (by rw [HBE3.out.1, HBE3.out.2, if_neg (by decide), if_neg (by decide)]; exact ⟨rfl, rfl⟩)
            obtain ⟨X5, -, HL5, HF5, HN5⟩ := HP5.out
            replace HL5 := hide HL5
            replace HF5 := hide HF5
            replace HN5 := hide HN5
            have hq5 : X5.q = X.q := HN5.out.q
            have hg5 : X5.g = X.g := HN5.out.g
            have g0b := HL5.out.blk.cell (i := 0) rfl
            rw [hq5, hg5] at g0b
            have KSY := hide (gsync_any HL5.out HB2.out)
            rw [hg5] at KSY
            clear hq5 hg5
            go_wp2_with (go_at_call 36; (with_reducible refine KSY.out.mono ?_); rintro e w6 hp6; have HP6 := hide (LPost.trans HF5.out HN5.out hp6); obtain ⟨X6, rfl, -⟩ := hp6)
            go_ret
            rw [HBE4.out.1, HBE4.out.2]
            exact HP6.out
          · have HBE4 : Hid (xE = e2 ∧ xD = D2) := hide (by rw [HBE3.out.1, HBE3.out.2, if_pos he2, if_pos he2]; exact ⟨rfl, rfl⟩)
            have hee2 : (e2 != 0) = true := by simpa using he2
            clear he2
            go_wp2
            go_ret
            rw [HBE4.out.1, HBE4.out.2]
            exact HP5.out
      · have HBE3 : Hid (xE = sE D1 ∧ xD = sD D1) := hide (by rw [HBE2.out, HBD2.out, if_neg hrm, if_neg hrm]; exact ⟨rfl, rfl⟩)
        have hri : ¬ (0 : Int) < rm := by omega
        have HQ2 := hide hq2
        clear hrm hq2
        go_wp2_with (first
          | (go_at_call 29; (with_reducible refine KRM.out.mono ?_); rintro e w3 ⟨rfl, m3, rfl⟩; have HX3 : Hid (Ext w2 (w2.drewN m3)) := hide ((Ext.refl _).drewN _))
          | (go_at_call 36; (with_reducible refine (gsync_any (HL2.out.ext_ HX3.out) HB1.out).mono ?_); rintro e w4 hp4; have HP4 := hide (LPost.trans HF2.out HN2.out (LPost.pre HX3.out hp4)); obtain ⟨X4, rfl, -⟩ := hp4))
        go_ret
        rw [HBE3.out.1, HBE3.out.2]
        exact HP4.out
    · have HBE2 : Hid (xE = e1 ∧ xD = D1) := hide (by rw [HBE.out, HBD.out, if_pos he1, if_pos he1]; exact ⟨rfl, rfl⟩)
      have hee : (e1 != 0) = true := by simpa using he1
      go_wp2
      go_ret
      rw [HBE2.out.1, HBE2.out.2]
      exact HPA.out
end
end Go.Proofs.YtdifpbicdicggaaDoor
namespace Go.Proofs.YtdifpbicdicggaaDoor
open Go.RowKit

/-- The log as the first sector tells it. -/
def op0 (D : Dk) (at_ : Int) : Lg := ⟨at_.toNat, rhH D at_, 0, [], 0⟩
def opF (D : Dk) (at_ : Int) : Lg := fnL D (op0 D at_)
/-- What Open answers, the disk and the log behind it. -/
def opE (D : Dk) (at_ count : Int) : Int :=
  if fitsE D.dur.length at_ count ≠ 0 then fitsE D.dur.length at_ count else if rhE D at_ ≠ 0 then rhE D at_
  else if ((rhH D at_).cn : Int) ≠ count then 3 else if fnE D (op0 D at_) ≠ 0 then fnE D (op0 D at_) else bgE D (opF D at_)
def opD (D : Dk) (at_ count : Int) : Dk :=
  if fitsE D.dur.length at_ count ≠ 0 then D else if rhE D at_ ≠ 0 then D
  else if ((rhH D at_).cn : Int) ≠ count then D else if fnE D (op0 D at_) ≠ 0 then D else bgD D (opF D at_)
def opL (D : Dk) (at_ : Int) : Lg := nextL (opF D at_)
def OPost (w0 w : World) (g gd gn : Nat) (A : Option Addr) (D' : Dk) (er : Int) (L' : Lg) (e : Ending) (w' : World) : Prop :=
  (er = 0 → ∃ X', e = .returned (.tuple #[.pointer (some ⟨X'.q, 0, none⟩), .int .i64 0]) ∧ LgAt w0 w' X' D' L' ∧ X'.g = g ∧ X'.gd = gd ∧ X'.gn = gn ∧ Dfr g gd gn A w w' ∧ Newer w A X'.A ∧ w.heap.size ≤ X'.q ∧ (∀ k, X'.tv.ownBlock = some k → (∃ a, A = some a ∧ a.block = k) ∨ w.heap.size ≤ k))
  ∧ (er ≠ 0 → DPost w0.heap.size g gd gn w A (.tuple #[.pointer none, .int .i64 er]) D' e w')
theorem fn_ok {D : Dk} {L : Lg} (hfe : fnE D L = 0) (hfi : L.hd.fi < 576460752303423488) (hcn : L.hd.cn ≤ 4096) : fnSure D L < 1152921504606846976 ∧ (fnTail D L).length ≤ 480 := by
  have h1 := thP_len D L (L.hd.cn + 1) (fnBase L) (L.hd.old : Int)
  unfold fnE at hfe
  split at hfe
  · cases hfe
  · split at hfe
    · cases hfe
    · rename_i h2
      have h3 := runN_le (fnAll D L) (fnAll D L).length (L.hd.fi - fnBase L) (by omega)
      have h4 : (fnAll D L).length ≤ 480 * (L.hd.cn + 1) := h1
      have h5 := flo_le L.hd.fi
      have h6 : fnBase L = flo L.hd.fi := rfl
      have h7 : fnEnd D L = runN (fnAll D L) (fnAll D L).length (L.hd.fi - fnBase L) := rfl
      have h8 : fnSure D L = fnBase L + fnEnd D L := rfl
      refine ⟨by omega, ?_⟩
      unfold fnTail
      rw [List.length_drop, List.length_take]
      unfold flo at h6 ⊢
      omega
section
variable {g gd gn c : Nat} {w0 w w1 : World} {A : Option Addr} {D D' : Dk} {L' : Lg} {er : Int} {e : Ending} {w' : World}
theorem OPost.no (h : er ≠ 0) (hp : DPost w0.heap.size g gd gn w A (.tuple #[.pointer none, .int .i64 er]) D' e w') : OPost w0 w g gd gn A D' er L' e w' := ⟨fun h2 => absurd h2 h, fun _ => hp⟩
/-- Out of what a call of a new log leaves. -/
theorem Lfr.dfr {X : Bk} (hx : Ext w w1) (hg : X.g = g) (hgd : X.gd = gd) (hgn : X.gn = gn) (hA : X.A = A) (hq : w.heap.size ≤ X.q) (ht : ∀ k, X.tv.ownBlock = some k → w.heap.size ≤ k) (hf : Lfr X w1 w') : Dfr g gd gn A w w' := by
  refine ⟨hf.os.trans hx.os, hf.tape.trans hx.tape, hf.output.trans hx.output, Nat.le_trans hx.size hf.size, fun k hk h1 h2 h3 h4 => (hf.other k (Nat.lt_of_lt_of_le hk hx.size) (fun hh => ?_)).trans (Below.block hx k hk)⟩
  unfold Bk.has at hh
  rw [hg, hgd, hgn, hA] at hh
  rcases hh with hh | hh | hh | hh | ⟨a, ha, hh⟩ | hh
  · omega
  · exact h1 hh
  · exact h2 hh
  · exact h3 hh
  · exact h4 a ha hh
  · have := ht k hh; omega
theorem Bk.Later.newer {X X' : Bk} {L : Lg} (hx : Ext w w1) (hA : X.A = A) (hq : w.heap.size ≤ X.q) (ht : ∀ k, X.tv.ownBlock = some k → w.heap.size ≤ k) (hl : X'.Later X w1) (h : LgAt w0 w' X' D' L) : Newer w A X'.A ∧ (∀ k, X'.tv.ownBlock = some k → (∃ a, A = some a ∧ a.block = k) ∨ w.heap.size ≤ k) := by
  obtain ⟨-, -, -, d4⟩ := h.disk.ne
  obtain ⟨⟨n1, n2, n3, n4⟩, n5⟩ := h.ne
  refine ⟨fun a' ha' => ?_, fun k hk => ?_⟩
  · obtain ⟨m1, m2, m3⟩ := d4 a' ha'
    rw [hl.g] at m1
    rw [hl.gd] at m2
    rw [hl.gn] at m3
    rcases hl.has a'.block (.inr (.inr (.inr (.inr (.inl ⟨a', ha', rfl⟩))))) with hh | hh
    · rcases hh with hh | hh | hh | hh | ⟨a, ha, hh⟩ | hh
      · exact .inr (by omega)
      · exact absurd hh m1
      · exact absurd hh m2
      · exact absurd hh m3
      · exact .inl ⟨a, hA ▸ ha, hh⟩
      · exact .inr (ht _ hh)
    · exact .inr (Nat.le_trans hx.size hh)
  · obtain ⟨m1, m2, m3, m4, m5⟩ := n5 k hk
    rw [hl.g] at m2
    rw [hl.gd] at m3
    rw [hl.gn] at m4
    rcases hl.has k (.inr (.inr (.inr (.inr (.inr hk))))) with hh | hh
    · rcases hh with hh | hh | hh | hh | ⟨a, ha, hh⟩ | hh
      · exact .inr (by omega)
      · exact absurd hh m2
      · exact absurd hh m3
      · exact absurd hh m4
      · exact .inl ⟨a, hA ▸ ha, hh⟩
      · exact .inr (ht _ hh)
    · exact .inr (Nat.le_trans hx.size hh)
set_option maxRecDepth 20000 in
set_option maxHeartbeats 3200000 in
theorem open_any (hx0 : Ext w0 w) (h : DiskAt w0.heap.size w g gd gn A c D) (b : Bd D) (hp : D.pen.length < 800000) (ho : D.ops < 800000) (hT : Tab w0) (at_ count : Int) (h1 : -9223372036854775808 ≤ at_ ∧ at_ < 9223372036854775808) (h2 : -9223372036854775808 ≤ count ∧ count < 9223372036854775808)
    (hfi : (rhH D at_).fi < 576460752303423488) (hst : (rhH D at_).st < 1152921504606846976) :
    Calls Tryd.prog 17 #[.pointer (some ⟨g, 0, none⟩), .int .i64 at_, .int .i64 count] w (OPost w0 w g gd gn A (opD D at_ count) (opE D at_ count) (opL D at_)) := by
  have HD := hide h
  have HB := hide b
  have HX0 := hide hx0
  have HT := hide hT
  have hmx := b.ok.max
  have KF := hide (fits_any h b at_ count h1 h2)
  rcases fits_two D.dur.length at_ count with hf | hf
  · have hfi2 := fits_in hf
    obtain ⟨i0, i4, i5⟩ := hfi2
    obtain ⟨a, rfl⟩ : ∃ a : Nat, at_ = (a : Int) := ⟨at_.toNat, by omega⟩
    obtain ⟨n, rfl⟩ : ∃ n : Nat, count = (n : Int) := ⟨count.toNat, by omega⟩
    have KR := hide (readHead_any h b (a : Int) (hT.ext hx0))
    rw [hf] at KF
    obtain ⟨H, HH⟩ : ∃ H, Hid (rhH D a = H) := ⟨_, hide rfl⟩
    obtain ⟨er, HER⟩ : ∃ er, Hid (rhE D a = er) := ⟨_, hide rfl⟩
    have HHO : Hid H.Ok := hide (by
      rw [← HH.out]
      unfold rhH
      split
      · exact hdOf_ok _
      · exact ⟨by decide, by decide, by decide, by decide, by decide, by decide⟩)
    rw [HH.out] at hfi hst KR
    rw [HER.out] at KR
    have HOE : Hid (opE D a n = if er ≠ 0 then er else if (H.cn : Int) ≠ (n : Int) then 3 else if fnE D (op0 D a) ≠ 0 then fnE D (op0 D a) else bgE D (opF D a)) := hide (by unfold opE; rw [hf, if_neg (by decide), HER.out, HH.out])
    have HOD : Hid (opD D a n = if er ≠ 0 then D else if (H.cn : Int) ≠ (n : Int) then D else if fnE D (op0 D a) ≠ 0 then D else bgD D (opF D a)) := hide (by unfold opD; rw [hf, if_neg (by decide), HER.out, HH.out])
    obtain ⟨xE, HXE⟩ : ∃ xE, Hid (opE D a n = xE) := ⟨_, hide rfl⟩
    obtain ⟨xD, HXD⟩ : ∃ xD, Hid (opD D a n = xD) := ⟨_, hide rfl⟩
    rw [HXE.out] at HOE ⊢
    rw [HXD.out] at HOD ⊢
    have HH0 : Hid (op0 D a = ⟨a, H, 0, [], 0⟩) := hide (by unfold op0; rw [HH.out, Int.toNat_natCast])
    by_cases her : er = 0
    · subst her
      rw [if_neg (by decide)] at HOE HOD
      by_cases hcn : H.cn = n
      · have hnw : IntKind.u64.wrap (n : Int) = (n : Int) := by rw [IntKind.wrap_u64]; omega
        have hni : ((H.cn : Int) != (n : Int)) = false := by simp [hcn]
        have HOE2 : Hid (xE = if fnE D (op0 D a) ≠ 0 then fnE D (op0 D a) else bgE D (opF D a)) := hide (by rw [HOE.out, if_neg (by omega)])
        have HOD2 : Hid (xD = if fnE D (op0 D a) ≠ 0 then D else bgD D (opF D a)) := hide (by rw [HOD.out, if_neg (by omega)])
        go_enter Tryd.func17, Tryd.ntmps17
        go_upto_region 10 with (first
          | (go_at_call 42; (with_reducible refine KF.out.mono ?_); rintro e w2 ⟨rfl, rfl⟩)
          | (go_at_call 43; (with_reducible refine KR.out.mono ?_); rintro e w2 ⟨rfl, hx2⟩; unfold Hd.cs; have HRB := hide (Rw.new w2 73 H.cs); have c0 := HRB.out.cell (i := 0) rfl; have c1 := HRB.out.cell (i := 1) rfl; have c2 := HRB.out.cell (i := 2) rfl; have c3 := HRB.out.cell (i := 3) rfl; have c4 := HRB.out.cell (i := 4) rfl; have c5 := HRB.out.cell (i := 5) rfl; unfold Hd.cs at c0 c1 c2 c3 c4 c5; have HX2 := hide (hx2.trans (Ext.alloc w2 (.cells H.cs.toArray 73))); clear hx2))
        obtain ⟨w3, hw3⟩ : ∃ w3, w2.alloc (.cells #[.int .u64 (H.ep : Int), .int .u64 (H.old : Int), .int .u64 (H.st : Int), .int .u64 (H.fi : Int), .int .u64 (H.ck : Int), .int .u64 (n : Int)] 73) = w3 := ⟨_, rfl⟩
        have HX3 : Hid (Ext w w3) := hide (by rw [← hw3, ← hcn]; exact HX2.out)
        have hsz : w2.heap.size + 1 = w3.heap.size := by rw [← hw3]; simp
        obtain ⟨q, HQ⟩ : ∃ q, Hid (w3.heap.size = q) := ⟨_, hide rfl⟩
        rw [hw3, hsz, HQ.out]
        have HL0 : Hid (LgAt w0 (w3.alloc (.cells #[.pointer (some ⟨g, 0, none⟩), .int .i64 (a : Int), .int .u64 (H.ep : Int), .int .u64 (H.old : Int), .int .u64 (H.st : Int), .int .u64 (H.fi : Int), .int .u64 (H.ck : Int), .int .u64 (n : Int), .int .u64 0, .slice none 0 0, .int .i64 0] 75)) ⟨q, g, gd, gn, A, c, .slice none 0 0⟩ D ⟨a, H, 0, [], 0⟩) := hide (by
          refine ⟨(HX0.out.trans HX3.out).trans (Ext.alloc _ _), (HD.out.ext HX3.out).ext (Ext.alloc _ _), ?_, Own.nil _ _, by rw [← HQ.out]; exact (HX0.out.trans HX3.out).size⟩
          rw [← HQ.out, ← hcn]
          exact Rw.new w3 75 (logC g (.slice none 0 0) ⟨a, H, 0, [], 0⟩))
        have HX4 : Hid (Ext w (w3.alloc (.cells #[.pointer (some ⟨g, 0, none⟩), .int .i64 (a : Int), .int .u64 (H.ep : Int), .int .u64 (H.old : Int), .int .u64 (H.st : Int), .int .u64 (H.fi : Int), .int .u64 (H.ck : Int), .int .u64 (n : Int), .int .u64 0, .slice none 0 0, .int .i64 0] 75))) := hide (HX3.out.trans (Ext.alloc _ _))
        obtain ⟨w4, hw4⟩ : ∃ w4, w3.alloc (.cells #[.pointer (some ⟨g, 0, none⟩), .int .i64 (a : Int), .int .u64 (H.ep : Int), .int .u64 (H.old : Int), .int .u64 (H.st : Int), .int .u64 (H.fi : Int), .int .u64 (H.ck : Int), .int .u64 (n : Int), .int .u64 0, .slice none 0 0, .int .i64 0] 75) = w4 := ⟨_, rfl⟩
        rw [hw4] at HL0 HX4 ⊢
        have HQW : Hid (w.heap.size ≤ q) := hide (by rw [← HQ.out]; exact HX3.out.size)
        have HOK0 : Hid ((⟨a, H, 0, [], 0⟩ : Lg).Ok D) := hide ⟨HHO.out, ⟨by show 4 ≤ H.cn; omega, by show H.cn ≤ 4096; omega⟩, by show a + 1 + H.cn ≤ _; omega, by show 0 < _; decide, by show ([] : List UInt8).length < _; decide, by show 0 < _; decide⟩
        have KFN := hide (find_any HL0.out HOK0.out b hfi hT)
        rw [HH0.out] at HOE2 HOD2
        have HOF : Hid (opF D a = fnL D ⟨a, H, 0, [], 0⟩) := hide (by unfold opF; rw [HH0.out])
        rw [HOF.out] at HOE2 HOD2
        obtain ⟨fe, HFE⟩ : ∃ fe, Hid (fnE D ⟨a, H, 0, [], 0⟩ = fe) := ⟨_, hide rfl⟩
        rw [HFE.out] at HOE2 HOD2
        have hpen := hp
        have HPO : Hid (D.pen.length < 800000 ∧ D.ops < 800000) := hide ⟨hp, ho⟩
        have HFI := hide hfi
        have HST := hide hst
        unfold FnPost at KFN
        rw [HFE.out] at KFN
        clear c0 c1 c2 c3 c4 c5 hw3 hw4 hsz hfi hst hp ho hpen h b hx0 hmx h1 h2 i5 hnw hni
        by_cases hfe : fe = 0
        · subst hfe
          rw [if_neg (by decide)] at HOE2 HOD2
          obtain ⟨f1, f2⟩ := fn_ok HFE.out HFI.out (HOK0.out.cn.2)
          have HTL := hide f2
          have HOK1 : Hid ((fnL D ⟨a, H, 0, [], 0⟩).Ok D) := hide ⟨HHO.out, HOK0.out.cn, HOK0.out.at_, f1, by show (fnTail D _).length < _; omega, by show 0 < _; decide⟩
          obtain ⟨L1, HL1⟩ : ∃ L1, Hid (fnL D ⟨a, H, 0, [], 0⟩ = L1) := ⟨_, hide rfl⟩
          have HST1 : Hid (L1.hd.st < 1152921504606846976) := hide (by rw [← HL1.out]; exact HST.out)
          have HTL1 : Hid (L1.tail.length ≤ 480) := hide (by rw [← HL1.out]; exact HTL.out)
          rw [HL1.out] at HOK1 HOE2 HOD2 KFN HOF
          have HOL : Hid (opL D a = nextL L1) := hide (by unfold opL; rw [HOF.out])
          have HTT := hide hT
          clear f1 f2 hT
          obtain ⟨be, HBE⟩ : ∃ be, Hid (bgE D L1 = be) := ⟨_, hide rfl⟩
          obtain ⟨D1, HD1⟩ : ∃ D1, Hid (bgD D L1 = D1) := ⟨_, hide rfl⟩
          rw [HBE.out] at HOE2
          rw [HD1.out] at HOD2
          have KBG : Hid (∀ W tv, LgAt w0 W ⟨q, g, gd, gn, A, c, tv⟩ D L1 → Calls Tryd.prog 45 #[.pointer (some ⟨q, 0, none⟩)] W (LPost w0 W ⟨q, g, gd, gn, A, c, tv⟩ (.int .i64 be) D1 (nextL L1))) := hide (fun W tv hl => by
            have k := begin_any hl HOK1.out HB.out HPO.out.1 HPO.out.2 HTL1.out HST1.out HTT.out
            rw [HBE.out, HD1.out] at k
            exact k)
          by_cases hbe : be = 0
          · have HBE2 : Hid (xE = 0 ∧ xD = D1) := hide ⟨HOE2.out.trans hbe, HOD2.out⟩
            subst hbe
            go_wp2_with (first
              | (go_at_call 44; (with_reducible refine KFN.out.mono ?_); rintro e w5 ⟨rfl, ha5, hl5⟩; obtain ⟨tv, hl5, ht5⟩ := hl5 rfl; have HL5 := hide hl5; have HT5 := hide ht5; have HX5 := hide (HX4.out.alt ha5 HQW.out); have HS5 := hide (Nat.le_trans HX4.out.size (Nat.le_refl _)); clear ha5 hl5 ht5)
              | (go_at_call 45; (with_reducible refine (KBG.out w5 tv HL5.out).mono ?_); rintro e w6 ⟨X6, rfl, hl6, hf6, hn6⟩; have HL6 := hide hl6; have HF6 := hide hf6; have HN6 := hide hn6; clear hl6 hf6 hn6))
            go_ret2
            have hq6 : X6.q = q := HN6.out.q
            have ht : ∀ k, tv.ownBlock = some k → w.heap.size ≤ k := fun k hk => Nat.le_trans HX4.out.size (HT5.out k hk)
            have hdf := Lfr.dfr (g := g) (gd := gd) (gn := gn) (A := A) HX5.out rfl rfl rfl rfl HQW.out ht HF6.out
            obtain ⟨hnw, htv⟩ := Bk.Later.newer (A := A) (L := nextL L1) HX5.out rfl HQW.out ht HN6.out HL6.out
            rw [HBE2.out.1, HBE2.out.2, HOL.out]
            exact ⟨fun _ => ⟨X6, by rw [hq6]; rfl, HL6.out, HN6.out.g, HN6.out.gd, HN6.out.gn, hdf, hnw, by rw [hq6]; exact HQW.out, htv⟩, fun h => absurd rfl h⟩
          · have HBE2 : Hid (xE = be ∧ xD = D1) := hide ⟨HOE2.out, HOD2.out⟩
            have hee : (be != 0) = true := by simpa using hbe
            have HBN := hide hbe
            clear hbe
            go_wp2_with (first
              | (go_at_call 44; (with_reducible refine KFN.out.mono ?_); rintro e w5 ⟨rfl, ha5, hl5⟩; obtain ⟨tv, hl5, ht5⟩ := hl5 rfl; have HL5 := hide hl5; have HT5 := hide ht5; have HX5 := hide (HX4.out.alt ha5 HQW.out); clear ha5 hl5 ht5)
              | (go_at_call 45; (with_reducible refine (KBG.out w5 tv HL5.out).mono ?_); rintro e w6 ⟨X6, rfl, hl6, hf6, hn6⟩; have HL6 := hide hl6; have HF6 := hide hf6; have HN6 := hide hn6; clear hl6 hf6 hn6))
            go_ret2
            have ht : ∀ k, tv.ownBlock = some k → w.heap.size ≤ k := fun k hk => Nat.le_trans HX4.out.size (HT5.out k hk)
            have hdf := Lfr.dfr (g := g) (gd := gd) (gn := gn) (A := A) HX5.out rfl rfl rfl rfl HQW.out ht HF6.out
            obtain ⟨hnw, htv⟩ := Bk.Later.newer (A := A) (L := nextL L1) HX5.out rfl HQW.out ht HN6.out HL6.out
            have hdk := HL6.out.disk
            rw [HN6.out.g, HN6.out.gd, HN6.out.gn] at hdk
            rw [HBE2.out.1, HBE2.out.2]
            exact OPost.no HBN.out ⟨X6.A, X6.c, rfl, hdk, hdf, hnw⟩
        · have HE : Hid (xE = fe ∧ xD = D) := hide (by rw [HOE2.out, HOD2.out, if_pos hfe, if_pos hfe]; exact ⟨rfl, rfl⟩)
          have hee : (fe != 0) = true := by simpa using hfe
          have HFE2 := hide hfe
          clear hfe
          go_wp2_with (go_at_call 44; (with_reducible refine KFN.out.mono ?_); rintro e w5 ⟨rfl, ha5, -⟩; have HX5 := hide (HX4.out.alt ha5 HQW.out); clear ha5)
          go_ret2
          rw [HE.out.1, HE.out.2]
          exact OPost.no HFE2.out (DPost.same HD.out HX5.out rfl)
      · have HE : Hid (xE = 3 ∧ xD = D) := hide (by rw [HOE.out, HOD.out, if_pos (by omega), if_pos (by omega)]; exact ⟨rfl, rfl⟩)
        have hnw : IntKind.u64.wrap (n : Int) = (n : Int) := by rw [IntKind.wrap_u64]; omega
        have hni : ((H.cn : Int) != (n : Int)) = true := by simp; omega
        clear h b hx0 hf hmx hp ho hT h1 h2 i0 i4 i5 hfi hst hcn
        go_enter Tryd.func17, Tryd.ntmps17
        go_wp2_with (first
          | (go_at_call 42; (with_reducible refine KF.out.mono ?_); rintro e w2 ⟨rfl, rfl⟩)
          | (go_at_call 43; (with_reducible refine KR.out.mono ?_); rintro e w2 ⟨rfl, hx2⟩; unfold Hd.cs; have c5 := (Rw.new w2 73 H.cs).cell (i := 5) rfl; unfold Hd.cs at c5; have HX2 := hide (hx2.trans (Ext.alloc w2 (.cells H.cs.toArray 73))); clear hx2))
        go_ret2
        rw [HE.out.1, HE.out.2]
        exact OPost.no (by decide) (DPost.same HD.out HX2.out rfl)
    · have HE : Hid (xE = er ∧ xD = D) := hide (by rw [HOE.out, HOD.out, if_pos her, if_pos her]; exact ⟨rfl, rfl⟩)
      have hee : (er != 0) = true := by simpa using her
      have HER2 := hide her
      clear h b hx0 hf hmx hp ho hT h1 h2 i0 i4 i5 hfi hst her
      go_enter Tryd.func17, Tryd.ntmps17
      go_wp2_with (first
        | (go_at_call 42; (with_reducible refine KF.out.mono ?_); rintro e w2 ⟨rfl, rfl⟩)
        | (go_at_call 43; (with_reducible refine KR.out.mono ?_); rintro e w2 ⟨rfl, hx2⟩; unfold Hd.cs; have HX2 := hide (hx2.trans (Ext.alloc w2 (.cells H.cs.toArray 73))); clear hx2))
      go_ret2
      rw [HE.out.1, HE.out.2]
      exact OPost.no HER2.out (DPost.same HD.out HX2.out rfl)
  · have HE : Hid (opE D at_ count = 1 ∧ opD D at_ count = D) := hide (by unfold opE opD; rw [hf]; exact ⟨rfl, rfl⟩)
    rw [hf] at KF
    rw [HE.out.1, HE.out.2]
    clear h b hx0 hf hmx hp ho hT h1 h2
    go_enter Tryd.func17, Tryd.ntmps17
    go_wp2_with (go_at_call 42; (with_reducible refine KF.out.mono ?_); rintro e w2 ⟨rfl, rfl⟩)
    go_ret2
    exact OPost.no (by decide) (DPost.same HD.out (Ext.refl _) rfl)
theorem open_nil (at_ count : Int) : Calls Tryd.prog 17 #[.pointer none, .int .i64 at_, .int .i64 count] w (Same w (.tuple #[.pointer none, .int .i64 6])) := by
  have KF := hide (fits_nil (w := w) at_ count)
  go_enter Tryd.func17, Tryd.ntmps17
  go_wp2_with (go_at_call 42; (with_reducible refine KF.out.mono ?_); rintro e w2 ⟨rfl, rfl⟩)
  go_ret2
  exact ⟨rfl, rfl⟩
end
end Go.Proofs.YtdifpbicdicggaaDoor
namespace Go.Proofs.YtdifpbicdicggaaDoor
open Go.RowKit

theorem run_catN (w : World) (base ty : Nat) (v : Value) (l m : List UInt8) (A : Option Addr) (c : Nat) (hown : Own w base v l) (hr : Rd w A m) (hbase : base ≤ w.heap.size) (hlen : l.length + m.length ≤ 140737488355328) :
    ∃ v' w', (Builtin.append_ #[33, 33] ty #[v, .slice A m.length c]).run Tryd.prog w = .ok v' w' ∧ Own w' base v' (l ++ m) ∧ w.grownBy w' v.ownBlock ∧ (v'.ownBlock = v.ownBlock ∨ ∀ k, v'.ownBlock = some k → w.heap.size ≤ k) := by
  obtain ⟨i0, hi, hz0, hz1, hz2⟩ := info_parts info_u8
  rcases A with _ | a
  · have hm : m = [] := by
      cases m with
      | nil => rfl
      | cons x xs => obtain ⟨_, _, hA, _⟩ := hr (by simp); cases hA
    subst hm
    refine ⟨v, w, run_append_from_nil w base _ ty _ i0 1 Tryd.underlying33 hi v _ _ hown c, by rw [List.append_nil]; exact hown, ⟨rfl, rfl, rfl, Nat.le_refl _, fun _ _ _ => rfl⟩, .inl rfl⟩
  · have hc : ∀ j u, (bs m)[j]? = some u → w.cell? (a.add j) = some u := by
      intro j u hu
      by_cases hn : m = []
      · subst hn; simp [bs] at hu
      · exact hr.cells rfl hn j u hu
    obtain ⟨v', w', hrun, h2, h3, _, h5⟩ := run_append_own_at (P := Tryd.prog) w base 33 ty 5 i0 _ 1 1 Tryd.underlying33 hi hz0 hz1 hz2 rfl (by decide) v _ _ hown a m.length c (bs m) (by rw [bs_length]; simp) hc (bs_one m)
      (by unfold maxLen; omega) (by omega) hbase
    refine ⟨v', w', hrun, ?_, h3, ?_⟩
    · unfold Own
      rw [bs_append, List.length_append]
      exact h2
    · rcases h5 with h5 | h5
      · exact .inl h5
      · exact .inr fun k hk => by rw [h5] at hk; injection hk with hk; omega
theorem step_givesV {P : Program} {ops : Array Oper} {o : Oper} {a : Act} {w w' : World} {x : Value} {K : Act → World → Prop} {Q : Exit → Act → World → Prop} {E : Prop} (h : gives P o a w fun v w2 => v = x ∧ w2 = w') (hgd : o.guard = none) (hK : K (a.put o.dst x) w') :
    if Region.wanted o (yielded ops a.tmps) = true then o.wp P a w K Q else E := by
  rw [if_pos (by simp [Region.wanted, hgd])]
  exact wp_of_gives h fun v w2 ⟨hv, hw⟩ => by subst hv hw; exact hK
/-- The two bytes that stand ahead of a record. -/
def be2 (n : Nat) : List UInt8 := (be64 (n : Int)).drop 6
theorem be2_length (n : Nat) : (be2 n).length = 2 := rfl
/-- The log with bytes behind it. -/
def moreL (L : Lg) (p : List UInt8) : Lg := { L with tail := L.tail ++ p }
section
variable {w0 w w1 : World} {X : Bk} {D D' : Dk} {L L' : Lg} {r : Value} {e : Ending} {w' : World}
/-- The tail grown by an append, and stored. -/
theorem LgAt.grow (h : LgAt w0 w X D L) {v' : Value} {w1 : World} {m : List UInt8} (ho : Own w1 w0.heap.size v' (L.tail ++ m)) (hg : w.grownBy w1 X.tv.ownBlock) (hn : v'.ownBlock = X.tv.ownBlock ∨ ∀ k, v'.ownBlock = some k → w.heap.size ≤ k) :
    LgAt w0 (w1.setCell ⟨X.q, 9, none⟩ v') { X with tv := v' } D (moreL L m) ∧ Lfr X w (w1.setCell ⟨X.q, 9, none⟩ v') ∧ ({ X with tv := v' } : Bk).Later X w ∧ Rw w1 X.q 75 (logC X.g X.tv L) := by
  obtain ⟨⟨n1, n2, n3, n4⟩, n5⟩ := h.ne
  have hk : ∀ k, k < w.heap.size → X.tv.ownBlock ≠ some k → w1.heap[k]? = w.heap[k]? := fun k hk hne => hg.block k hk (fun e => hne e.symm)
  have hblk : Rw w1 X.q 75 (logC X.g X.tv L) := (hk X.q h.blk.lt (fun e => (n5 _ e).1 rfl)).trans h.blk
  have hx1 : Ext w0 w1 := Below.grown h.ext hg h.ext.size (fun k hk => (own_block h.tail k hk).1)
  have hd1 : DiskAt w0.heap.size w1 X.g X.gd X.gn X.A X.c D := h.disk.keep1 fun k hkk => by
    rcases hkk with rfl | rfl | rfl | ⟨a, hA, rfl⟩
    · exact hk _ h.disk.blk.lt (fun e => (n5 _ e).2.1 rfl)
    · exact hk _ h.disk.dur.lt (fun e => (n5 _ e).2.2.1 rfl)
    · exact hk _ h.disk.new.lt (fun e => (n5 _ e).2.2.2.1 rfl)
    · exact hk _ (own_base h.disk.pen a hA).2 (fun e => (n5 _ e).2.2.2.2 a hA rfl)
  have ha : Alt X.q X.q w1 (w1.setCell ⟨X.q, 9, none⟩ v') := Alt.set
  refine ⟨⟨hx1.alt ha h.base, hd1.keep1 fun k hkk => ha.2.2 k ?_ ?_, hblk.set 9 v', ho.keep1 fun k hk2 => ha.2.2 k (fun e => ?_) (own_block ho k hk2).2.1, h.base⟩, ?_, ⟨rfl, rfl, rfl, rfl, fun k hk2 => ?_⟩, hblk⟩
  · rcases hkk with rfl | rfl | rfl | ⟨a, hA, rfl⟩
    · exact Ne.symm n1
    · exact Ne.symm n2
    · exact Ne.symm n3
    · exact n4 a hA
  · rcases hkk with rfl | rfl | rfl | ⟨a, hA, rfl⟩
    · exact hd1.blk.lt
    · exact hd1.dur.lt
    · exact hd1.new.lt
    · exact (own_base hd1.pen a hA).2
  · subst e
    exact own_apartR hblk (by decide) ho hk2.symm
  · refine ⟨hg.os, hg.tape, hg.output, by simpa using hg.size, fun k hk2 hnh => ?_⟩
    unfold Bk.has at hnh
    rw [Below.heap_setCell w1 ⟨X.q, 9, none⟩ v' k (fun e => hnh (.inl e))]
    exact hk k hk2 (fun e => hnh (.inr (.inr (.inr (.inr (.inr e))))))
  · unfold Bk.has at hk2 ⊢
    rcases hk2 with hh | hh | hh | hh | hh | hh
    · exact .inl (.inl hh)
    · exact .inl (.inr (.inl hh))
    · exact .inl (.inr (.inr (.inl hh)))
    · exact .inl (.inr (.inr (.inr (.inl hh))))
    · exact .inl (.inr (.inr (.inr (.inr (.inl hh)))))
    · rcases hn with hn | hn
      · exact .inl (.inr (.inr (.inr (.inr (.inr (by rw [← hn]; exact hh))))))
      · exact .inr (hn k hh)
end
end Go.Proofs.YtdifpbicdicggaaDoor
namespace Go.Proofs.YtdifpbicdicggaaDoor
open Go.RowKit

section
variable {w0 w w1 : World} {X : Bk} {D D' : Dk} {L L' : Lg} {r : Value} {e : Ending} {w' : World}
theorem Rd.lfr {P : Option Addr} {p : List UInt8} (h : Rd w P p) (hf : Lfr X w w') (hn : ∀ a, P = some a → ¬ X.has a.block) : Rd w' P p := fun h0 => by
  obtain ⟨b, off, rfl, hc⟩ := h h0
  refine ⟨b, off, rfl, fun j u hu => ?_⟩
  have h1 := hc j u hu
  rw [← h1]
  exact World.cell?_of_block (a := ⟨b, off + j, none⟩) (hf.other b (World.block_lt_of_cell? w _ h1) (hn _ rfl))
theorem not_later {X' : Bk} {P : Option Addr} (hl : X'.Later X w) (hn : ∀ a, P = some a → ¬ X.has a.block) (hlt : ∀ a, P = some a → a.block < w.heap.size) : ∀ a, P = some a → ¬ X'.has a.block := fun a ha hh => by
  rcases hl.has _ hh with h1 | h1
  · exact hn a ha h1
  · have := hlt a ha; omega
def addL (L : Lg) (p : List UInt8) : Lg := moreL (moreL L (be2 p.length)) p
set_option maxRecDepth 20000 in
set_option maxHeartbeats 3200000 in
theorem add_any (h : LgAt w0 w X D L) (ok : L.Ok D) (P : Option Addr) (c n : Nat) (p : List UInt8) (hr : Rd w P p) (hn : p.length = n) (hl : n ≤ 1200) (hP : ∀ a, P = some a → ¬ X.has a.block ∧ a.block < w.heap.size) (htl : L.tail.length < 500000000) :
    Calls Tryd.prog 49 #[.pointer (some ⟨X.q, 0, none⟩), .slice P n c] w (LPost w0 w X (.int .u64 (endOf L : Int)) D (addL L p)) := by
  have HL := hide h
  have HTL := hide htl
  have HR := hide hr
  have HN := hide hn
  have HP := hide hP
  have KE := hide (end_any h ok)
  have KU : Hid (∀ W, Calls Tryd.prog 64 #[.int .u64 (n : Int)] W (Ret W (Bytes (be64 (n : Int))))) := hide (fun W => uint_any (n : Int) W (by omega) (by omega))
  obtain ⟨q8, HQ8⟩ : ∃ q8, Hid (be64 (n : Int) = q8) := ⟨_, hide rfl⟩
  have HQ8L : Hid (q8.length = 8) := hide (by rw [← HQ8.out]; rfl)
  have HB2 : Hid (be2 n = q8.drop 6) := hide (by unfold be2; rw [HQ8.out])
  rw [HQ8.out] at KU
  obtain ⟨en, HEN⟩ : ∃ en : Nat, Hid (endOf L = en) := ⟨_, hide rfl⟩
  rw [HEN.out] at KE ⊢
  have hnw : IntKind.u64.wrap (n : Int) = (n : Int) := by rw [IntKind.wrap_u64]; omega
  have HNL := hide hl
  clear h ok hr hn hP htl hl
  go_enter Tryd.func49, Tryd.ntmps49
  go_upto_region 3 with (first
    | (go_at_call 15; (with_reducible refine KE.out.mono ?_); rintro e w1 ⟨rfl, m1, rfl⟩)
    | (go_at_call 64; (with_reducible refine (KU.out _).mono ?_); rintro e w2 ⟨v2, rfl, hx2, A2, c2, rfl, hc2, hr2⟩; have HX2 : Hid (Ext w w2) := hide (((Ext.refl w).drewN _).trans hx2); have HC2 := hide hc2; have HR2 := hide hr2; clear hc2 hr2 hx2))
  rw [HQ8L.out] at HC2 ⊢
  obtain ⟨b2, off2, u2, rfl, -, -⟩ := HR2.out.at (k := 0) (by rw [HQ8L.out]; decide)
  have HL2 := hide (HL.out.ext_ HX2.out)
  have c9 := HL2.out.blk.cell (i := 9) rfl
  have hcc : ¬ c2 = 6 := by have := HC2.out; omega
  have hcc2 : 6 ≤ c2 := by have := HC2.out; omega
  have HR6 : Hid (Rd w2 (some ⟨b2, off2 + 6, none⟩) (q8.drop 6)) := hide (by have hd := HR2.out.drop 6; rw [add_flat] at hd; exact hd)
  have HQ6 : Hid ((q8.drop 6).length = 2) := hide (by rw [List.length_drop, HQ8L.out])
  obtain ⟨q6, HQ6E⟩ : ∃ q6, Hid (q8.drop 6 = q6) := ⟨_, hide rfl⟩
  rw [HQ6E.out] at HR6 HQ6 HB2
  obtain ⟨t1, HT1⟩ : ∃ t1, Hid (L.tail ++ q6 = t1) := ⟨_, hide rfl⟩
  obtain ⟨n1, HN1⟩ : ∃ n1, Hid (t1.length = n1) := ⟨_, hide rfl⟩
  obtain ⟨t2, HT2⟩ : ∃ t2, Hid ((L.tail ++ q6) ++ p = t2) := ⟨_, hide rfl⟩
  obtain ⟨n2, HN2⟩ : ∃ n2, Hid (t2.length = n2) := ⟨_, hide rfl⟩
  have HT1L : Hid ((L.tail ++ q6).length < 600000000) := hide (by rw [List.length_append, HQ6.out]; have := HTL.out; omega)
  have hw6 : IntKind.i64.wrap 6 = 6 := by decide
  go_region_law (first
    | (obtain ⟨v3, w3, hrun, ho3, hg3, hn3⟩ := run_catN w2.drew w0.heap.size 33 X.tv L.tail q6 (some ⟨b2, off2 + 6, none⟩) (c2 - 6) (HL2.out.tail.ext (Ext.drew _)) (HR6.out.ext (Ext.drew _)) (HL2.out.ext.size) (by rw [HQ6.out]; have := HTL.out; omega);
       rw [HQ6.out] at hrun;
       obtain ⟨A3, c3, hv3, -, -⟩ := ho3.bytes; rw [HT1.out, HN1.out] at hv3; subst hv3;
       have HG3 := hide (LgAt.grow (HL2.out.ext_ (Ext.drew _)) ho3 hg3 hn3);
       have c9b := HG3.out.2.2.2.cell (i := 9) rfl; have f9b := HG3.out.2.2.2.frozen 9;
       refine step_givesV (gives_append (s := .tmp 17) (x := .tmp 22) rfl (by rfl) (by rfl) hrun ⟨rfl, rfl⟩) rfl ?_;
       clear ho3 hg3 hn3))
  have HL4 := hide HG3.out.1
  have HF4 : Hid (Lfr X w (w3.setCell ⟨X.q, 9, none⟩ (.slice A3 n1 c3))) := hide ((Lfr.ext (HX2.out.trans (Ext.drew _))).trans HG3.out.2.1 (Bk.Later.refl _ _))
  have HN4 : Hid (({ X with tv := .slice A3 n1 c3 } : Bk).Later X w) := hide (HG3.out.2.2.1.up (HX2.out.trans (Ext.drew _)).size)
  obtain ⟨w4, hw4⟩ : ∃ w4, w3.setCell ⟨X.q, 9, none⟩ (.slice A3 n1 c3) = w4 := ⟨_, rfl⟩
  rw [hw4] at HL4 HF4 ⊢
  have HR4 : Hid (Rd w4 P p) := hide (HR.out.lfr HF4.out (fun a ha => (HP.out a ha).1))
  have d9 := HL4.out.blk.cell (i := 9) rfl
  simp only at d9
  clear c9 c9b f9b hcc hcc2 hw6 hw4
  obtain ⟨v5, w5, hrun5, ho5, hg5, hn5⟩ := run_catN w4 w0.heap.size 33 (.slice A3 n1 c3) (L.tail ++ q6) p P c HL4.out.tail HR4.out HL4.out.ext.size (by rw [HN.out]; have := HT1L.out; have := HNL.out; omega)
  rw [HN.out] at hrun5
  obtain ⟨A5, c5, hv5, -, -⟩ := ho5.bytes
  rw [HT2.out, HN2.out] at hv5
  subst hv5
  have HG5 := hide (LgAt.grow HL4.out ho5 hg5 hn5)
  have d9b := HG5.out.2.2.2.cell (i := 9) rfl
  have f9b := HG5.out.2.2.2.frozen 9
  simp only at d9b f9b
  have HRUN := hide hrun5
  clear ho5 hg5 hn5 hrun5
  go_wp2_with ((with_reducible show wpList _ _ _ (⟨some 32, _, _, _, _, _⟩ :: _) _ _); refine wpList_gives (gives_append (s := .tmp 30) (x := .tmp 31) rfl rfl rfl HRUN.out ⟨rfl, rfl⟩) rfl ?_)
  go_ret
  refine ⟨{ X with tv := .slice A5 n2 c5 }, rfl, ?_, HF4.out.trans HG5.out.2.1 HN4.out, HN4.out.trans HG5.out.2.2.1 HF4.out.size⟩
  have e1 : addL L p = moreL (moreL L q6) p := by unfold addL; rw [HN.out, HB2.out]
  rw [e1]
  exact HG5.out.1
end
end Go.Proofs.YtdifpbicdicggaaDoor
namespace Go.Proofs.YtdifpbicdicggaaDoor
open Go.RowKit

/-- What Append answers. -/
def apE (L : Lg) (n : Nat) (hold : Int) : Int := if n = 0 ∨ hold < 0 then 1 else if n > 1200 then 2 else if hold > roomOf L - 2 - (n : Int) then 9 else 0
def heldL (L : Lg) (hold : Int) : Lg := { L with held := L.held + hold.toNat }
def apL (L : Lg) (p : List UInt8) (hold : Int) : Lg := if apE L p.length hold = 0 then addL (heldL L hold) p else L
def apR (L : Lg) (p : List UInt8) (hold : Int) : Value := .tuple #[.int .u64 (if apE L p.length hold = 0 then (endOf L : Int) else 0), .int .i64 (apE L p.length hold)]
section
variable {w0 w w1 : World} {X : Bk} {D D' : Dk} {L L' : Lg} {r : Value} {e : Ending} {w' : World}
theorem LPost.still (h : LgAt w0 w X D L) (hx : Ext w w') (he : e = .returned r) : LPost w0 w X r D L e w' := ⟨X, he, h.ext_ hx, Lfr.ext hx, Bk.Later.refl _ _⟩
theorem append_nil (P : Option Addr) (n c : Nat) (hold : Int) : Calls Tryd.prog 23 #[.pointer none, .slice P n c, .int .i64 hold] w (Same w (.tuple #[.int .u64 0, .int .i64 6])) := by
  go_enter Tryd.func23, Tryd.ntmps23
  go_wp2
  go_ret2
  exact ⟨rfl, rfl⟩
set_option maxRecDepth 20000 in
set_option maxHeartbeats 3200000 in
theorem append_any (h : LgAt w0 w X D L) (ok : L.Ok D) (hs : L.hd.st < 576460752303423488) (P : Option Addr) (c n : Nat) (p : List UInt8) (hold : Int) (hr : Rd w P p) (hn : p.length = n) (hl : n ≤ 140737488355328) (hP : ∀ a, P = some a → ¬ X.has a.block ∧ a.block < w.heap.size) (htl : L.tail.length < 500000000) (hh : -9223372036854775808 ≤ hold ∧ hold < 9223372036854775808) :
    Calls Tryd.prog 23 #[.pointer (some ⟨X.q, 0, none⟩), .slice P n c, .int .i64 hold] w (LPost w0 w X (apR L p hold) D (apL L p hold)) := by
  have HL := hide h
  have HOK := hide ok
  obtain ⟨er, HER⟩ : ∃ er, Hid (apE L n hold = er) := ⟨_, hide rfl⟩
  have HAR : Hid (apR L p hold = .tuple #[.int .u64 (if er = 0 then (endOf L : Int) else 0), .int .i64 er]) := hide (by unfold apR; rw [hn, HER.out])
  have HAL : Hid (apL L p hold = if er = 0 then addL (heldL L hold) p else L) := hide (by unfold apL; rw [hn, HER.out])
  rw [HAR.out, HAL.out]
  by_cases h1 : n = 0 ∨ hold < 0
  · have he : er = 1 := by rw [← HER.out]; unfold apE; rw [if_pos h1]
    subst he
    rw [if_neg (by decide), if_neg (by decide)]
    by_cases h0 : n = 0
    · subst h0
      clear h ok hs hr hn hl hP htl hh h1
      go_enter Tryd.func23, Tryd.ntmps23
      go_wp2
      go_ret2
      exact LPost.still HL.out (Ext.refl _) rfl
    · have hh0 : hold < 0 := by omega
      have hn0 : ((n : Int) == 0) = false := by simpa using h0
      clear h ok hs hr hn hl hP htl hh h1 h0
      go_enter Tryd.func23, Tryd.ntmps23
      go_wp2
      go_ret2
      exact LPost.still HL.out (Ext.refl _) rfl
  · have hn0 : ((n : Int) == 0) = false := by simp; omega
    have hh0 : ¬ hold < 0 := by omega
    by_cases h2 : n > 1200
    · have he : er = 2 := by rw [← HER.out]; unfold apE; rw [if_neg h1, if_pos h2]
      subst he
      rw [if_neg (by decide), if_neg (by decide)]
      have hni : (1200 : Int) < (n : Int) := by omega
      clear h ok hs hr hn hl hP htl hh h1 h2
      go_enter Tryd.func23, Tryd.ntmps23
      go_wp2
      go_ret2
      exact LPost.still HL.out (Ext.refl _) rfl
    · have hni : ¬ (1200 : Int) < (n : Int) := by omega
      have KR := hide (room_any h ok (by omega))
      have hrb : -3000000000000000000 < roomOf L ∧ roomOf L < 3000000000000000000 := by
        have e1 := endOf_lt ok
        have e2 := ok.held
        have e3 := ok.cn
        unfold roomOf; omega
      obtain ⟨rm, HRM⟩ : ∃ rm, Hid (roomOf L = rm) := ⟨_, hide rfl⟩
      rw [HRM.out] at KR hrb
      have hw1 : IntKind.i64.wrap (rm - 2) = rm - 2 := by rw [IntKind.wrap_i64]; omega
      have hw2 : IntKind.i64.wrap (rm - 2 - (n : Int)) = rm - 2 - (n : Int) := by rw [IntKind.wrap_i64]; omega
      by_cases h3 : hold > rm - 2 - (n : Int)
      · have he : er = 9 := by rw [← HER.out]; unfold apE; rw [if_neg h1, if_neg h2, HRM.out, if_pos h3]
        subst he
        rw [if_neg (by decide), if_neg (by decide)]
        have h3i : rm - 2 - (n : Int) < hold := h3
        clear h ok hs hr hn hl hP htl hh h1 h2 h3 hrb
        go_enter Tryd.func23, Tryd.ntmps23
        go_wp2_with (go_at_call 29; (with_reducible refine KR.out.mono ?_); rintro e w1 ⟨rfl, m1, rfl⟩)
        go_ret2
        exact LPost.still HL.out ((Ext.refl _).drewN _) rfl
      · have he : er = 0 := by rw [← HER.out]; unfold apE; rw [if_neg h1, if_neg h2, HRM.out, if_neg h3]
        subst he
        rw [if_pos rfl, if_pos rfl]
        have h3i : ¬ rm - 2 - (n : Int) < hold := by omega
        have c10 := h.blk.cell (i := 10) rfl
        have f10 := h.blk.frozen 10
        have hhe := ok.held
        have hhw : IntKind.i64.wrap ((L.held : Int) + hold) = (L.held : Int) + hold := by rw [IntKind.wrap_i64]; omega
        have hhc : (L.held : Int) + hold = ((L.held + hold.toNat : Nat) : Int) := by omega
        have HHC := hide hhc
        have HR := hide hr
        have HN := hide hn
        have HP := hide hP
        have HTL := hide htl
        have hn12 : n ≤ 1200 := by omega
        have HN12 := hide hn12
        obtain ⟨hs2, HHS⟩ : ∃ hs2 : Int, Hid ((L.held : Int) + hold = hs2) := ⟨_, hide rfl⟩
        rw [HHS.out] at hhw
        have hhw2 : wrap64 ((L.held : Int) + hold) = hs2 := by rw [← HHS.out]; unfold wrap64; omega
        have HL1 : Hid (∀ m, LgAt w0 ((w.drewN m).setCell ⟨X.q, 10, none⟩ (.int .i64 hs2)) X D (heldL L hold)) := hide (fun m => (HL.out.ext_ ((Ext.refl w).drewN m)).put 10 (.int .i64 hs2) (heldL L hold) rfl (by rw [← HHS.out, HHC.out]; rfl))
        have HF1 : Hid (∀ m, Lfr X w ((w.drewN m).setCell ⟨X.q, 10, none⟩ (.int .i64 hs2))) := hide (fun m => (Lfr.ext ((Ext.refl w).drewN m)).trans (Lfr.cell X _ 10 _) (Bk.Later.refl _ _))
        have HOK1 : Hid ((heldL L hold).Ok D) := hide (by
          refine ⟨ok.hd, ok.cn, ok.at_, ok.sure, ok.tail, ?_⟩
          show L.held + hold.toNat < _
          have := ok.cn.2
          have h5 : roomOf L = ((L.hd.st / 480 + L.hd.cn) * 480 : Nat) - (endOf L : Int) - (L.held : Int) := rfl
          rw [HRM.out] at h5
          omega)
        have KA : Hid (∀ m, Calls Tryd.prog 49 #[.pointer (some ⟨X.q, 0, none⟩), .slice P n c] ((w.drewN m).setCell ⟨X.q, 10, none⟩ (.int .i64 hs2)) (LPost w0 ((w.drewN m).setCell ⟨X.q, 10, none⟩ (.int .i64 hs2)) X (.int .u64 (endOf L : Int)) D (addL (heldL L hold) p))) := hide (fun m =>
          add_any (HL1.out m) HOK1.out P c n p (HR.out.lfr (HF1.out m) (fun a ha => (HP.out a ha).1)) HN.out HN12.out (fun a ha => ⟨(HP.out a ha).1, Nat.lt_of_lt_of_le (HP.out a ha).2 (HF1.out m).size⟩) HTL.out)
        clear h ok hs hr hn hl hP htl hh h1 h2 h3 hrb hhe hhc hn12
        go_enter Tryd.func23, Tryd.ntmps23
        go_wp2_with (first
          | (go_at_call 29; (with_reducible refine KR.out.mono ?_); rintro e w1 ⟨rfl, m1, rfl⟩)
          | (go_at_call 49; (with_reducible refine (KA.out m1).mono ?_); rintro e w2 hp2; have HP2 := hide hp2; obtain ⟨X2, rfl, -⟩ := hp2))
        go_ret2
        obtain ⟨X2, he2, hl2, hf2, hn2⟩ := HP2.out
        exact ⟨X2, rfl, hl2, (HF1.out m1).trans hf2 (Bk.Later.refl _ _), hn2.up (HF1.out m1).size⟩
end
end Go.Proofs.YtdifpbicdicggaaDoor
namespace Go.Proofs.YtdifpbicdicggaaDoor
open Go.RowKit

section
variable {w0 w w1 : World} {X : Bk} {D D' : Dk} {L L' : Lg} {r : Value} {e : Ending} {w' : World}
def RsPost (w : World) (l : List UInt8) (n : Nat) (e : Ending) (w' : World) : Prop := ∃ b off c, e = .returned (.tuple #[.slice (some ⟨b, off, none⟩) n c, .int .i64 0]) ∧ n ≤ c ∧ Rd w' (some ⟨b, off, none⟩) l ∧ Ext w w'
set_option maxRecDepth 20000 in
set_option maxHeartbeats 1600000 in
theorem rest_tail (h : LgAt w0 w X D L) (ok : L.Ok D) (i nt : Nat) (hnt : L.tail.length = nt) (hi : i < nt) : Calls Tryd.prog 65 #[.pointer (some ⟨X.q, 0, none⟩), .int .u64 ((flo L.sure + i : Nat) : Int)] w (RsPost w (L.tail.drop i) (nt - i)) := by
  have HL := hide h
  have KT : Hid (∀ W, Ext w W → Calls Tryd.prog 35 #[.pointer (some ⟨X.q, 0, none⟩)] W (Same W (.int .u64 (flo L.sure : Int)))) := hide (fun W hW => tailAt_any (h.ext_ hW) ok)
  obtain ⟨At, ct, htv, hct, hrt⟩ := h.tail.bytes
  have HRT := hide hrt
  obtain ⟨b, off, u, rfl, -, -⟩ := hrt.at (k := 0) (by omega)
  have c9 := h.blk.cell (i := 9) rfl
  rw [htv, hnt] at c9
  rw [hnt] at hct
  have hsu := ok.sure
  have htl := ok.tail
  have hfl := flo_le L.sure
  obtain ⟨f, HF⟩ : ∃ f : Nat, Hid (flo L.sure = f) := ⟨_, hide rfl⟩
  rw [HF.out] at KT hfl ⊢
  obtain ⟨x, HX⟩ : ∃ x : Int, Hid (((f + i : Nat) : Int) = x) := ⟨_, hide rfl⟩
  have hge : (f : Int) ≤ x := by rw [← HX.out]; omega
  have hlt : ¬ x < (f : Int) := by omega
  have hxw : IntKind.u64.wrap (x - (f : Int)) = (i : Int) := by rw [IntKind.wrap_u64, ← HX.out]; omega
  rw [HX.out]
  have hii : (i : Int) ≤ (nt : Int) := by omega
  have hii2 : i ≤ nt := by omega
  have hcc : ¬ ct = i := by omega
  have HCT := hide hct
  have HI := hide hi
  have HNT := hide hnt
  clear h ok htv hct hrt hsu htl hfl hi hnt
  go_enter Tryd.func65, Tryd.ntmps65
  go_upto_region 2 with (go_at_call 35; (with_reducible refine (KT.out _ (Ext.refl _)).mono ?_); rintro e w2 ⟨rfl, rfl⟩)
  go_region_law (first
    | (go_simp; go_at_call 35; (with_reducible refine (KT.out _ (Ext.drew _)).mono ?_); rintro e w2 ⟨rfl, rfl⟩))
  all_goals
    go_wp2
    go_ret2
    refine ⟨b, off + i, ct - i, rfl, by have := HCT.out; omega, ?_, Ext.drew _⟩
    have hd := (HRT.out.ext (Ext.drew w)).drop i
    rw [add_flat] at hd
    exact hd
set_option maxRecDepth 20000 in
set_option maxHeartbeats 3200000 in
theorem bytes_tail (h : LgAt w0 w X D L) (ok : L.Ok D) (i n nt : Nat) (hnt : L.tail.length = nt) (hn : 0 < n) (hi : i + n ≤ nt) : Calls Tryd.prog 50 #[.pointer (some ⟨X.q, 0, none⟩), .int .u64 ((flo L.sure + i : Nat) : Int), .int .i64 (n : Int)] w (ThPost w ((L.tail.drop i).take n) 0) := by
  have HL := hide h
  have HOK := hide ok
  have KE := hide (end_any h ok)
  have hsu := ok.sure
  have htl := ok.tail
  have hfl := flo_le L.sure
  have HE : Hid (endOf L = flo L.sure + nt) := hide (by unfold endOf; rw [hnt])
  rw [HE.out] at KE
  have KR : Hid (∀ W, Ext w W → Calls Tryd.prog 65 #[.pointer (some ⟨X.q, 0, none⟩), .int .u64 ((flo L.sure + i : Nat) : Int)] W (RsPost W (L.tail.drop i) (nt - i))) := hide (fun W hW => rest_tail (h.ext_ hW) ok i nt hnt (by omega))
  have HDL : Hid ((L.tail.drop i).length = nt - i) := hide (by rw [List.length_drop, hnt])
  obtain ⟨x, HX⟩ : ∃ x : Int, Hid (((flo L.sure + i : Nat) : Int) = x) := ⟨_, hide rfl⟩
  obtain ⟨m, HM⟩ : ∃ m, Hid (nt - i = m) := ⟨_, hide rfl⟩
  obtain ⟨dl, HD⟩ : ∃ dl, Hid (L.tail.drop i = dl) := ⟨_, hide rfl⟩
  rw [HX.out] at KR ⊢
  have HXX := HX.out
  have hw1 : IntKind.u64.wrap (((flo L.sure + nt : Nat) : Int) - x) = (m : Int) := by rw [IntKind.wrap_u64, ← HX.out, ← HM.out]; omega
  obtain ⟨y, HY⟩ : ∃ y : Int, Hid (((flo L.sure + nt : Nat) : Int) = y) := ⟨_, hide rfl⟩
  have hx0 : 0 ≤ x ∧ x < 1200000000000000000 := by rw [← HX.out]; omega
  rw [HY.out] at KE hw1
  rw [HM.out] at KR HDL
  rw [HD.out] at KR HDL ⊢
  have hnm : n ≤ m := by rw [← HM.out]; omega
  have hnw : IntKind.u64.wrap (n : Int) = (n : Int) := by rw [IntKind.wrap_u64]; omega
  have hxw : IntKind.u64.wrap x = x := by rw [IntKind.wrap_u64]; omega
  have HNM := hide hnm
  have hnmi : ¬ (m : Int) < (n : Int) := by omega
  have hn0 : (0 : Int) < (n : Int) := by omega
  have hnn : n < 1073741824 := by omega
  have HNN := hide hnn
  have HTK : Hid ((dl.take n).length = n) := hide (by rw [List.length_take, HDL.out]; omega)
  clear h ok hsu htl hfl HXX hx0 hn hi hnt hnn
  have HMIN : Hid ((if n < m then (n : Int) else (m : Int)) = (n : Int)) := hide (by split <;> omega)
  go_enter Tryd.func50, Tryd.ntmps50
  go_wp2_with (go_at_call 15; (with_reducible refine KE.out.mono ?_); rintro e w1 ⟨rfl, m1, rfl⟩)
  refine wp_loop_rounds 2 ?_
  rw [rounds_succ]
  go_upto_region 8 with (go_at_call 65; (with_reducible refine (KR.out _ ((Ext.refl w).drewN _)).mono ?_); rintro e w2 ⟨b, off, c, rfl, hc, hr, hx2⟩; have HC := hide hc; have HR := hide hr; have HX2 : Hid (Ext w w2) := hide (((Ext.refl w).drewN _).trans hx2); clear hc hr hx2)
  obtain ⟨tk, HTKE⟩ : ∃ tk, Hid (dl.take n = tk) := ⟨_, hide rfl⟩
  have HRT : Hid (Rd w2 (some ⟨b, off, none⟩) tk) := hide (by rw [← HTKE.out]; exact HR.out.take n)
  rw [HTKE.out] at HTK
  have hnn2 : ¬ (n : Int) < (n : Int) := by omega
  have hw64 : wrap64 (n : Int) = (n : Int) := by unfold wrap64; have := HNN.out; omega
  have hnm3 : n ≤ c := by have := HC.out; have := HNM.out; omega
  go_wp2_with (first
    | ((with_reducible show wpList _ _ _ (⟨some 44, _, _, _, _, _⟩ :: _) _ _); refine wpList_gives (gives_cut (m := n) rfl Tryd.underlying33 (by kernel_rfl) rfl (by first | rfl | exact congrArg (Value.int .i64) HMIN.out) (by have := HC.out; have := HNM.out; omega) ⟨rfl, rfl⟩) rfl ?_)
    | ((with_reducible show wpList _ _ _ (⟨some 45, _, _, _, _, _⟩ :: _) _ _); refine wpList_catG rfl (.tmp 35) (.tmp 44) rfl w.heap.size (.slice none 0 0) [] tk (some ⟨b, off, none⟩) n c rfl rfl HTK.out.symm (Own.nil _ _) HRT.out HX2.out.size (by rw [HTK.out]; have := HNN.out; show 0 + n ≤ 140737488355328; omega) ?_; intro v4 w4 ho4 hb4 hs4; rw [List.nil_append] at ho4; obtain ⟨A4, c4, hv4, -, -⟩ := ho4.bytes; rw [HTK.out] at hv4; subst hv4; have HO4 := hide ho4; have HX4 : Hid (Ext w w4) := hide (Below.trans HX2.out hb4); clear ho4 hb4 hs4))
  all_goals
    rw [rounds_succ]
    go_wp2
    go_ret2
    exact ⟨_, rfl, by rw [HTKE.out]; exact HO4.out, HX4.out⟩
end
end Go.Proofs.YtdifpbicdicggaaDoor
namespace Go.Proofs.YtdifpbicdicggaaDoor
open Go.RowKit

section
variable {w0 w w1 : World} {X : Bk} {D D' : Dk} {L L' : Lg} {r : Value} {e : Ending} {w' : World}
theorem read_nil_log (a : Int) : Calls Tryd.prog 25 #[.pointer none, .int .u64 a] w (Same w (.tuple #[.slice none 0 0, .int .u64 0, .int .i64 6])) := by
  go_enter Tryd.func25, Tryd.ntmps25
  go_wp2
  go_ret3
  exact ⟨rfl, rfl⟩
set_option maxRecDepth 20000 in
set_option maxHeartbeats 3200000 in
theorem read_tail (h : LgAt w0 w X D L) (ok : L.Ok D) (hd : D.off = false) (i k nt : Nat) (hnt : L.tail.length = nt) (hk : 0 < k) (hi : i + 2 + k ≤ nt) (hf : L.hd.fi ≤ flo L.sure + i) (hsz : szOf ((L.tail.drop i).take 2) = k) :
    Calls Tryd.prog 25 #[.pointer (some ⟨X.q, 0, none⟩), .int .u64 ((flo L.sure + i : Nat) : Int)] w
      (fun e w' => ∃ v, e = .returned (.tuple #[v, .int .u64 ((flo L.sure + i + 2 + k : Nat) : Int), .int .i64 0]) ∧ Own w' w.heap.size v ((L.tail.drop (i + 2)).take k) ∧ Ext w w') := by
  have HL := hide h
  have KE : Hid (∀ W, Ext w W → Calls Tryd.prog 15 #[.pointer (some ⟨X.q, 0, none⟩)] W (fun e w' => e = .returned (.int .u64 (endOf L : Int)) ∧ ∃ m, w' = W.drewN m)) := hide (fun W hW => end_any (h.ext_ hW) ok)
  have hsu := ok.sure
  have htl := ok.tail
  have hfl := flo_le L.sure
  have hk12 : k ≤ 1200 := by rw [← hsz]; exact szOf_le _
  have HE : Hid (endOf L = flo L.sure + nt) := hide (by unfold endOf; rw [hnt])
  rw [HE.out] at KE
  have KB1 : Hid (∀ W, Ext w W → Calls Tryd.prog 50 #[.pointer (some ⟨X.q, 0, none⟩), .int .u64 ((flo L.sure + i : Nat) : Int), .int .i64 2] W (ThPost W ((L.tail.drop i).take 2) 0)) := hide (fun W hW => bytes_tail (h.ext_ hW) ok i 2 nt hnt (by decide) (by omega))
  have KB2 : Hid (∀ W, Ext w W → Calls Tryd.prog 50 #[.pointer (some ⟨X.q, 0, none⟩), .int .u64 ((flo L.sure + (i + 2) : Nat) : Int), .int .i64 (k : Int)] W (ThPost W ((L.tail.drop (i + 2)).take k) 0)) := hide (fun W hW => bytes_tail (h.ext_ hW) ok (i + 2) k nt hnt hk (by omega))
  have KON : Hid (∀ W, Ext w W → Calls Tryd.prog 9 #[.pointer (some ⟨X.g, 0, none⟩)] W (Same W (.bool true))) := hide (fun W hW => by
    have k := on_any (h.disk.ext hW)
    rw [hd] at k
    exact k)
  obtain ⟨sp, HSP⟩ : ∃ sp, Hid ((L.tail.drop i).take 2 = sp) := ⟨_, hide rfl⟩
  have HSPL : Hid (sp.length = 2) := hide (by rw [← HSP.out, List.length_take, List.length_drop, hnt]; omega)
  obtain ⟨bo, HBO⟩ : ∃ bo, Hid ((L.tail.drop (i + 2)).take k = bo) := ⟨_, hide rfl⟩
  rw [HSP.out] at KB1 hsz
  rw [HBO.out] at KB2 ⊢
  have HBOL : Hid (bo.length = k) := hide (by rw [← HBO.out, List.length_take, List.length_drop, hnt]; omega)
  have KSZ : Hid (∀ (W : World) (A : Option Addr) (c : Nat), Rd W A sp → Calls Tryd.prog 51 #[.slice A 2 c] W (fun e w' => e = .returned (.int .i64 (k : Int)) ∧ Ext W w')) := hide (fun W A c hr => by
    have q := sizeOf_any A sp 2 c W hr HSPL.out (by decide) (by decide)
    rw [hsz] at q
    exact q)
  have c0 := h.blk.cell (i := 0) rfl
  have c5 := h.blk.cell (i := 5) rfl
  obtain ⟨x, HX⟩ : ∃ x : Int, Hid (((flo L.sure + i : Nat) : Int) = x) := ⟨_, hide rfl⟩
  obtain ⟨y, HY⟩ : ∃ y : Int, Hid (((flo L.sure + nt : Nat) : Int) = y) := ⟨_, hide rfl⟩
  have hx0 : 0 ≤ x ∧ x < 1200000000000000000 := by rw [← HX.out]; omega
  have hfx : ¬ x < (L.hd.fi : Int) := by rw [← HX.out]; omega
  have hxy : ¬ y < x := by rw [← HX.out, ← HY.out]; omega
  have hxy2 : (x == y) = false := by rw [← HX.out, ← HY.out]; simp; omega
  have hx2 : ((flo L.sure + (i + 2) : Nat) : Int) = x + 2 := by rw [← HX.out]; omega
  have hx3 : ((flo L.sure + i + 2 + k : Nat) : Int) = x + 2 + (k : Int) := by rw [← HX.out]; omega
  rw [HX.out] at KB1 ⊢
  rw [hx2] at KB2
  rw [hx3]
  rw [HY.out] at KE
  have hw1 : IntKind.u64.wrap (x + 2) = x + 2 := by rw [IntKind.wrap_u64]; omega
  have hw2 : IntKind.u64.wrap (x + 2 + (k : Int)) = x + 2 + (k : Int) := by rw [IntKind.wrap_u64]; omega
  have hw3 : IntKind.u64.wrap (k : Int) = (k : Int) := by rw [IntKind.wrap_u64]; omega
  have hk0 : ((k : Int) == 0) = false := by simp; omega
  clear h ok hd hnt hk hi hf hsz hsu htl hfl hk12 hx0 hx2 hx3
  go_enter Tryd.func25, Tryd.ntmps25
  go_wp2_with (first
    | (go_at_call 15; (with_reducible refine (KE.out _ (Ext.refl w)).mono ?_); rintro e w1 ⟨rfl, m1, rfl⟩)
    | (go_at_call 15; (with_reducible refine (KE.out _ ((Ext.refl w).drewN _)).mono ?_); rintro e w1 ⟨rfl, m2, rfl⟩)
    | (go_at_call 9; (with_reducible refine (KON.out _ ((Ext.refl w).drewN _)).mono ?_); rintro e w1 ⟨rfl, rfl⟩)
    | (go_at_call 50; (with_reducible refine (KB1.out _ ((Ext.refl w).drewN _)).mono ?_); rintro e w4 ⟨v4, rfl, ho4, hx4⟩; obtain ⟨A4, c4, hv4, -, hr4⟩ := ho4.bytes; rw [HSPL.out] at hv4; subst hv4; have HX4 : Hid (Ext w w4) := hide (((Ext.refl w).drewN _).trans hx4); have HR4 := hide hr4; clear ho4 hx4 hr4)
    | (go_at_call 51; (with_reducible refine (KSZ.out _ A4 c4 HR4.out).mono ?_); rintro e w5 ⟨rfl, hx5⟩; have HX5 := hide (HX4.out.trans hx5); clear hx5)
    | (go_at_call 50; (with_reducible refine (KB2.out _ HX5.out).mono ?_); rintro e w6 ⟨v6, rfl, ho6, hx6⟩; have HX6 := hide (HX5.out.trans hx6); have HO6 := hide (ho6.low HX5.out.size); clear ho6 hx6))
  go_ret3
  exact ⟨_, rfl, HO6.out, HX6.out⟩
end
end Go.Proofs.YtdifpbicdicggaaDoor
namespace Go.Proofs.YtdifpbicdicggaaDoor
open Go.RowKit

/-- What rest answers of a place ahead of the end. -/
def rsE (D : Dk) (L : Lg) (a : Nat) : Int :=
  if flo L.sure ≤ a then 0 else if D.off = true then 8 else if ptThere D L a = true ∧ 480 ≤ (ptAt D (secOf L a)).by_.length then 0 else 1
def rsB (D : Dk) (L : Lg) (a : Nat) : List UInt8 :=
  if flo L.sure ≤ a then L.tail.drop (a - flo L.sure) else if D.off = true then [] else if ptThere D L a = true ∧ 480 ≤ (ptAt D (secOf L a)).by_.length then (ptAt D (secOf L a)).by_.drop (a % 480) else []
def RestPost (w : World) (l : List UInt8) (er : Int) (e : Ending) (w' : World) : Prop := ∃ A n c, e = .returned (.tuple #[.slice A n c, .int .i64 er]) ∧ n = l.length ∧ n ≤ c ∧ Rd w' A l ∧ Ext w w'
section
variable {w0 w w1 : World} {X : Bk} {D D' : Dk} {L L' : Lg} {r : Value} {e : Ending} {w' : World}
set_option maxRecDepth 20000 in
set_option maxHeartbeats 1600000 in
theorem rest_any (h : LgAt w0 w X D L) (ok : L.Ok D) (b : Bd D) (a : Nat) (ha : a < endOf L) (hT : Tab w0) : Calls Tryd.prog 65 #[.pointer (some ⟨X.q, 0, none⟩), .int .u64 (a : Int)] w (RestPost w (rsB D L a) (rsE D L a)) := by
  by_cases hin : flo L.sure ≤ a
  · have e1 : rsE D L a = 0 := by unfold rsE; rw [if_pos hin]
    have e2 : rsB D L a = L.tail.drop (a - flo L.sure) := by unfold rsB; rw [if_pos hin]
    rw [e1, e2]
    have hi : a - flo L.sure < L.tail.length := by unfold endOf at ha; omega
    have k := rest_tail h ok (a - flo L.sure) L.tail.length rfl hi
    rw [show flo L.sure + (a - flo L.sure) = a by omega] at k
    refine k.mono fun e w' hp => ?_
    obtain ⟨bb, off, c, rfl, hc, hr, hx⟩ := hp
    exact ⟨_, _, _, rfl, by rw [List.length_drop], hc, hr, hx⟩
  · have hal := endOf_lt ok
    have hgi : ¬ (flo L.sure : Int) ≤ (a : Int) := by omega
    have KT : Hid (Calls Tryd.prog 35 #[.pointer (some ⟨X.q, 0, none⟩)] w (Same w (.int .u64 (flo L.sure : Int)))) := hide (tailAt_any h ok)
    have KP := hide (part_any h ok b a (by omega) hT)
    have HSL : Hid (gE D (secOf L a) = if D.off = true then 8 else 0) := hide (by
      have h1 := secOf_lt ok a
      unfold gE
      rw [if_neg (by omega)])
    have HRE : Hid (rsE D L a = if D.off = true then 8 else if ptThere D L a = true ∧ 480 ≤ (ptAt D (secOf L a)).by_.length then 0 else 1) := hide (by unfold rsE; rw [if_neg hin])
    have HRB : Hid (rsB D L a = if D.off = true then [] else if ptThere D L a = true ∧ 480 ≤ (ptAt D (secOf L a)).by_.length then (ptAt D (secOf L a)).by_.drop (a % 480) else []) := hide (by unfold rsB; rw [if_neg hin])
    have HP48 : Hid ((ptAt D (secOf L a)).by_.length ≤ 480) := hide (ptAt_len _ _)
    unfold PartPost at KP
    obtain ⟨xE, HXE⟩ : ∃ xE, Hid (rsE D L a = xE) := ⟨_, hide rfl⟩
    obtain ⟨xB, HXB⟩ : ∃ xB, Hid (rsB D L a = xB) := ⟨_, hide rfl⟩
    rw [HXE.out] at HRE ⊢
    rw [HXB.out] at HRB ⊢
    obtain ⟨P0, HP0⟩ : ∃ P0, Hid (ptAt D (secOf L a) = P0) := ⟨_, hide rfl⟩
    obtain ⟨q, HQ⟩ : ∃ q, Hid (ptThere D L a = q) := ⟨_, hide rfl⟩
    rw [HP0.out, HQ.out] at KP HRE HRB
    rw [HP0.out] at HP48
    rw [HSL.out] at KP
    obtain ⟨fl, HFL⟩ : ∃ fl, Hid (flo L.sure = fl) := ⟨_, hide rfl⟩
    rw [HFL.out] at KT hgi
    obtain ⟨m, HM⟩ : ∃ m, Hid (a % 480 = m) := ⟨_, hide rfl⟩
    rw [HM.out] at HRB
    have HML : Hid (m < 480) := hide (by rw [← HM.out]; omega)
    have hmi : (a : Int) % 480 = (m : Int) := by rw [← HM.out]; omega
    clear h ok b ha hT hin hal
    go_enter Tryd.func65, Tryd.ntmps65
    go_upto_region 4 with (first
      | (go_at_call 35; (with_reducible refine KT.out.mono ?_); rintro e w2 ⟨rfl, rfl⟩)
      | (go_at_call 70; (with_reducible refine KP.out.mono ?_); rintro e w2 ⟨P, pc, rfl, hpc, hrp, hx2⟩; have HX2 := hide hx2; have HRP := hide hrp; have HPC := hide hpc; clear hpc hrp hx2))
    have HBX : Hid (Rw (w2.alloc (.cells #[.int .u64 P0.num, .int .u64 P0.ep, .int .u64 P0.sz, .slice P P0.by_.length pc] 95)) w2.heap.size 95 [.int .u64 P0.num, .int .u64 P0.ep, .int .u64 P0.sz, .slice P P0.by_.length pc]) := hide (Rw.new w2 95 [.int .u64 P0.num, .int .u64 P0.ep, .int .u64 P0.sz, .slice P P0.by_.length pc])
    have HX3 := hide (HX2.out.trans (Ext.alloc w2 (.cells #[.int .u64 P0.num, .int .u64 P0.ep, .int .u64 P0.sz, .slice P P0.by_.length pc] 95)))
    have HRP3 := hide (HRP.out.ext (Ext.alloc w2 (.cells #[.int .u64 P0.num, .int .u64 P0.ep, .int .u64 P0.sz, .slice P P0.by_.length pc] 95)))
    obtain ⟨bx, HBE⟩ : ∃ bx, Hid (w2.heap.size = bx) := ⟨_, hide rfl⟩
    rw [HBE.out] at HBX ⊢
    generalize w2.alloc (.cells #[.int .u64 P0.num, .int .u64 P0.ep, .int .u64 P0.sz, .slice P P0.by_.length pc] 95) = w3 at *
    clear HX2 HRP HBE
    cases hd : D.off with
    | true =>
      rw [hd, if_pos rfl] at HRE HRB
      have hxe : xE = 8 := HRE.out
      have hxb : xB = [] := HRB.out
      subst hxe hxb
      go_wp2
      go_ret2
      exact ⟨_, _, _, rfl, rfl, Nat.le_refl _, Rd.nil _ _, HX3.out⟩
    | false =>
      rw [hd, if_neg (by decide)] at HRE HRB
      clear hd
      have k3 := HBX.out.cell (i := 3) rfl
      cases q with
      | false =>
        rw [if_neg (by simp)] at HRE HRB
        have hxe : xE = 1 := HRE.out
        have hxb : xB = [] := HRB.out
        subst hxe hxb
        go_wp2
        go_ret2
        exact ⟨_, _, _, rfl, rfl, Nat.le_refl _, Rd.nil _ _, HX3.out⟩
      | true =>
        obtain ⟨n0, HN0⟩ : ∃ n0, Hid (P0.by_.length = n0) := ⟨_, hide rfl⟩
        rw [HN0.out] at HRE HRB HP48 HPC k3 ⊢
        by_cases h48 : 480 ≤ n0
        · rw [if_pos ⟨rfl, h48⟩] at HRE HRB
          have hn48 : n0 = 480 := by have := HP48.out; omega
          subst hn48
          have hxe : xE = 0 := HRE.out
          subst hxe
          obtain ⟨b1, off1, u1, hP1, -, -⟩ := HRP3.out.at (k := 0) (by rw [HN0.out]; decide)
          subst hP1
          have HCUT := hide (HRP3.out.drop m)
          rw [add_flat] at HCUT
          have hs1 : ¬ pc = m := by have := HML.out; have := HPC.out; omega
          have hs2 : m ≤ 480 := by have := HML.out; omega
          have hs3 : (m : Int) ≤ 480 := by omega
          clear h48
          go_wp2
          go_ret2
          refine ⟨_, _, _, rfl, ?_, by have := HPC.out; omega, ?_, HX3.out⟩
          · rw [HRB.out, List.length_drop, HN0.out]
          · rw [HRB.out]
            exact HCUT.out
        · rw [if_neg (fun hh => h48 hh.2)] at HRE HRB
          have hxe : xE = 1 := HRE.out
          have hxb : xB = [] := HRB.out
          subst hxe hxb
          have h48i : (n0 : Int) < 480 := by omega
          clear h48
          go_wp2
          go_ret2
          exact ⟨_, _, _, rfl, rfl, Nat.le_refl _, Rd.nil _ _, HX3.out⟩
end
end Go.Proofs.YtdifpbicdicggaaDoor
namespace Go.Proofs.YtdifpbicdicggaaDoor
open Go.RowKit

/-- What bytes gets, part by part. -/
def byR (D : Dk) (L : Lg) : Nat → Nat → Nat → Int × List UInt8
  | 0, _, _ => (0, [])
  | f + 1, a, n => if n = 0 then (0, []) else if rsE D L a ≠ 0 then (rsE D L a, []) else
      ((byR D L f (a + ((rsB D L a).take n).length) (n - ((rsB D L a).take n).length)).1, (rsB D L a).take n ++ (byR D L f (a + ((rsB D L a).take n).length) (n - ((rsB D L a).take n).length)).2)
def byE (D : Dk) (L : Lg) (a n : Nat) : Int := (byR D L n a n).1
def byB (D : Dk) (L : Lg) (a n : Nat) : List UInt8 := if byE D L a n = 0 then (byR D L n a n).2 else []
def sLen (v : Value) : Nat := match v with
  | .slice _ n _ => n
  | _ => 0
section
variable {w0 w w1 : World} {X : Bk} {D D' : Dk} {L L' : Lg} {r : Value} {e : Ending} {w' : World}
theorem byR_zero (f a : Nat) : byR D L f a 0 = (0, []) := by
  cases f with
  | zero => rfl
  | succ f => unfold byR; rw [if_pos rfl]
theorem rsB_pos (a : Nat) (h0 : rsE D L a = 0) (ha : a < endOf L) : 0 < (rsB D L a).length := by
  unfold rsE at h0
  unfold rsB
  unfold endOf at ha
  split at h0
  · rename_i h
    rw [if_pos h, List.length_drop]
    omega
  · rename_i h
    rw [if_neg h]
    split at h0
    · cases h0
    · rename_i h1
      rw [if_neg h1]
      split at h0
      · rename_i h2
        rw [if_pos h2, List.length_drop]
        have := h2.2
        omega
      · cases h0
set_option maxRecDepth 20000 in
set_option maxHeartbeats 3200000 in
theorem bytes_any (h : LgAt w0 w X D L) (ok : L.Ok D) (b : Bd D) (a n : Nat) (hn : n ≤ 100000) (ha : a + n ≤ endOf L) (hT : Tab w0) : Calls Tryd.prog 50 #[.pointer (some ⟨X.q, 0, none⟩), .int .u64 (a : Int), .int .i64 (n : Int)] w (ThPost w (byB D L a n) (byE D L a n)) := by
  have KE := hide (end_any h ok)
  have hel := endOf_lt ok
  have KR : Hid (∀ W k, Ext w W → k < n → Calls Tryd.prog 65 #[.pointer (some ⟨X.q, 0, none⟩), .int .u64 ((a + k : Nat) : Int)] W (RestPost W (rsB D L (a + k)) (rsE D L (a + k)))) := hide (fun W k hW hk => rest_any (h.ext_ hW) ok b (a + k) (by omega) hT)
  have HPOS : Hid (∀ k, k < n → rsE D L (a + k) = 0 → 0 < (rsB D L (a + k)).length) := hide (fun k hk h0 => rsB_pos (a + k) h0 (by omega))
  obtain ⟨en, HEN⟩ : ∃ en : Nat, Hid (endOf L = en) := ⟨_, hide rfl⟩
  rw [HEN.out] at KE
  obtain ⟨d, HD⟩ : ∃ d : Nat, Hid (en - a = d) := ⟨_, hide rfl⟩
  have HAL : Hid (a + n ≤ en ∧ en < 1200000000000000000) := hide (by have := HEN.out; omega)
  have HNL := hide hn
  have hw1 : IntKind.u64.wrap (n : Int) = (n : Int) := by rw [IntKind.wrap_u64]; omega
  have hw2 : IntKind.u64.wrap ((en : Int) - (a : Int)) = (d : Int) := by rw [IntKind.wrap_u64]; have := HD.out; have := HAL.out; omega
  have hng : ¬ (d : Int) < (n : Int) := by have := HD.out; have := HAL.out; omega
  have hng2 : ¬ d < n := by omega
  obtain ⟨xE, HXE⟩ : ∃ xE, Hid (byE D L a n = xE) := ⟨_, hide rfl⟩
  obtain ⟨xB, HXB⟩ : ∃ xB, Hid (byB D L a n = xB) := ⟨_, hide rfl⟩
  have HXE2 : Hid ((byR D L n (a + 0) (n - 0)).1 = xE) := hide HXE.out
  have HXB2 : Hid (xE = 0 → [] ++ (byR D L n (a + 0) (n - 0)).2 = xB) := hide (fun h0 => by rw [← HXB.out]; unfold byB; rw [HXE.out, if_pos h0]; rfl)
  have HXB3 : Hid (¬ xE = 0 → xB = []) := hide (fun h0 => by rw [← HXB.out]; unfold byB; rw [HXE.out, if_neg h0])
  rw [HXE.out, HXB.out]
  clear h ok b hn ha hT hel
  go_enter Tryd.func50, Tryd.ntmps50
  go_upto_region 4 with (go_at_call 15; (with_reducible refine KE.out.mono ?_); rintro e w1 ⟨rfl, m1, hw1x⟩; have HX1 : Hid (Ext w w1) := hide (by rw [hw1x]; exact (Ext.refl _).drewN m1); clear hw1x)
  try rw [decide_eq_false hng2]
  clear hw1 hw2 hng hng2
  go_loopw [8] (fun v wr => ∃ (k f : Nat) (acc : List UInt8), k ≤ n ∧ n - k ≤ f ∧ acc.length = k ∧ Hid (Own wr w.heap.size v acc) ∧ Hid (Ext w wr) ∧ Hid ((byR D L f (a + k) (n - k)).1 = xE) ∧ Hid (xE = 0 → acc ++ (byR D L f (a + k) (n - k)).2 = xB)) (fun v _ => n - sLen v)
  case atStart => exact ⟨0, n, [], by omega, by omega, rfl, hide (Own.nil _ _), HX1, HXE2, HXB2⟩
  case round =>
    obtain ⟨k, f, acc, hk, hf, hacc, HO, HX, HRE, HRB⟩ := hrel
    obtain ⟨Av, cv, hv, hcv, hrv⟩ := HO.out.bytes
    rw [hacc] at hv
    subst hv
    have HACC := hide hacc
    clear hcv hrv hacc
    by_cases hkn : k < n
    · have hki : (k : Int) < (n : Int) := by omega
      have HKN := hide hkn
      have KRX := hide (KR.out wr k HX.out hkn)
      obtain ⟨rb, HRBE⟩ : ∃ rb, Hid (rsB D L (a + k) = rb) := ⟨_, hide rfl⟩
      obtain ⟨re, HREE⟩ : ∃ re, Hid (rsE D L (a + k) = re) := ⟨_, hide rfl⟩
      unfold RestPost at KRX
      rw [HRBE.out, HREE.out] at KRX
      have hw3 : IntKind.u64.wrap (k : Int) = (k : Int) := by rw [IntKind.wrap_u64]; have := HNL.out; omega
      obtain ⟨ak, HAK⟩ : ∃ ak, Hid (a + k = ak) := ⟨_, hide rfl⟩
      have hw4 : IntKind.u64.wrap ((a : Int) + (k : Int)) = (ak : Int) := by rw [IntKind.wrap_u64]; have := HAK.out; have := HAL.out; omega
      rw [HAK.out] at KRX
      obtain ⟨f1, HF1⟩ : ∃ f1, Hid (f = f1 + 1) := ⟨f - 1, hide (by omega)⟩
      have HUN : Hid (byR D L f (a + k) (n - k) = if re ≠ 0 then (re, []) else ((byR D L f1 (a + k + (rb.take (n - k)).length) (n - k - (rb.take (n - k)).length)).1, rb.take (n - k) ++ (byR D L f1 (a + k + (rb.take (n - k)).length) (n - k - (rb.take (n - k)).length)).2)) := hide (by
        rw [HF1.out, byR, if_neg (by omega), HREE.out, HRBE.out])
      clear hkn
      by_cases hre : re = 0
      · subst hre
        obtain ⟨rr, HRR⟩ : ∃ rr, Hid (n - k = rr) := ⟨_, hide rfl⟩
        obtain ⟨pl, HPL⟩ : ∃ pl, Hid (rb.length = pl) := ⟨_, hide rfl⟩
        obtain ⟨tk, HTK⟩ : ∃ tk, Hid (rb.take rr = tk) := ⟨_, hide rfl⟩
        obtain ⟨t, HT⟩ : ∃ t, Hid (tk.length = t) := ⟨_, hide rfl⟩
        have HTV : Hid ((rr < pl → t = rr) ∧ (¬ rr < pl → t = pl) ∧ 0 < t ∧ t ≤ rr ∧ t ≤ pl) := hide (by
          have h1 := HT.out
          rw [← HTK.out, List.length_take, HPL.out] at h1
          have h2 := HPOS.out k HKN.out HREE.out
          rw [HRBE.out, HPL.out] at h2
          have h3 := HRR.out
          have h4 := HKN.out
          omega)
        have HUN2 : Hid (byR D L f (a + k) rr = ((byR D L f1 (a + (k + t)) (n - (k + t))).1, tk ++ (byR D L f1 (a + (k + t)) (n - (k + t))).2)) := hide (by
          have h1 := HUN.out
          rw [if_neg (by simp), HRR.out, HTK.out, HT.out, show a + k + t = a + (k + t) by omega, show rr - t = n - (k + t) by have := HRR.out; omega] at h1
          exact h1)
        rw [HRR.out, HUN2.out] at HRE HRB
        have hw5 : IntKind.i64.wrap ((n : Int) - (k : Int)) = (rr : Int) := by rw [IntKind.wrap_i64]; have := HRR.out; have := HNL.out; have := HKN.out; omega
        have hmin : ∀ (inst : Decidable (rr < pl)), @ite Int (rr < pl) inst (rr : Int) (pl : Int) = (t : Int) := by
          intro inst
          have h1 := HTV.out
          split
          · rename_i h2; rw [h1.1 h2]
          · rename_i h2; rw [h1.2.1 h2]
        have hmin2 : ∀ (inst : Decidable ((rr : Int) < (pl : Int))), @ite Int ((rr : Int) < (pl : Int)) inst (rr : Int) (pl : Int) = (t : Int) := by
          intro inst
          have h1 := HTV.out
          split
          · rename_i h2; rw [h1.1 (by omega)]
          · rename_i h2; rw [h1.2.1 (by omega)]
        rw [HPL.out] at KRX
        go_upto_region 8 with (go_at_call 65; (with_reducible refine KRX.out.mono ?_); rintro e w2 ⟨A2, n2, c2, rfl, hn2, hc2, hr2, hx2⟩; subst hn2; have HC2 := hide hc2; have HR2 := hide hr2; have HX2 : Hid (Ext w w2) := hide (HX.out.trans hx2); have HO2 : Hid (Own w2 w.heap.size (.slice Av k cv) acc) := hide (HO.out.ext hx2); clear hc2 hr2 hx2)
        have hbb : acc.length + tk.length ≤ 140737488355328 := by rw [HT.out, HACC.out]; have := HNL.out; have := HTV.out; have := HRR.out; have := HKN.out; omega
        have hmc : t ≤ c2 := by have := HTV.out; have := HC2.out; omega
        have hw64 : wrap64 (t : Int) = (t : Int) := by unfold wrap64; have := HTV.out; have := HRR.out; have := HNL.out; omega
        have HTKR : Hid (Rd w2 A2 tk) := hide (by rw [← HTK.out]; exact HR2.out.take rr)
        have HACL : Hid ((acc ++ tk).length = k + t) := hide (by rw [List.length_append, HACC.out, HT.out])
        go_wp2_with (first
          | ((with_reducible show wpList _ _ _ (⟨some 44, _, _, _, _, _⟩ :: _) _ _); refine wpList_gives (gives_cut (m := t) rfl Tryd.underlying33 (by kernel_rfl) rfl rfl hmc ⟨rfl, rfl⟩) rfl ?_)
          | ((with_reducible show wpList _ _ _ (⟨some 45, _, _, _, _, _⟩ :: _) _ _); refine wpList_catG rfl (.tmp 35) (.tmp 44) rfl w.heap.size (.slice Av k cv) acc tk A2 t c2 rfl rfl HT.out.symm HO2.out HTKR.out HX2.out.size hbb ?_; intro v4 w4 ho4 hb4 hs4; obtain ⟨A4, c4, hv4, -, -⟩ := ho4.bytes; rw [HACL.out] at hv4; subst hv4; have HO4 := hide ho4; have HX4 : Hid (Ext w w4) := hide (Below.trans HX2.out hb4); have HACB := hide hbb; clear ho4 hb4 hs4 hmin hmin2 hw64 hmc hbb hw3 hw4 hw5 hki))
        refine ⟨⟨k + t, f1, acc ++ tk, ?_, ?_, HACL.out, HO4, HX4, HRE, hide (fun h0 => by rw [List.append_assoc]; exact HRB.out h0)⟩, ?_⟩
        · have := HTV.out; have := HRR.out; have := HKN.out; omega
        · have := HTV.out; have := HRR.out; have := HF1.out; omega
        · show n - (k + t) < n - k
          have := HTV.out; have := HKN.out; omega
      · have HXR : Hid (re = xE ∧ [] = xB) := hide (by
          have h1 := HRE.out
          rw [HUN.out, if_pos hre] at h1
          have h2 : re = xE := h1
          exact ⟨h2, (HXB3.out (by rw [← h2]; exact hre)).symm⟩)
        have hee : (re != 0) = true := by simpa using hre
        obtain ⟨hx2, hx3⟩ := HXR.out
        subst hx2
        subst hx3
        clear hre
        go_wp2_with (go_at_call 65; (with_reducible refine KRX.out.mono ?_); rintro e w2 ⟨A2, n2, c2, rfl, hn2, hc2, hr2, hx2⟩; have HX2 : Hid (Ext w w2) := hide (HX.out.trans hx2); clear hc2 hr2 hx2 hn2)
        go_ret2
        exact ⟨_, rfl, Own.nil _ _, HX2.out⟩
    · have hkn2 : k = n := by omega
      subst hkn2
      have hki : ¬ (k : Int) < (k : Int) := by omega
      have HZ := HRE.out
      rw [Nat.sub_self, byR_zero] at HZ
      have HZ2 : Hid (acc = xB) := hide (by
        have h1 := HRB.out HZ.symm
        rw [Nat.sub_self, byR_zero, List.append_nil] at h1
        exact h1)
      have hz3 : xE = 0 := HZ.symm
      subst hz3
      clear hkn HZ
      go_wp2
      go_ret2
      exact ⟨_, rfl, by rw [← HZ2.out]; exact HO.out, HX.out⟩
end
end Go.Proofs.YtdifpbicdicggaaDoor
namespace Go.Proofs.YtdifpbicdicggaaDoor
open Go.RowKit

/-- What bytes answers of two bytes at a place. -/
def by2E (D : Dk) (L : Lg) (a : Nat) : Int := if a + 2 ≤ endOf L then byE D L a 2 else 1
def by2B (D : Dk) (L : Lg) (a : Nat) : List UInt8 := if a + 2 ≤ endOf L then byB D L a 2 else []
/-- The first record from a place on. -/
def ffR (D : Dk) (L : Lg) (pl : Nat) : Nat → Nat → Int × Nat
  | 0, a => (0, a)
  | f + 1, a => if pl ≤ a then (0, a) else if by2E D L a ≠ 0 then (by2E D L a, 0) else ffR D L pl f (a + (2 + szOf (by2B D L a)))
def ffZ (D : Dk) (L : Lg) (pl : Nat) : Int × Nat := ffR D L pl (pl + 1 - L.hd.fi) L.hd.fi
section
variable {w0 w w1 : World} {X : Bk} {D D' : Dk} {L L' : Lg} {r : Value} {e : Ending} {w' : World}
theorem byR_len : ∀ (f a n : Nat), n ≤ f → a + n ≤ endOf L → (byR D L f a n).1 = 0 → (byR D L f a n).2.length = n
  | 0, a, n, hf, _, _ => by
    show (0 : Nat) = n
    omega
  | f + 1, a, n, hf, ha, h => by
    unfold byR at h ⊢
    by_cases hn : n = 0
    · rw [if_pos hn] at h ⊢
      exact hn.symm
    · rw [if_neg hn] at h ⊢
      by_cases he : rsE D L a = 0
      · rw [if_neg (by rw [he]; decide)] at h ⊢
        have hp := rsB_pos (D := D) (L := L) a he (by omega)
        have hl : ((rsB D L a).take n).length ≤ n ∧ 0 < ((rsB D L a).take n).length := by rw [List.length_take]; omega
        have k := byR_len f _ _ (by omega) (by omega) h
        rw [List.length_append, k]
        omega
      · rw [if_pos he] at h
        exact absurd h he
theorem by2_len (a : Nat) (h : by2E D L a = 0) : (by2B D L a).length = 2 := by
  unfold by2E at h
  unfold by2B
  split at h
  · rename_i h1
    rw [if_pos h1]
    unfold byB
    rw [if_pos h]
    exact byR_len 2 a 2 (Nat.le_refl _) h1 h
  · cases h
set_option maxHeartbeats 800000 in
theorem bytes_over (h : LgAt w0 w X D L) (ok : L.Ok D) (a n : Nat) (hn : n ≤ 100000) (ha : a ≤ endOf L) (ho : ¬ a + n ≤ endOf L) : Calls Tryd.prog 50 #[.pointer (some ⟨X.q, 0, none⟩), .int .u64 (a : Int), .int .i64 (n : Int)] w (ThPost w [] 1) := by
  have KE := hide (end_any h ok)
  have hel := endOf_lt ok
  obtain ⟨en, HEN⟩ : ∃ en : Nat, Hid (endOf L = en) := ⟨_, hide rfl⟩
  rw [HEN.out] at KE ha ho hel
  obtain ⟨d, HD⟩ : ∃ d : Nat, Hid (en - a = d) := ⟨_, hide rfl⟩
  have hw1 : IntKind.u64.wrap (n : Int) = (n : Int) := by rw [IntKind.wrap_u64]; omega
  have hw2 : IntKind.u64.wrap ((en : Int) - (a : Int)) = (d : Int) := by rw [IntKind.wrap_u64]; have := HD.out; omega
  have hng : (d : Int) < (n : Int) := by have := HD.out; omega
  have hng2 : d < n := by omega
  clear h ok hn ha ho hel
  go_enter Tryd.func50, Tryd.ntmps50
  go_wp2_with (go_at_call 15; (with_reducible refine KE.out.mono ?_); rintro e w1 ⟨rfl, m1, hw1x⟩; have HX1 : Hid (Ext w w1) := hide (by rw [hw1x]; exact (Ext.refl _).drewN m1); clear hw1x)
  go_ret2
  exact ⟨_, rfl, Own.nil _ _, HX1.out⟩
theorem bytes_two (h : LgAt w0 w X D L) (ok : L.Ok D) (b : Bd D) (a : Nat) (ha : a ≤ endOf L) (hT : Tab w0) : Calls Tryd.prog 50 #[.pointer (some ⟨X.q, 0, none⟩), .int .u64 (a : Int), .int .i64 2] w (ThPost w (by2B D L a) (by2E D L a)) := by
  unfold by2B by2E
  by_cases h1 : a + 2 ≤ endOf L
  · rw [if_pos h1, if_pos h1]
    exact bytes_any h ok b a 2 (by decide) h1 hT
  · rw [if_neg h1, if_neg h1]
    exact bytes_over h ok a 2 (by decide) ha h1
set_option maxRecDepth 20000 in
set_option maxHeartbeats 1600000 in
theorem firstFrom_any (h : LgAt w0 w X D L) (ok : L.Ok D) (b : Bd D) (pl : Nat) (hp : pl ≤ endOf L) (hf : L.hd.fi < 1152921504606846976) (hT : Tab w0) :
    Calls Tryd.prog 38 #[.pointer (some ⟨X.q, 0, none⟩), .int .u64 (pl : Int)] w (fun e w' => e = .returned (.tuple #[.int .u64 ((ffZ D L pl).2 : Int), .int .i64 (ffZ D L pl).1]) ∧ Ext w w') := by
  have hel := endOf_lt ok
  have KB : Hid (∀ W a, Ext w W → a < pl → Calls Tryd.prog 50 #[.pointer (some ⟨X.q, 0, none⟩), .int .u64 (a : Int), .int .i64 2] W (ThPost W (by2B D L a) (by2E D L a))) := hide (fun W a hW ha => bytes_two (h.ext_ hW) ok b a (by omega) hT)
  have c5 := h.blk.cell (i := 5) rfl
  obtain ⟨fi, HFI⟩ : ∃ fi, Hid (L.hd.fi = fi) := ⟨_, hide rfl⟩
  have HFB : Hid (fi < 1152921504606846976 ∧ pl < 1152921505680588800) := hide (by rw [← HFI.out]; omega)
  obtain ⟨zz, HZ⟩ : ∃ zz, Hid (ffZ D L pl = zz) := ⟨_, hide rfl⟩
  have HZ0 : Hid (ffR D L pl (pl + 1 - fi) fi = zz) := hide (by rw [← HZ.out, ← HFI.out]; rfl)
  rw [HFI.out] at c5
  rw [HZ.out]
  have HX0 : Hid (Ext w w) := hide (Ext.refl w)
  clear h ok b hp hf hT hel
  go_enter Tryd.func38, Tryd.ntmps38
  go_wp2
  clear c5
  go_loopw [6] (fun x wr => ∃ (a f : Nat), x = .int .u64 (a : Int) ∧ a < 1152921505680590100 ∧ pl + 1 - a ≤ f ∧ Hid (Ext w wr) ∧ Hid (ffR D L pl f a = zz)) (fun x _ => pl + 2000 - (intOf x).toNat)
  case atStart => exact ⟨fi, pl + 1 - fi, rfl, by have := HFB.out; omega, Nat.le_refl _, HX0, HZ0⟩
  case round =>
    obtain ⟨a, f, rfl, hab, hf, HX, HRE⟩ := hrel
    by_cases hlt : a < pl
    · have hli : (a : Int) < (pl : Int) := by omega
      have KBX := hide (KB.out wr a HX.out hlt)
      obtain ⟨f1, HF1⟩ : ∃ f1, Hid (f = f1 + 1) := ⟨f - 1, hide (by omega)⟩
      have HUN : Hid (zz = if by2E D L a ≠ 0 then (by2E D L a, 0) else ffR D L pl f1 (a + (2 + szOf (by2B D L a)))) := hide (by rw [← HRE.out, HF1.out, ffR, if_neg (by omega)])
      have HLEN : Hid (by2E D L a = 0 → (by2B D L a).length = 2) := hide (by2_len a)
      obtain ⟨sp, HSP⟩ : ∃ sp, Hid (by2B D L a = sp) := ⟨_, hide rfl⟩
      obtain ⟨er, HER⟩ : ∃ er, Hid (by2E D L a = er) := ⟨_, hide rfl⟩
      rw [HSP.out, HER.out] at KBX HUN HLEN
      by_cases he : er = 0
      · subst he
        have HL2 : Hid (sp.length = 2) := hide (HLEN.out rfl)
        obtain ⟨sz, HSZ⟩ : ∃ sz, Hid (szOf sp = sz) := ⟨_, hide rfl⟩
        have HSB : Hid (sz ≤ 1200) := hide (by rw [← HSZ.out]; exact szOf_le _)
        have KSZ : Hid (∀ (W : World) (A : Option Addr) (c : Nat), Rd W A sp → Calls Tryd.prog 51 #[.slice A 2 c] W (fun e w' => e = .returned (.int .i64 (sz : Int)) ∧ Ext W w')) := hide (fun W A c hr => by
          have q := sizeOf_any A sp 2 c W hr HL2.out (by decide) (by decide)
          rw [HSZ.out] at q
          exact q)
        obtain ⟨a2, HA2⟩ : ∃ a2, Hid (a + (2 + sz) = a2) := ⟨_, hide rfl⟩
        have hw1 : IntKind.i64.wrap (2 + (sz : Int)) = 2 + (sz : Int) := by rw [IntKind.wrap_i64]; have := HSB.out; omega
        have hw2 : IntKind.u64.wrap (2 + (sz : Int)) = 2 + (sz : Int) := by rw [IntKind.wrap_u64]; have := HSB.out; omega
        have hw3 : IntKind.u64.wrap ((a : Int) + (2 + (sz : Int))) = (a2 : Int) := by rw [IntKind.wrap_u64]; have := HSB.out; have := HA2.out; omega
        have HUN2 : Hid (ffR D L pl f1 a2 = zz) := hide (by rw [HUN.out, if_neg (by decide), HSZ.out, HA2.out])
        have HLT := hide hlt
        clear hlt
        go_wp2_with (first
          | (go_at_call 50; (with_reducible refine KBX.out.mono ?_); rintro e w4 ⟨v4, rfl, ho4, hx4⟩; obtain ⟨A4, c4, hv4, -, hr4⟩ := ho4.bytes; rw [HL2.out] at hv4; subst hv4; have HX4 : Hid (Ext w w4) := hide (HX.out.trans hx4); have HR4 := hide hr4; clear ho4 hx4 hr4)
          | (go_at_call 51; (with_reducible refine (KSZ.out _ A4 c4 HR4.out).mono ?_); rintro e w5 ⟨rfl, hx5⟩; have HX5 := hide (HX4.out.trans hx5); clear hx5))
        refine ⟨⟨a2, f1, rfl, ?_, ?_, HX5, HUN2⟩, ?_⟩
        · have h1 := HA2.out; have h2 := HSB.out; have h3 := HLT.out; have h4 := HFB.out.2; omega
        · have h1 := HA2.out; have h2 := HF1.out; omega
        · show pl + 2000 - ((a2 : Int)).toNat < pl + 2000 - ((a : Int)).toNat
          have h1 := HA2.out; have h3 := HLT.out; omega
      · have hzz : zz = (er, 0) := by rw [HUN.out, if_pos he]
        subst hzz
        have hee : (er != 0) = true := by simpa using he
        clear he hlt
        go_wp2_with (go_at_call 50; (with_reducible refine KBX.out.mono ?_); rintro e w4 ⟨v4, rfl, ho4, hx4⟩; have HX4 : Hid (Ext w w4) := hide (HX.out.trans hx4); clear ho4 hx4)
        go_ret2
        exact ⟨rfl, HX4.out⟩
    · have hli : ¬ (a : Int) < (pl : Int) := by omega
      have hzz : zz = (0, a) := by
        rw [← HRE.out]
        cases f with
        | zero => rfl
        | succ f => unfold ffR; rw [if_pos (by omega)]
      subst hzz
      clear hlt
      go_wp2
      go_ret2
      exact ⟨rfl, HX.out⟩
end
end Go.Proofs.YtdifpbicdicggaaDoor
