/-
  The program's Mark.
  What the program's Read answers of any place, plain (its walk is not there yet).
  What the program's Read answers: a record anywhere, the end, places that are none.
  The program's Spend and Held.
  The program's Flush.
  A new log on a new disk, plain.
  A new log on a new disk: the laws' fresh.
  The document's example: awake.
  A new log that only has got records: what is held and how much room there is.
-/
import Derived.Lib.SlBytesConst
import Derived.Test.YtdifpbicdicggaaDoorPkLgAl5
set_option linter.unusedVariables false
set_option linter.unusedSimpArgs false

namespace Go.Proofs.YtdifpbicdicggaaDoor
open Go.RowKit

/-- Below which epoch no part of the log is, behind Mark. -/
def mkO (L : Lg) (fi : Nat) : Nat := if fi = L.sure then L.hd.ep else L.hd.old
def mkH (L : Lg) (ck st fi : Nat) : Hd := { L.hd with ck := ck, st := st, fi := fi, old := mkO L fi }
def mkB (L : Lg) (ck st fi : Nat) : List UInt8 := sealB 1 (mkH L ck st fi).ns []
/-- What Mark answers, the disk and the log behind it. -/
def mkE (D : Dk) (L : Lg) (ck st : Nat) : Int :=
  if st < L.hd.st ∨ L.sure < st ∨ L.sure < ck then 1 else if (ffZ D L st).1 ≠ 0 then (ffZ D L st).1
  else if wE D L.at_ (mkB L ck st (ffZ D L st).2) ≠ 0 then wE D L.at_ (mkB L ck st (ffZ D L st).2) else sE (wD D L.at_ (mkB L ck st (ffZ D L st).2))
def mkD (D : Dk) (L : Lg) (ck st : Nat) : Dk :=
  if st < L.hd.st ∨ L.sure < st ∨ L.sure < ck then D else if (ffZ D L st).1 ≠ 0 then D
  else if wE D L.at_ (mkB L ck st (ffZ D L st).2) ≠ 0 then wD D L.at_ (mkB L ck st (ffZ D L st).2) else sD (wD D L.at_ (mkB L ck st (ffZ D L st).2))
def mkL (D : Dk) (L : Lg) (ck st : Nat) : Lg := if mkE D L ck st = 0 then { L with hd := mkH L ck st (ffZ D L st).2 } else L
section
variable {w0 w w1 : World} {X : Bk} {D D' : Dk} {L L' : Lg} {r : Value} {e : Ending} {w' : World}
theorem ffR_lt (pl : Nat) : ∀ (f a : Nat), a < 1152921504606850000 → pl < 1152921504606846976 → (ffR D L pl f a).2 < 1152921504606850000
  | 0, a, ha, _ => ha
  | f + 1, a, ha, hp => by
    unfold ffR
    split
    · exact ha
    · split
      · show 0 < _
        decide
      · exact ffR_lt pl f _ (by have := szOf_le (by2B D L a); omega) hp
theorem box6 {wa w2 : World} (H : Hd) (ck st fi : Nat) (hx : Ext wa w2) :
    Rw ((((w2.alloc (.cells H.cs.toArray 73)).setCell ⟨w2.heap.size, 4, none⟩ (.int .u64 (ck : Int))).setCell ⟨w2.heap.size, 2, none⟩ (.int .u64 (st : Int))).setCell ⟨w2.heap.size, 3, none⟩ (.int .u64 (fi : Int))) w2.heap.size 73 ({ H with ck := ck, st := st, fi := fi } : Hd).cs ∧
    Ext wa ((((w2.alloc (.cells H.cs.toArray 73)).setCell ⟨w2.heap.size, 4, none⟩ (.int .u64 (ck : Int))).setCell ⟨w2.heap.size, 2, none⟩ (.int .u64 (st : Int))).setCell ⟨w2.heap.size, 3, none⟩ (.int .u64 (fi : Int))) :=
  ⟨(((Rw.new w2 73 H.cs).set 4 (.int .u64 (ck : Int))).set 2 (.int .u64 (st : Int))).set 3 (.int .u64 (fi : Int)),
    Below.setCell (p := ⟨w2.heap.size, 3, none⟩) (Below.setCell (p := ⟨w2.heap.size, 2, none⟩) (Below.setCell (p := ⟨w2.heap.size, 4, none⟩) (hx.trans (Ext.alloc w2 _)) hx.size _) hx.size _) hx.size _⟩
set_option maxRecDepth 20000 in
set_option maxHeartbeats 3200000 in
theorem mark_any (h : LgAt w0 w X D L) (ok : L.Ok D) (b : Bd D) (hpn : D.pen.length < 500000) (ho : D.ops < 500000) (ck st : Nat) (hk : ck < 18446744073709551616) (hs : st < 18446744073709551616) (hf : L.hd.fi < 1152921504606846976) (hse : L.sure ≤ endOf L) (hT : Tab w0) :
    Calls Tryd.prog 14 #[.pointer (some ⟨X.q, 0, none⟩), .int .u64 (ck : Int), .int .u64 (st : Int)] w (LPost w0 w X (.int .i64 (mkE D L ck st)) (mkD D L ck st) (mkL D L ck st)) := by
  have HL := hide h
  have c4 := h.blk.cell (i := 4) rfl
  have c8 := h.blk.cell (i := 8) rfl
  by_cases hbad : st < L.hd.st ∨ L.sure < st ∨ L.sure < ck
  · have HE : Hid (mkE D L ck st = 1) := hide (by unfold mkE; rw [if_pos hbad])
    have HD : Hid (mkD D L ck st = D) := hide (by unfold mkD; rw [if_pos hbad])
    have HLL : Hid (mkL D L ck st = L) := hide (by unfold mkL; rw [HE.out, if_neg (by decide)])
    rw [HE.out, HD.out, HLL.out]
    clear h ok b hpn ho hk hs hf hT hse
    by_cases h1 : st < L.hd.st
    · have h1i : (st : Int) < (L.hd.st : Int) := by omega
      clear hbad
      go_enter Tryd.func14, Tryd.ntmps14
      go_wp2
      go_ret
      exact LPost.still HL.out (Ext.refl _) rfl
    · by_cases h2 : L.sure < st
      · have h1i : ¬ (st : Int) < (L.hd.st : Int) := by omega
        have h2i : (L.sure : Int) < (st : Int) := by omega
        clear hbad
        go_enter Tryd.func14, Tryd.ntmps14
        go_wp2
        go_ret
        exact LPost.still HL.out (Ext.refl _) rfl
      · have h3 : L.sure < ck := by rcases hbad with h | h | h; exact absurd h h1; exact absurd h h2; exact h
        have h1i : ¬ (st : Int) < (L.hd.st : Int) := by omega
        have h2i : ¬ (L.sure : Int) < (st : Int) := by omega
        have h3i : (L.sure : Int) < (ck : Int) := by omega
        clear hbad
        go_enter Tryd.func14, Tryd.ntmps14
        go_wp2
        go_ret
        exact LPost.still HL.out (Ext.refl _) rfl
  · have h1 : ¬ st < L.hd.st := fun h => hbad (.inl h)
    have h2 : ¬ L.sure < st := fun h => hbad (.inr (.inl h))
    have h3 : ¬ L.sure < ck := fun h => hbad (.inr (.inr h))
    have h1i : ¬ (st : Int) < (L.hd.st : Int) := by omega
    have h2i : ¬ (L.sure : Int) < (st : Int) := by omega
    have h3i : ¬ (L.sure : Int) < (ck : Int) := by omega
    have hsu := ok.sure
    have HFZ : Hid ((ffZ D L st).2 < 1152921504606850000) := hide (ffR_lt st _ _ (by omega) (by omega))
    have KF := hide (firstFrom_any h ok b st (by omega) hf hT)
    have HME : Hid (mkE D L ck st = if (ffZ D L st).1 ≠ 0 then (ffZ D L st).1 else if wE D L.at_ (mkB L ck st (ffZ D L st).2) ≠ 0 then wE D L.at_ (mkB L ck st (ffZ D L st).2) else sE (wD D L.at_ (mkB L ck st (ffZ D L st).2))) := hide (by unfold mkE; rw [if_neg hbad])
    have HMD : Hid (mkD D L ck st = if (ffZ D L st).1 ≠ 0 then D else if wE D L.at_ (mkB L ck st (ffZ D L st).2) ≠ 0 then wD D L.at_ (mkB L ck st (ffZ D L st).2) else sD (wD D L.at_ (mkB L ck st (ffZ D L st).2))) := hide (by unfold mkD; rw [if_neg hbad])
    have HML : Hid (mkL D L ck st = if mkE D L ck st = 0 then { L with hd := mkH L ck st (ffZ D L st).2 } else L) := hide rfl
    obtain ⟨xE, HXE⟩ : ∃ xE, Hid (mkE D L ck st = xE) := ⟨_, hide rfl⟩
    obtain ⟨xD, HXD⟩ : ∃ xD, Hid (mkD D L ck st = xD) := ⟨_, hide rfl⟩
    obtain ⟨xL, HXL⟩ : ∃ xL, Hid (mkL D L ck st = xL) := ⟨_, hide rfl⟩
    rw [HXE.out] at HME HML ⊢
    rw [HXD.out] at HMD ⊢
    rw [HXL.out] at HML ⊢
    obtain ⟨ze, HZE⟩ : ∃ ze, Hid ((ffZ D L st).1 = ze) := ⟨_, hide rfl⟩
    obtain ⟨fi, HZF⟩ : ∃ fi, Hid ((ffZ D L st).2 = fi) := ⟨_, hide rfl⟩
    rw [HZE.out, HZF.out] at KF HME HMD
    rw [HZF.out] at HML HFZ
    by_cases hze : ze = 0
    · subst hze
      rw [if_neg (by decide)] at HME HMD
      have HOKH : Hid ((mkH L ck st fi).Ok) := hide ⟨ok.hd.ep, (by show mkO L fi < _; unfold mkO; split; exact ok.hd.ep; exact ok.hd.old), hs, by show fi < _; have := HFZ.out; omega, hk, ok.hd.cn⟩
      obtain ⟨oo, HOO⟩ : ∃ oo, Hid (mkO L fi = oo) := ⟨_, hide rfl⟩
      have hcase : (((fi : Int) == (L.sure : Int)) = true ∧ oo = L.hd.ep) ∨ (((fi : Int) == (L.sure : Int)) = false ∧ oo = L.hd.old) := by
        have h0 := HOO.out
        unfold mkO at h0
        by_cases hfs : fi = L.sure
        · rw [if_pos hfs] at h0
          exact .inl ⟨by simp [hfs], h0.symm⟩
        · rw [if_neg hfs] at h0
          exact .inr ⟨by simp; omega, h0.symm⟩
      have HMH : Hid (mkH L ck st fi = { L.hd with ck := ck, st := st, fi := fi, old := oo }) := hide (by unfold mkH; rw [HOO.out])
      obtain ⟨qb, HQB⟩ : ∃ qb, Hid (mkB L ck st fi = qb) := ⟨_, hide rfl⟩
      rw [HQB.out] at HME HMD
      have HBD := hide (wD_bd b (by omega) (by omega) (L.at_ : Int) qb)
      obtain ⟨e1, HE1⟩ : ∃ e1, Hid (wE D L.at_ qb = e1) := ⟨_, hide rfl⟩
      obtain ⟨D1, HD1⟩ : ∃ D1, Hid (wD D L.at_ qb = D1) := ⟨_, hide rfl⟩
      have HT := hide hT
      have HB := hide b
      have KW : Hid (∀ W, Ext w W → Calls Tryd.prog 39 #[.pointer (some ⟨X.g, 0, none⟩), .int .i64 (L.at_ : Int), .agg #[.int .u64 (L.hd.ep : Int), .int .u64 (oo : Int), .int .u64 (st : Int), .int .u64 (fi : Int), .int .u64 (ck : Int), .int .u64 (L.hd.cn : Int)]] W (DPost w0.heap.size X.g X.gd X.gn W X.A (.int .i64 e1) D1)) := hide (fun W hW => by
        have k := writeHead_any (HL.out.disk.ext hW) HB.out (Nat.le_trans HL.out.ext.size hW.size) (L.at_ : Int) (mkH L ck st fi) HOKH.out (HT.out.ext (HL.out.ext.trans hW))
        rw [show sealB 1 (mkH L ck st fi).ns [] = qb from HQB.out, HE1.out, HD1.out, HMH.out] at k
        exact k)
      rw [HE1.out, HD1.out] at HME HMD
      rw [HD1.out] at HBD
      have HBLK := HL.out.blk.lt
      have HNOT : Hid (∀ k, w.heap.size ≤ k → ¬ X.has k) := hide (fun k hk hh => by
        have h1 : k < w.heap.size := by
          rcases hh with rfl | rfl | rfl | rfl | ⟨a, ha, rfl⟩ | hk2
          · exact HL.out.blk.lt
          · exact HL.out.disk.blk.lt
          · exact HL.out.disk.dur.lt
          · exact HL.out.disk.new.lt
          · exact (own_base HL.out.disk.pen a ha).2
          · exact (own_block HL.out.tail k hk2).2.1
        omega)
      clear h ok b hpn ho hk hs hf hT hse hbad h1 h2 h3 hsu
      rcases hcase with ⟨hfs, hoo⟩ | ⟨hfs, hoo⟩
      all_goals
       go_enter Tryd.func14, Tryd.ntmps14
       go_upto_region 12 with (go_at_call 38; (with_reducible refine KF.out.mono ?_); rintro e w2 ⟨rfl, hx2⟩; have HX2 := hide hx2; have g2 := (HL.out.blk.ext hx2).cell (i := 2) rfl; have g3 := (HL.out.blk.ext hx2).cell (i := 3) rfl; have g4 := (HL.out.blk.ext hx2).cell (i := 4) rfl; have g5 := (HL.out.blk.ext hx2).cell (i := 5) rfl; have g6 := (HL.out.blk.ext hx2).cell (i := 6) rfl; have g7 := (HL.out.blk.ext hx2).cell (i := 7) rfl; have g8 := (fun (o : Obj) => (HL.out.blk.ext (hx2.trans (Ext.alloc w2 o))).cell (i := 8) rfl); clear hx2)
       clear KF g2 g3 g4 g5 g6 g7 g8 c4 c8 h1i h2i h3i HBLK hfs
       first
         | (obtain ⟨w3, hw3⟩ : ∃ w3, w2.alloc (.cells #[.int .u64 (L.hd.ep : Int), .int .u64 (L.hd.ep : Int), .int .u64 (st : Int), .int .u64 (fi : Int), .int .u64 (ck : Int), .int .u64 (L.hd.cn : Int)] 73) = w3 := ⟨_, rfl⟩; rw [hw3]; have HBX : Hid (Rw w3 w2.heap.size 73 [.int .u64 (L.hd.ep : Int), .int .u64 (oo : Int), .int .u64 (st : Int), .int .u64 (fi : Int), .int .u64 (ck : Int), .int .u64 (L.hd.cn : Int)]) := hide (by rw [hoo, ← hw3]; exact Rw.new w2 73 [.int .u64 (L.hd.ep : Int), .int .u64 (L.hd.ep : Int), .int .u64 (st : Int), .int .u64 (fi : Int), .int .u64 (ck : Int), .int .u64 (L.hd.cn : Int)]); have HX3 : Hid (Ext w w3) := hide (by rw [← hw3]; exact HX2.out.trans (Ext.alloc w2 _)))
         | (obtain ⟨w3, hw3⟩ : ∃ w3, w2.alloc (.cells #[.int .u64 (L.hd.ep : Int), .int .u64 (L.hd.old : Int), .int .u64 (st : Int), .int .u64 (fi : Int), .int .u64 (ck : Int), .int .u64 (L.hd.cn : Int)] 73) = w3 := ⟨_, rfl⟩; rw [hw3]; have HBX : Hid (Rw w3 w2.heap.size 73 [.int .u64 (L.hd.ep : Int), .int .u64 (oo : Int), .int .u64 (st : Int), .int .u64 (fi : Int), .int .u64 (ck : Int), .int .u64 (L.hd.cn : Int)]) := hide (by rw [hoo, ← hw3]; exact Rw.new w2 73 [.int .u64 (L.hd.ep : Int), .int .u64 (L.hd.old : Int), .int .u64 (st : Int), .int .u64 (fi : Int), .int .u64 (ck : Int), .int .u64 (L.hd.cn : Int)]); have HX3 : Hid (Ext w w3) := hide (by rw [← hw3]; exact HX2.out.trans (Ext.alloc w2 _)))
       have HBS : Hid (w.heap.size ≤ w2.heap.size) := hide HX2.out.size
       obtain ⟨bx, HBE⟩ : ∃ bx, Hid (w2.heap.size = bx) := ⟨_, hide rfl⟩
       rw [HBE.out] at HBX HBS ⊢
       clear hw3 hoo
       have HL3 := hide (HL.out.ext_ HX3.out)
       have d0 := HL3.out.blk.cell (i := 0) rfl
       have d1 := HL3.out.blk.cell (i := 1) rfl
       have k0 := HBX.out.cell (i := 0) rfl
       have k1 := HBX.out.cell (i := 1) rfl
       have k2 := HBX.out.cell (i := 2) rfl
       have k3 := HBX.out.cell (i := 3) rfl
       have k4 := HBX.out.cell (i := 4) rfl
       have k5 := HBX.out.cell (i := 5) rfl
       go_region_law (first
         | (go_simp; go_at_call 39; (with_reducible refine (KW.out _ (HX3.out.trans (Ext.drew _))).mono ?_); rintro e w4 hp4; have HP4 := hide (LPost.of_disk (HL3.out.ext_ (Ext.drew _)) hp4); obtain ⟨A4, c4, rfl, -⟩ := hp4))
       all_goals
         clear d0 d1 k0 k1 k2 k3 k4 k5
         obtain ⟨X4, -, HL4, HF4, HN4⟩ := HP4.out
         replace HL4 := hide HL4
         replace HF4 := hide HF4
         replace HN4 := hide HN4
         have HB4 : Hid (Rw w4 bx 73 [.int .u64 (L.hd.ep : Int), .int .u64 (oo : Int), .int .u64 (st : Int), .int .u64 (fi : Int), .int .u64 (ck : Int), .int .u64 (L.hd.cn : Int)]) := hide ((HF4.out.other bx (by have := HBX.out.lt; simpa using this) (HNOT.out bx HBS.out)).trans (HBX.out.ext (Ext.drew _)))
         have hq4 : X4.q = X.q := HN4.out.q
         have hg4 : X4.g = X.g := HN4.out.g
         have g0 := HL4.out.blk.cell (i := 0) rfl
         rw [hq4, hg4] at g0
         have HG4 := hide hg4
         have HPA := hide (LPost.pre (HX3.out.trans (Ext.drew _)) HP4.out)
         have HFA : Hid (Lfr X w w4) := hide ((Lfr.ext (HX3.out.trans (Ext.drew _))).trans HF4.out (Bk.Later.refl _ _))
         have HNA : Hid (X4.Later X w) := hide (HN4.out.up (HX3.out.trans (Ext.drew _)).size)
         clear HP4
         by_cases he1 : e1 = 0
         · subst he1
           obtain ⟨e2, HE2⟩ : ∃ e2, Hid (sE D1 = e2) := ⟨_, hide rfl⟩
           obtain ⟨D2, HD2⟩ : ∃ D2, Hid (sD D1 = D2) := ⟨_, hide rfl⟩
           have HME2 : Hid (xE = e2 ∧ xD = D2) := hide (by rw [HME.out, HMD.out, if_neg (by decide), if_neg (by decide), HE2.out, HD2.out]; exact ⟨rfl, rfl⟩)
           have KSY := hide (gsync_any HL4.out HBD.out.1)
           rw [HE2.out, HD2.out, hg4] at KSY
           have HLT4 : Hid (bx < w4.heap.size ∧ ¬ X4.has bx) := hide ⟨HB4.out.lt, fun hh => by
             rcases HN4.out.has bx hh with h1 | h1
             · exact HNOT.out bx HBS.out h1
             · have := HBX.out.lt
               simp at h1
               omega⟩
           clear hq4 hg4
           by_cases he2 : e2 = 0
           · subst he2
             have HXL2 : Hid (xL = { L with hd := { L.hd with ck := ck, st := st, fi := fi, old := oo } }) := hide (by rw [HML.out, HME2.out.1, if_pos rfl, HMH.out])
             go_upto_region 18 with (go_at_call 36; (with_reducible refine KSY.out.mono ?_); rintro e w6 hp6; have HP6 := hide hp6; obtain ⟨X6', rfl, -⟩ := hp6)
             obtain ⟨X6, -, HL6, HF6, HN6⟩ := HP6.out
             replace HL6 := hide HL6
             replace HF6 := hide HF6
             replace HN6 := hide HN6
             have hq6 : X6.q = X.q := HN6.out.q.trans HN4.out.q
             have HB6 : Hid (Rw w6 bx 73 [.int .u64 (L.hd.ep : Int), .int .u64 (oo : Int), .int .u64 (st : Int), .int .u64 (fi : Int), .int .u64 (ck : Int), .int .u64 (L.hd.cn : Int)]) := hide ((HF6.out.other bx HLT4.out.1 HLT4.out.2).trans HB4.out)
             have k0 := HB6.out.cell (i := 0) rfl
             have k1 := HB6.out.cell (i := 1) rfl
             have k2 := HB6.out.cell (i := 2) rfl
             have k3 := HB6.out.cell (i := 3) rfl
             have k4 := HB6.out.cell (i := 4) rfl
             have k5 := HB6.out.cell (i := 5) rfl
             have d2 := HL6.out.blk.cell (i := 2) rfl
             have d3 := HL6.out.blk.cell (i := 3) rfl
             have d4 := HL6.out.blk.cell (i := 4) rfl
             have d5 := HL6.out.blk.cell (i := 5) rfl
             have d6 := HL6.out.blk.cell (i := 6) rfl
             have d7 := HL6.out.blk.cell (i := 7) rfl
             have f2 := HL6.out.blk.frozen 2
             have f3 := HL6.out.blk.frozen 3
             have f4 := HL6.out.blk.frozen 4
             have f5 := HL6.out.blk.frozen 5
             have f6 := HL6.out.blk.frozen 6
             have f7 := HL6.out.blk.frozen 7
             have HPUT := hide ((((((HL6.out.put 2 (.int .u64 (L.hd.ep : Int)) L rfl rfl).put 3 (.int .u64 (oo : Int)) { L with hd := { L.hd with old := oo } } rfl rfl).put 4 (.int .u64 (st : Int)) { L with hd := { L.hd with st := st, old := oo } } rfl rfl).put 5 (.int .u64 (fi : Int)) { L with hd := { L.hd with st := st, fi := fi, old := oo } } rfl rfl).put 6 (.int .u64 (ck : Int)) { L with hd := { L.hd with ck := ck, st := st, fi := fi, old := oo } } rfl rfl).put 7 (.int .u64 (L.hd.cn : Int)) { L with hd := { L.hd with ck := ck, st := st, fi := fi, old := oo } } rfl rfl)
             have HFP : Hid (Lfr X6 w6 ((((((w6.setCell ⟨X6.q, 2, none⟩ (.int .u64 (L.hd.ep : Int))).setCell ⟨X6.q, 3, none⟩ (.int .u64 (oo : Int))).setCell ⟨X6.q, 4, none⟩ (.int .u64 (st : Int))).setCell ⟨X6.q, 5, none⟩ (.int .u64 (fi : Int))).setCell ⟨X6.q, 6, none⟩ (.int .u64 (ck : Int))).setCell ⟨X6.q, 7, none⟩ (.int .u64 (L.hd.cn : Int)))) := hide
               ((((((Lfr.cell X6 w6 2 _).trans (Lfr.cell X6 _ 3 _) (Bk.Later.refl _ _)).trans (Lfr.cell X6 _ 4 _) (Bk.Later.refl _ _)).trans (Lfr.cell X6 _ 5 _) (Bk.Later.refl _ _)).trans (Lfr.cell X6 _ 6 _) (Bk.Later.refl _ _)).trans (Lfr.cell X6 _ 7 _) (Bk.Later.refl _ _))
             rw [hq6] at d2 d3 d4 d5 d6 d7 f2 f3 f4 f5 f6 f7 HPUT HFP
             clear hq6
             go_wp2
             go_ret
             rw [HME2.out.1, HME2.out.2, HXL2.out]
             exact ⟨X6, rfl, HPUT.out, (HFA.out.trans HF6.out HNA.out).trans HFP.out (HNA.out.trans HN6.out HFA.out.size), HNA.out.trans HN6.out HFA.out.size⟩
           · have HXL2 : Hid (xL = L) := hide (by rw [HML.out, HME2.out.1, if_neg he2])
             have hee : (e2 != 0) = true := by simpa using he2
             clear he2
             go_wp2_with (go_at_call 36; (with_reducible refine KSY.out.mono ?_); rintro e w6 hp6; have HP6 := hide (LPost.trans HFA.out HNA.out hp6); obtain ⟨X6', rfl, -⟩ := hp6)
             go_ret
             rw [HME2.out.1, HME2.out.2, HXL2.out]
             exact HP6.out
         · have HME2 : Hid (xE = e1 ∧ xD = D1) := hide (by rw [HME.out, HMD.out, if_pos he1, if_pos he1]; exact ⟨rfl, rfl⟩)
           have HXL2 : Hid (xL = L) := hide (by rw [HML.out, HME2.out.1, if_neg he1])
           have hee : (e1 != 0) = true := by simpa using he1
           clear he1
           go_wp2
           go_ret
           rw [HME2.out.1, HME2.out.2, HXL2.out]
           exact HPA.out
    · have HX : Hid (xE = ze ∧ xD = D ∧ xL = L) := hide (by rw [HML.out, HMD.out, HME.out, if_pos hze, if_pos hze, if_neg hze]; exact ⟨rfl, rfl, rfl⟩)
      have hee : (ze != 0) = true := by simpa using hze
      clear h ok b hpn ho hk hs hf hT hse hbad h1 h2 h3 hsu hze
      go_enter Tryd.func14, Tryd.ntmps14
      go_wp2_with (go_at_call 38; (with_reducible refine KF.out.mono ?_); rintro e w2 ⟨rfl, hx2⟩; have HX2 := hide hx2; clear hx2)
      go_ret
      rw [HX.out.1, HX.out.2.1, HX.out.2.2]
      exact LPost.still HL.out HX2.out rfl
end
end Go.Proofs.YtdifpbicdicggaaDoor
namespace Go.Proofs.YtdifpbicdicggaaDoor
open Go.RowKit

def bxE (D : Dk) (L : Lg) (a n : Nat) : Int := if a + n ≤ endOf L then byE D L a n else 1
def bxB (D : Dk) (L : Lg) (a n : Nat) : List UInt8 := if a + n ≤ endOf L then byB D L a n else []
/-- The error of the second bytes of a record whose first two bytes are there. -/
def rdE2 (D : Dk) (L : Lg) (a : Nat) : Int := if szOf (by2B D L a) = 0 then 1 else bxE D L (a + 2) (szOf (by2B D L a))
/-- What Read answers of a place. -/
def rdE (D : Dk) (L : Lg) (a : Nat) : Int :=
  if a < L.hd.fi ∨ endOf L < a then 1 else if a = endOf L then 6 else if D.off = true then 8 else if by2E D L a ≠ 0 then by2E D L a else rdE2 D L a
def rdN (D : Dk) (L : Lg) (a : Nat) : Nat := if rdE D L a = 0 then a + 2 + szOf (by2B D L a) else 0
def rdB (D : Dk) (L : Lg) (a : Nat) : List UInt8 := if rdE D L a = 0 then bxB D L (a + 2) (szOf (by2B D L a)) else []
section
variable {w0 w w1 : World} {X : Bk} {D D' : Dk} {L L' : Lg} {r : Value} {e : Ending} {w' : World}
def RxPost (w : World) (l : List UInt8) (n : Nat) (er : Int) (e : Ending) (w' : World) : Prop := ∃ v, e = .returned (.tuple #[v, .int .u64 (n : Int), .int .i64 er]) ∧ Own w' w.heap.size v l ∧ Ext w w'
theorem bytes_x (h : LgAt w0 w X D L) (ok : L.Ok D) (b : Bd D) (a n : Nat) (hn : n ≤ 100000) (ha : a ≤ endOf L) (hT : Tab w0) : Calls Tryd.prog 50 #[.pointer (some ⟨X.q, 0, none⟩), .int .u64 (a : Int), .int .i64 (n : Int)] w (ThPost w (bxB D L a n) (bxE D L a n)) := by
  unfold bxB bxE
  by_cases h1 : a + n ≤ endOf L
  · rw [if_pos h1, if_pos h1]
    exact bytes_any h ok b a n hn h1 hT
  · rw [if_neg h1, if_neg h1]
    exact bytes_over h ok a n hn ha h1
theorem by2_end (a : Nat) (h : by2E D L a = 0) : a + 2 ≤ endOf L := by
  unfold by2E at h
  split at h
  · assumption
  · cases h
end
end Go.Proofs.YtdifpbicdicggaaDoor
namespace Go.Proofs.YtdifpbicdicggaaDoor
open Go.RowKit

section
variable {w0 w w1 : World} {X : Bk} {D D' : Dk} {L L' : Lg} {r : Value} {e : Ending} {w' : World}
set_option maxRecDepth 20000 in
set_option maxHeartbeats 3200000 in
theorem read_at (h : LgAt w0 w X D L) (ok : L.Ok D) (b : Bd D) (hd : D.off = false) (a k : Nat) (hk : 0 < k) (ha : a + 2 + k ≤ endOf L) (hf : L.hd.fi ≤ a) (h2 : byE D L a 2 = 0) (hsz : szOf (byB D L a 2) = k) (h3 : byE D L (a + 2) k = 0) (hT : Tab w0) :
    Calls Tryd.prog 25 #[.pointer (some ⟨X.q, 0, none⟩), .int .u64 (a : Int)] w
      (fun e w' => ∃ v, e = .returned (.tuple #[v, .int .u64 ((a + 2 + k : Nat) : Int), .int .i64 0]) ∧ Own w' w.heap.size v (byB D L (a + 2) k) ∧ Ext w w') := by
  have HL := hide h
  have KE : Hid (∀ W, Ext w W → Calls Tryd.prog 15 #[.pointer (some ⟨X.q, 0, none⟩)] W (fun e w' => e = .returned (.int .u64 (endOf L : Int)) ∧ ∃ m, w' = W.drewN m)) := hide (fun W hW => end_any (h.ext_ hW) ok)
  have hel := endOf_lt ok
  have hk12 : k ≤ 1200 := by rw [← hsz]; exact szOf_le _
  have KB1 : Hid (∀ W, Ext w W → Calls Tryd.prog 50 #[.pointer (some ⟨X.q, 0, none⟩), .int .u64 (a : Int), .int .i64 2] W (ThPost W (byB D L a 2) 0)) := hide (fun W hW => by
    have q := bytes_any (h.ext_ hW) ok b a 2 (by decide) (by omega) hT
    rw [h2] at q
    exact q)
  have KB2 : Hid (∀ W, Ext w W → Calls Tryd.prog 50 #[.pointer (some ⟨X.q, 0, none⟩), .int .u64 ((a + 2 : Nat) : Int), .int .i64 (k : Int)] W (ThPost W (byB D L (a + 2) k) 0)) := hide (fun W hW => by
    have q := bytes_any (h.ext_ hW) ok b (a + 2) k (by omega) (by omega) hT
    rw [h3] at q
    exact q)
  have KON : Hid (∀ W, Ext w W → Calls Tryd.prog 9 #[.pointer (some ⟨X.g, 0, none⟩)] W (Same W (.bool true))) := hide (fun W hW => by
    have k := on_any (h.disk.ext hW)
    rw [hd] at k
    exact k)
  have HSPL : Hid ((byB D L a 2).length = 2) := hide (by
    unfold byB
    rw [if_pos h2]
    exact byR_len 2 a 2 (Nat.le_refl _) (by omega) h2)
  have HBOL : Hid ((byB D L (a + 2) k).length = k) := hide (by
    unfold byB
    rw [if_pos h3]
    exact byR_len k (a + 2) k (Nat.le_refl _) (by omega) h3)
  obtain ⟨sp, HSP⟩ : ∃ sp, Hid (byB D L a 2 = sp) := ⟨_, hide rfl⟩
  obtain ⟨bo, HBO⟩ : ∃ bo, Hid (byB D L (a + 2) k = bo) := ⟨_, hide rfl⟩
  rw [HSP.out] at KB1 hsz HSPL
  rw [HBO.out] at KB2 HBOL ⊢
  have KSZ : Hid (∀ (W : World) (A : Option Addr) (c : Nat), Rd W A sp → Calls Tryd.prog 51 #[.slice A 2 c] W (fun e w' => e = .returned (.int .i64 (k : Int)) ∧ Ext W w')) := hide (fun W A c hr => by
    have q := sizeOf_any A sp 2 c W hr HSPL.out (by decide) (by decide)
    rw [hsz] at q
    exact q)
  have c0 := h.blk.cell (i := 0) rfl
  have c5 := h.blk.cell (i := 5) rfl
  obtain ⟨x, HX⟩ : ∃ x : Int, Hid ((a : Int) = x) := ⟨_, hide rfl⟩
  obtain ⟨y, HY⟩ : ∃ y : Int, Hid ((endOf L : Int) = y) := ⟨_, hide rfl⟩
  have hx0 : 0 ≤ x ∧ x < 1200000000000000000 := by rw [← HX.out]; omega
  have hfx : ¬ x < (L.hd.fi : Int) := by rw [← HX.out]; omega
  have hxy : ¬ y < x := by rw [← HX.out, ← HY.out]; omega
  have hxy2 : (x == y) = false := by rw [← HX.out, ← HY.out]; simp; omega
  have hx2 : ((a + 2 : Nat) : Int) = x + 2 := by rw [← HX.out]; omega
  have hx3 : ((a + 2 + k : Nat) : Int) = x + 2 + (k : Int) := by rw [← HX.out]; omega
  rw [HX.out] at KB1 ⊢
  rw [hx2] at KB2
  rw [hx3]
  rw [HY.out] at KE
  have hw1 : IntKind.u64.wrap (x + 2) = x + 2 := by rw [IntKind.wrap_u64]; omega
  have hw2 : IntKind.u64.wrap (x + 2 + (k : Int)) = x + 2 + (k : Int) := by rw [IntKind.wrap_u64]; omega
  have hw3 : IntKind.u64.wrap (k : Int) = (k : Int) := by rw [IntKind.wrap_u64]; omega
  have hk0 : ((k : Int) == 0) = false := by simp; omega
  clear h ok b hd hk ha hf h2 hsz h3 hT hel hk12 hx0 hx2 hx3
  go_enter Tryd.func25, Tryd.ntmps25
  go_wp2_with (first
    | (go_at_call 15; (with_reducible refine (KE.out _ (Ext.refl w)).mono ?_); rintro e w1 ⟨rfl, m1, rfl⟩)
    | (go_at_call 15; (with_reducible refine (KE.out _ ((Ext.refl w).drewN _)).mono ?_); rintro e w1 ⟨rfl, m2, rfl⟩)
    | (go_at_call 9; (with_reducible refine (KON.out _ ((Ext.refl w).drewN _)).mono ?_); rintro e w1 ⟨rfl, rfl⟩)
    | (go_at_call 50; (with_reducible refine (KB1.out _ ((Ext.refl w).drewN _)).mono ?_); rintro e w4 ⟨v4, rfl, ho4, hx4⟩; obtain ⟨A4, c4, hv4, -, hr4⟩ := ho4.bytes; rw [HSPL.out] at hv4; subst hv4; have HX4 : Hid (Ext w w4) := hide (((Ext.refl w).drewN _).trans hx4); have HR4 := hide hr4; clear ho4 hx4 hr4)
    | (go_at_call 51; (with_reducible refine (KSZ.out _ A4 c4 HR4.out).mono ?_); rintro e w5 ⟨rfl, hx5⟩; have HX5 := hide (HX4.out.trans hx5); clear hx5)
    | (go_at_call 50; (with_reducible refine (KB2.out _ HX5.out).mono ?_); rintro e w6 ⟨v6, rfl, ho6, hx6⟩; have HX6 := hide (HX5.out.trans hx6); have HO6 := hide (ho6.low HX5.out.size); clear ho6 hx6))
  go_ret3
  exact ⟨_, rfl, HO6.out, HX6.out⟩
def RNone (w : World) (er : Int) (e : Ending) (w' : World) : Prop := e = .returned (.tuple #[.slice none 0 0, .int .u64 0, .int .i64 er]) ∧ ∃ m, w' = w.drewN m
theorem read_lo (h : LgAt w0 w X D L) (a : Nat) (hf : a < L.hd.fi) :
    Calls Tryd.prog 25 #[.pointer (some ⟨X.q, 0, none⟩), .int .u64 (a : Int)] w (RNone w 1) := by
  have c5 := h.blk.cell (i := 5) rfl
  have hfx : (a : Int) < (L.hd.fi : Int) := by omega
  clear h hf
  go_enter Tryd.func25, Tryd.ntmps25
  go_wp2
  go_ret3
  exact ⟨rfl, 0, rfl⟩
set_option maxHeartbeats 800000 in
theorem read_hi (h : LgAt w0 w X D L) (ok : L.Ok D) (a : Nat) (hf : L.hd.fi ≤ a) (ha : endOf L < a) :
    Calls Tryd.prog 25 #[.pointer (some ⟨X.q, 0, none⟩), .int .u64 (a : Int)] w (RNone w 1) := by
  have KE := hide (end_any h ok)
  have c5 := h.blk.cell (i := 5) rfl
  have hfx : ¬ (a : Int) < (L.hd.fi : Int) := by omega
  obtain ⟨y, HY⟩ : ∃ y : Int, Hid ((endOf L : Int) = y) := ⟨_, hide rfl⟩
  have hxy : y < (a : Int) := by rw [← HY.out]; omega
  rw [HY.out] at KE
  clear h ok hf ha
  go_enter Tryd.func25, Tryd.ntmps25
  go_wp2_with (go_at_call 15; (with_reducible refine KE.out.mono ?_); rintro e w1 ⟨rfl, m1, rfl⟩)
  go_ret3
  exact ⟨rfl, _, rfl⟩
set_option maxHeartbeats 800000 in
theorem read_end (h : LgAt w0 w X D L) (ok : L.Ok D) (hf : L.hd.fi ≤ endOf L) :
    Calls Tryd.prog 25 #[.pointer (some ⟨X.q, 0, none⟩), .int .u64 (endOf L : Int)] w (RNone w 6) := by
  have KE : Hid (∀ W, Ext w W → Calls Tryd.prog 15 #[.pointer (some ⟨X.q, 0, none⟩)] W (fun e w' => e = .returned (.int .u64 (endOf L : Int)) ∧ ∃ m, w' = W.drewN m)) := hide (fun W hW => end_any (h.ext_ hW) ok)
  have c5 := h.blk.cell (i := 5) rfl
  have hfx : ¬ (endOf L : Int) < (L.hd.fi : Int) := by omega
  obtain ⟨y, HY⟩ : ∃ y : Int, Hid ((endOf L : Int) = y) := ⟨_, hide rfl⟩
  rw [HY.out] at KE hfx ⊢
  have hxy : ¬ y < y := by omega
  have hxy2 : (y == y) = true := by simp
  clear h ok hf
  go_enter Tryd.func25, Tryd.ntmps25
  go_wp2_with (first
    | (go_at_call 15; (with_reducible refine (KE.out _ (Ext.refl w)).mono ?_); rintro e w1 ⟨rfl, m1, rfl⟩)
    | (go_at_call 15; (with_reducible refine (KE.out _ ((Ext.refl w).drewN _)).mono ?_); rintro e w1 ⟨rfl, m2, rfl⟩))
  go_ret3
  exact ⟨rfl, _, rfl⟩
end
end Go.Proofs.YtdifpbicdicggaaDoor
namespace Go.Proofs.YtdifpbicdicggaaDoor
open Go.RowKit

/-- What Spend answers. -/
def spE (L : Lg) (n : Nat) : Int := if n = 0 then 1 else if n > 1200 then 2 else if 2 + n > L.held then 9 else 0
def spentL (L : Lg) (n : Nat) : Lg := { L with held := L.held - (2 + n) }
def spL (L : Lg) (p : List UInt8) : Lg := if spE L p.length = 0 then addL (spentL L p.length) p else L
def spR (L : Lg) (p : List UInt8) : Value := .tuple #[.int .u64 (if spE L p.length = 0 then (endOf L : Int) else 0), .int .i64 (spE L p.length)]
section
variable {w0 w w1 : World} {X : Bk} {D D' : Dk} {L L' : Lg} {r : Value} {e : Ending} {w' : World}
theorem held_any (h : LgAt w0 w X D L) : Calls Tryd.prog 30 #[.pointer (some ⟨X.q, 0, none⟩)] w (Same w (.int .i64 (L.held : Int))) := by
  have c10 := h.blk.cell (i := 10) rfl
  clear h
  go_enter Tryd.func30, Tryd.ntmps30
  go_wp2
  go_ret
  exact ⟨rfl, rfl⟩
set_option maxRecDepth 20000 in
set_option maxHeartbeats 3200000 in
theorem spend_any (h : LgAt w0 w X D L) (ok : L.Ok D) (P : Option Addr) (c n : Nat) (p : List UInt8) (hr : Rd w P p) (hn : p.length = n) (hl : n ≤ 140737488355328) (hP : ∀ a, P = some a → ¬ X.has a.block ∧ a.block < w.heap.size) (htl : L.tail.length < 500000000) :
    Calls Tryd.prog 24 #[.pointer (some ⟨X.q, 0, none⟩), .slice P n c] w (LPost w0 w X (spR L p) D (spL L p)) := by
  have HL := hide h
  have HOK := hide ok
  obtain ⟨er, HER⟩ : ∃ er, Hid (spE L n = er) := ⟨_, hide rfl⟩
  have HAR : Hid (spR L p = .tuple #[.int .u64 (if er = 0 then (endOf L : Int) else 0), .int .i64 er]) := hide (by unfold spR; rw [hn, HER.out])
  have HAL : Hid (spL L p = if er = 0 then addL (spentL L n) p else L) := hide (by unfold spL; rw [hn, HER.out])
  rw [HAR.out, HAL.out]
  by_cases h1 : n = 0
  · have he : er = 1 := by rw [← HER.out]; unfold spE; rw [if_pos h1]
    subst he
    rw [if_neg (by decide), if_neg (by decide)]
    subst h1
    clear h ok hr hn hl hP htl
    go_enter Tryd.func24, Tryd.ntmps24
    go_wp2
    go_ret2
    exact LPost.still HL.out (Ext.refl _) rfl
  · have hn0 : ((n : Int) == 0) = false := by simpa using h1
    have c10 := h.blk.cell (i := 10) rfl
    by_cases h2 : n > 1200
    · have he : er = 2 := by rw [← HER.out]; unfold spE; rw [if_neg h1, if_pos h2]
      subst he
      rw [if_neg (by decide), if_neg (by decide)]
      have hni : (1200 : Int) < (n : Int) := by omega
      clear h ok hr hn hl hP htl h1 h2
      go_enter Tryd.func24, Tryd.ntmps24
      go_wp2
      go_ret2
      exact LPost.still HL.out (Ext.refl _) rfl
    · have hni : ¬ (1200 : Int) < (n : Int) := by omega
      have hw1 : IntKind.i64.wrap (2 + (n : Int)) = 2 + (n : Int) := by rw [IntKind.wrap_i64]; omega
      by_cases h3 : 2 + n > L.held
      · have he : er = 9 := by rw [← HER.out]; unfold spE; rw [if_neg h1, if_neg h2, if_pos h3]
        subst he
        rw [if_neg (by decide), if_neg (by decide)]
        have h3i : (L.held : Int) < 2 + (n : Int) := by omega
        clear h ok hr hn hl hP htl h1 h2 h3
        go_enter Tryd.func24, Tryd.ntmps24
        go_wp2
        go_ret2
        exact LPost.still HL.out (Ext.refl _) rfl
      · have he : er = 0 := by rw [← HER.out]; unfold spE; rw [if_neg h1, if_neg h2, if_neg h3]
        subst he
        rw [if_pos rfl, if_pos rfl]
        have h3i : ¬ (L.held : Int) < 2 + (n : Int) := by omega
        have f10 := h.blk.frozen 10
        have hhe := ok.held
        have HR := hide hr
        have HN := hide hn
        have HP := hide hP
        have HTL := hide htl
        have hn12 : n ≤ 1200 := by omega
        have HN12 := hide hn12
        obtain ⟨hs2, HHS⟩ : ∃ hs2 : Int, Hid ((L.held : Int) - (2 + (n : Int)) = hs2) := ⟨_, hide rfl⟩
        have hhw : IntKind.i64.wrap ((L.held : Int) - (2 + (n : Int))) = hs2 := by rw [← HHS.out, IntKind.wrap_i64]; omega
        have hhw2 : wrap64 ((L.held : Int) - (2 + (n : Int))) = hs2 := by rw [← HHS.out]; unfold wrap64; omega
        have hsc : hs2 = ((L.held - (2 + n) : Nat) : Int) := by rw [← HHS.out]; omega
        have HSC := hide hsc
        have HL1 : Hid (LgAt w0 (w.setCell ⟨X.q, 10, none⟩ (.int .i64 hs2)) X D (spentL L n)) := hide (HL.out.put 10 (.int .i64 hs2) (spentL L n) rfl (by rw [HSC.out]; rfl))
        have HF1 : Hid (Lfr X w (w.setCell ⟨X.q, 10, none⟩ (.int .i64 hs2))) := hide (Lfr.cell X _ 10 _)
        have HOK1 : Hid ((spentL L n).Ok D) := hide ⟨ok.hd, ok.cn, ok.at_, ok.sure, ok.tail, by show L.held - (2 + n) < _; omega⟩
        have KA : Hid (Calls Tryd.prog 49 #[.pointer (some ⟨X.q, 0, none⟩), .slice P n c] (w.setCell ⟨X.q, 10, none⟩ (.int .i64 hs2)) (LPost w0 (w.setCell ⟨X.q, 10, none⟩ (.int .i64 hs2)) X (.int .u64 (endOf L : Int)) D (addL (spentL L n) p))) := hide
          (add_any HL1.out HOK1.out P c n p (HR.out.lfr HF1.out (fun a ha => (HP.out a ha).1)) HN.out HN12.out (fun a ha => ⟨(HP.out a ha).1, Nat.lt_of_lt_of_le (HP.out a ha).2 HF1.out.size⟩) HTL.out)
        clear h ok hr hn hl hP htl h1 h2 h3 hhe hn12 hsc
        go_enter Tryd.func24, Tryd.ntmps24
        go_wp2_with (go_at_call 49; (with_reducible refine KA.out.mono ?_); rintro e w2 hp2; have HP2 := hide hp2; obtain ⟨X2, rfl, -⟩ := hp2)
        go_ret2
        obtain ⟨X2, he2, hl2, hf2, hn2⟩ := HP2.out
        exact ⟨X2, rfl, hl2, HF1.out.trans hf2 (Bk.Later.refl _ _), hn2.up HF1.out.size⟩
end
end Go.Proofs.YtdifpbicdicggaaDoor
namespace Go.Proofs.YtdifpbicdicggaaDoor
open Go.RowKit

def flA (L : Lg) (k : Nat) : Nat := flo L.sure + 480 * k
def flP (L : Lg) (k : Nat) : List UInt8 := partB L (flA L k) ((L.tail.drop (480 * k)).take 480)
def flS (L : Lg) (k : Nat) : Int := (secOf L (flA L k) : Int)
/-- The writes of the parts from the k-th on. -/
def flW (L : Lg) : Nat → Nat → Dk → Int × Dk
  | 0, _, D => (0, D)
  | f + 1, k, D => if L.tail.length ≤ 480 * k then (0, D) else if wE D (flS L k) (flP L k) ≠ 0 then (wE D (flS L k) (flP L k), wD D (flS L k) (flP L k)) else flW L f (k + 1) (wD D (flS L k) (flP L k))
def flZ (D : Dk) (L : Lg) : Int × Dk := flW L (L.tail.length) 0 D
def sureL (L : Lg) : Lg := { L with sure := endOf L, tail := L.tail.drop (flo L.tail.length) }
/-- What Flush answers, the disk and the log behind it. -/
def flE (D : Dk) (L : Lg) : Int := if D.off = true then 8 else if L.sure = endOf L then 0 else if (flZ D L).1 ≠ 0 then (flZ D L).1 else sE (flZ D L).2
def flD (D : Dk) (L : Lg) : Dk := if D.off = true then D else if L.sure = endOf L then D else if (flZ D L).1 ≠ 0 then (flZ D L).2 else sD (flZ D L).2
def flL (D : Dk) (L : Lg) : Lg := if flE D L = 0 ∧ ¬ L.sure = endOf L then sureL L else L
theorem flW_end (L : Lg) (f k : Nat) (D : Dk) (h : L.tail.length ≤ 480 * k) : flW L f k D = (0, D) := by
  cases f with
  | zero => rfl
  | succ f => unfold flW; rw [if_pos h]
section
variable {w0 w w1 : World} {X : Bk} {D D' : Dk} {L L' : Lg} {r : Value} {e : Ending} {w' : World}
set_option maxRecDepth 20000 in
set_option maxHeartbeats 3200000 in
theorem flush_any (h : LgAt w0 w X D L) (ok : L.Ok D) (b : Bd D) (hp : D.pen.length < 500000) (ho : D.ops < 500000) (htl : L.tail.length < 100000000) (hT : Tab w0) : Calls Tryd.prog 12 #[.pointer (some ⟨X.q, 0, none⟩)] w (LPost w0 w X (.int .i64 (flE D L)) (flD D L) (flL D L)) := by
  have HL := hide h
  have HOK := hide ok
  have HT := hide hT
  have KON := hide (on_any h.disk)
  have c0 := h.blk.cell (i := 0) rfl
  cases hd : D.off with
  | true =>
    have HE : Hid (flE D L = 8) := hide (by unfold flE; rw [hd]; rfl)
    have HD : Hid (flD D L = D) := hide (by unfold flD; rw [hd]; rfl)
    have HLL : Hid (flL D L = L) := hide (by unfold flL; rw [HE.out, if_neg (fun hh => absurd hh.1 (by decide))])
    rw [HE.out, HD.out, HLL.out]
    rw [hd] at KON
    clear h ok b hp ho htl hT hd
    go_enter Tryd.func12, Tryd.ntmps12
    go_wp2_with (go_at_call 9; (with_reducible refine KON.out.mono ?_); rintro e w2 ⟨rfl, rfl⟩)
    go_ret
    exact LPost.still HL.out (Ext.refl _) rfl
  | false =>
    rw [hd] at KON
    have KE := hide (fun (W : World) (hW : Ext w W) => end_any (h.ext_ hW) ok)
    have c8 := h.blk.cell (i := 8) rfl
    by_cases hse : L.sure = endOf L
    · have HE : Hid (flE D L = 0) := hide (by unfold flE; rw [hd, if_neg (by decide), if_pos hse])
      have HD : Hid (flD D L = D) := hide (by unfold flD; rw [hd, if_neg (by decide), if_pos hse])
      have HLL : Hid (flL D L = L) := hide (by unfold flL; rw [if_neg (fun hh => hh.2 hse)])
      rw [HE.out, HD.out, HLL.out]
      rw [← hse] at KE
      clear h ok b hp ho htl hT hd hse
      go_enter Tryd.func12, Tryd.ntmps12
      go_upto_region 5 with (go_at_call 9; (with_reducible refine KON.out.mono ?_); rintro e w2 ⟨rfl, rfl⟩)
      go_quiet ((go_at_call 15; exact Calls.quiet_of (KE.out _ ((Ext.refl _).drewN _))))
      go_wp2
      go_ret
      exact LPost.still HL.out ((Ext.refl _).drewN _) rfl
    · have HFE : Hid (flE D L = if (flZ D L).1 ≠ 0 then (flZ D L).1 else sE (flZ D L).2) := hide (by unfold flE; rw [hd, if_neg (by decide), if_neg hse])
      have HFD : Hid (flD D L = if (flZ D L).1 ≠ 0 then (flZ D L).2 else sD (flZ D L).2) := hide (by unfold flD; rw [hd, if_neg (by decide), if_neg hse])
      have HSE := hide hse
      have HFLL : Hid (flL D L = if flE D L = 0 then sureL L else L) := hide (by
        unfold flL
        by_cases h0 : flE D L = 0
        · rw [if_pos ⟨h0, hse⟩, if_pos h0]
        · rw [if_neg (fun hh => h0 hh.1), if_neg h0])
      obtain ⟨zE, HZE⟩ : ∃ zE, Hid (flE D L = zE) := ⟨_, hide rfl⟩
      obtain ⟨zD, HZD⟩ : ∃ zD, Hid (flD D L = zD) := ⟨_, hide rfl⟩
      obtain ⟨zL, HZL⟩ : ∃ zL, Hid (flL D L = zL) := ⟨_, hide rfl⟩
      obtain ⟨zz, HZZ⟩ : ∃ zz, Hid (flZ D L = zz) := ⟨_, hide rfl⟩
      rw [HZE.out, HZZ.out] at HFE
      rw [HZD.out, HZZ.out] at HFD
      rw [HZL.out, HZE.out] at HFLL
      rw [HZE.out, HZD.out, HZL.out]
      have hel := endOf_lt ok
      have HEL := hide hel
      obtain ⟨en, HEN⟩ : ∃ en : Nat, Hid (endOf L = en) := ⟨_, hide rfl⟩
      rw [HEN.out] at KE HEL
      have hne : ((L.sure : Int) == (en : Int)) = false := by
        have h1 := HEN.out
        simp
        omega
      obtain ⟨n, HN⟩ : ∃ n, Hid (L.tail.length = n) := ⟨_, hide rfl⟩
      have HNL : Hid (n < 100000000) := hide (by rw [← HN.out]; exact htl)
      have HZ0 : Hid (flW L (n - 0) 0 D = zz) := hide (by rw [← HZZ.out, ← HN.out]; rfl)
      have HB : Hid (Bd D ∧ D.pen.length ≤ 500000 + 0 ∧ D.ops ≤ 500000 + 0) := hide ⟨b, by omega, by omega⟩
      obtain ⟨dl, HDL⟩ : ∃ dl, Hid (D.dur.length = dl) := ⟨_, hide rfl⟩
      have HL0 := HL
      clear h ok b hp ho htl hT hd hse hel
      go_enter Tryd.func12, Tryd.ntmps12
      go_upto_region 5 with (go_at_call 9; (with_reducible refine KON.out.mono ?_); rintro e w2 ⟨rfl, rfl⟩)
      go_quiet ((go_at_call 15; exact Calls.quiet_of (KE.out _ ((Ext.refl _).drewN _))))
      go_wp2
      clear hne c8 c0
      go_loopw [3] (fun x wr => ∃ (k : Nat) (X' : Bk) (D' : Dk), 480 * k < n + 480 ∧ x = .int .i64 ((480 * k : Nat) : Int) ∧ Hid (LgAt w0 wr X' D' L) ∧ Hid (Lfr X w wr) ∧ Hid (X'.Later X w) ∧ Hid (flW L (n - k) k D' = zz) ∧ Hid (Bd D' ∧ D'.pen.length ≤ 500000 + k ∧ D'.ops ≤ 500000 + k) ∧ Hid (D'.dur.length = dl)) (fun x _ => n + 480 - (intOf x).toNat)
      case atStart => exact ⟨0, X, D, by omega, rfl, hide (HL0.out.ext_ ((Ext.refl _).drewN _)), hide (Lfr.ext ((Ext.refl _).drewN _)), hide (Bk.Later.refl _ _), HZ0, HB, HDL⟩
      case round =>
        obtain ⟨k, X1, D1, hk, rfl, HL1, HF1, HN1, HW1, HB1, HD1⟩ := hrel
        have hq1 : X1.q = X.q := HN1.out.q
        obtain ⟨At, ct, htv, hct, hrt⟩ := HL1.out.tail.bytes
        have HTV := hide htv
        rw [HN.out] at hct
        have HRT := hide hrt
        have HCT := hide hct
        have k9 := HL1.out.blk.cell (i := 9) rfl
        rw [hq1, htv, HN.out] at k9
        have k0 := HL1.out.blk.cell (i := 0) rfl
        rw [hq1] at k0
        have HQ1 := hide hq1
        have HOK1 : Hid (L.Ok D1) := hide (HOK.out.onD (by rw [HD1.out, HDL.out]))
        obtain ⟨fr, HFR⟩ : ∃ fr, Hid (480 * k = fr) := ⟨_, hide rfl⟩
        rw [HFR.out] at hk ⊢
        clear htv hct hrt hq1
        by_cases hfn : fr < n
        · have hfi : (fr : Int) < (n : Int) := by omega
          obtain ⟨b1, off1, u1, hAt, -, -⟩ := HRT.out.at (k := 0) (by rw [HN.out]; omega)
          subst hAt
          obtain ⟨t, HTT⟩ : ∃ t, Hid ((if fr + 480 < n then fr + 480 else n) = t) := ⟨_, hide rfl⟩
          have HTE : Hid (t ≤ n ∧ fr ≤ t ∧ t - fr ≤ 480) := hide (by have := HTT.out; split at this <;> omega)
          have hwf : IntKind.i64.wrap ((fr : Int) + 480) = ((fr + 480 : Nat) : Int) := by rw [IntKind.wrap_i64]; have := HNL.out; omega
          have hmin : ∀ (inst : Decidable ((n : Int) < (fr : Int) + 480)), @ite Int ((n : Int) < (fr : Int) + 480) inst (n : Int) ((fr : Int) + 480) = (t : Int) := by intro inst; have := HTT.out; split at this <;> split <;> omega
          have KTA : Hid (∀ W, Ext wr W → Calls Tryd.prog 35 #[.pointer (some ⟨X.q, 0, none⟩)] W (Same W (.int .u64 (flo L.sure : Int)))) := hide (fun W hW => by have k := tailAt_any (HL1.out.ext_ hW) HOK1.out; rw [HQ1.out] at k; exact k)
          obtain ⟨a, HAA⟩ : ∃ a, Hid (flA L k = a) := ⟨_, hide rfl⟩
          obtain ⟨fl, HFL⟩ : ∃ fl, Hid (flo L.sure = fl) := ⟨_, hide rfl⟩
          have HAF : Hid (a = fl + fr) := hide (by rw [← HAA.out, ← HFL.out, ← HFR.out]; rfl)
          have HFLL2 : Hid (fl < 1152921504606846976) := hide (by rw [← HFL.out]; have h1 := flo_le L.sure; have h2 := HOK.out.sure; omega)
          have hw1 : IntKind.u64.wrap (fr : Int) = (fr : Int) := by rw [IntKind.wrap_u64]; have := HNL.out; omega
          have hw2 : IntKind.u64.wrap ((fl : Int) + (fr : Int)) = (a : Int) := by rw [IntKind.wrap_u64]; have := HAF.out; have := HFLL2.out; have := HNL.out; omega
          obtain ⟨pp, HPP⟩ : ∃ pp, Hid ((L.tail.drop fr).take 480 = pp) := ⟨_, hide rfl⟩
          have HPL : Hid (pp.length = t - fr) := hide (by rw [← HPP.out, List.length_take, List.length_drop, HN.out]; have := HTT.out; split at this <;> omega)
          have HRP : Hid (Rd wr (some ⟨b1, off1 + fr, none⟩) pp) := hide (by
            have h1 := (HRT.out.drop fr).take 480
            rw [add_flat, HPP.out] at h1
            exact h1)
          obtain ⟨e2, HE2⟩ : ∃ e2, Hid (wE D1 (flS L k) (flP L k) = e2) := ⟨_, hide rfl⟩
          obtain ⟨D2, HD2⟩ : ∃ D2, Hid (wD D1 (flS L k) (flP L k) = D2) := ⟨_, hide rfl⟩
          have KGW : Hid (∀ W, Ext wr W → Calls Tryd.prog 34 #[.pointer (some ⟨X.q, 0, none⟩), .int .u64 (a : Int), .slice (some ⟨b1, off1 + fr, none⟩) (t - fr) (ct - fr)] W (LPost w0 W X1 (.int .i64 e2) D2 L)) := hide (fun W hW => by
            have k1 := gwrite_any (HL1.out.ext_ hW) HOK1.out HB1.out.1 a (by have := HAF.out; have := HFLL2.out; have := HNL.out; omega) (some ⟨b1, off1 + fr, none⟩) (ct - fr) (t - fr) pp (HRP.out.ext hW) HPL.out HTE.out.2.2 HT.out
            rw [HQ1.out] at k1
            rw [← HE2.out, ← HD2.out]
            unfold flP flS
            rw [HAA.out, HFR.out, HPP.out]
            exact k1)
          have HWN : Hid (zz = if e2 ≠ 0 then (e2, D2) else flW L (n - (k + 1)) (k + 1) D2) := hide (by
            rw [← HW1.out, show n - k = (n - (k + 1)) + 1 by have := HFR.out; omega]
            rw [flW, if_neg (by rw [HN.out, HFR.out]; omega), HE2.out, HD2.out])
          have HBD2 := hide (wD_bd HB1.out.1 (by have h1 := HB1.out.2.1; have := HNL.out; have := HFR.out; omega) (by have h1 := HB1.out.2.2; have := HNL.out; have := HFR.out; omega) (flS L k) (flP L k))
          rw [HD2.out] at HBD2
          rw [HFL.out] at KTA
          go_upto_region 11 with fail
          have hs1 : fr ≤ t := HTE.out.2.1
          have hs2 : (fr : Int) ≤ (t : Int) := by omega
          have hs3 : t ≤ ct := by have := HTE.out.1; have := HCT.out; omega
          have hs4 : (t : Int) ≤ (ct : Int) := by omega
          have hs5 : ¬ ct = fr := by have := HCT.out; omega
          clear hmin hwf hfi
          go_region_law (first
            | (go_simp; go_at_call 35; (with_reducible refine (KTA.out _ (Ext.drew _)).mono ?_); rintro e w4 ⟨rfl, rfl⟩)
            | (go_simp; go_at_call 34; (with_reducible refine (KGW.out _ (Ext.drew _)).mono ?_); rintro e w5 hp5; have HP5 := hide (LPost.trans HF1.out HN1.out (LPost.pre (Ext.drew _) hp5)); obtain ⟨X5', rfl, -⟩ := hp5))
          all_goals
            clear hw1 hw2 hs1 hs2 hs3 hs4 hs5
            by_cases he2 : e2 = 0
            · subst he2
              have HWN2 : Hid (flW L (n - (k + 1)) (k + 1) D2 = zz) := hide (by rw [HWN.out, if_neg (by decide)])
              obtain ⟨X5, -, HL5, HF5, HN5⟩ := HP5.out
              have hwf : IntKind.i64.wrap ((fr : Int) + 480) = ((480 * (k + 1) : Nat) : Int) := by rw [IntKind.wrap_i64]; have := HNL.out; have := HFR.out; omega
              have hkk : 480 * (k + 1) < n + 480 := by have := HFR.out; omega
              have HMS : Hid (n + 480 - 480 * (k + 1) < n + 480 - fr) := hide (by have := HFR.out; omega)
              obtain ⟨f2, HF2⟩ : ∃ f2, Hid (480 * (k + 1) = f2) := ⟨_, hide rfl⟩
              rw [HF2.out] at hwf
              go_wp2
              refine ⟨⟨k + 1, X5, D2, hkk, by rw [HF2.out], hide HL5, hide HF5, hide HN5, HWN2, hide ⟨HBD2.out.1, by have h1 := HBD2.out.2.1; have h2 := HB1.out.2.1; omega, by have h1 := HBD2.out.2.2.1; have h2 := HB1.out.2.2; omega⟩, hide (by rw [HBD2.out.2.2.2, HD1.out])⟩, ?_⟩
              show n + 480 - ((f2 : Int)).toNat < n + 480 - ((fr : Int)).toNat
              have h1 := HMS.out
              rw [HF2.out] at h1
              omega
            · have HZ2 : Hid (zz = (e2, D2)) := hide (by rw [HWN.out, if_pos he2])
              have HFE2 : Hid (zE = e2) := hide (by rw [HFE.out, HZ2.out]; exact if_pos he2)
              have HFD2 : Hid (zD = D2) := hide (by rw [HFD.out, HZ2.out]; exact if_pos he2)
              have HFL2 : Hid (zL = L) := hide (by rw [HFLL.out, HFE2.out, if_neg he2])
              have hee2 : (e2 != 0) = true := by simpa using he2
              clear he2
              go_wp2
              go_ret
              rw [HFE2.out, HFD2.out, HFL2.out]
              exact HP5.out
        · have hfi : ¬ (fr : Int) < (n : Int) := by omega
          have HZ2 : Hid (zz = (0, D1)) := hide (by rw [← HW1.out]; exact flW_end L _ k D1 (by rw [HN.out, HFR.out]; omega))
          obtain ⟨e3, HE3⟩ : ∃ e3, Hid (sE D1 = e3) := ⟨_, hide rfl⟩
          obtain ⟨D3, HD3⟩ : ∃ D3, Hid (sD D1 = D3) := ⟨_, hide rfl⟩
          have HFE2 : Hid (zE = e3) := hide (by rw [HFE.out, HZ2.out, ← HE3.out]; exact if_neg (fun hh => hh rfl))
          have HFD2 : Hid (zD = D3) := hide (by rw [HFD.out, HZ2.out, ← HD3.out]; exact if_neg (fun hh => hh rfl))
          have KSY := hide (gsync_any HL1.out HB1.out.1)
          rw [HE3.out, HD3.out] at KSY
          have HOK3 : Hid (L.Ok D3) := hide (HOK1.out.onD (by rw [← HD3.out]; exact (sD_bd HB1.out.1 (by have h1 := HB1.out.2.2; have := HNL.out; have := HFR.out; omega)).2.2.2))
          rw [HFE2.out] at HFLL
          by_cases he3 : e3 = 0
          · subst he3
            have HFL3 : Hid (zL = sureL L) := hide (by rw [HFLL.out, if_pos rfl])
            obtain ⟨wh, HWHL⟩ : ∃ wh, Hid (flo n = wh) := ⟨_, hide rfl⟩
            go_upto_region 17 with (go_at_call 36; (with_reducible refine KSY.out.mono ?_); rintro e w2 hp2; have HP2 := hide (LPost.trans HF1.out HN1.out hp2); obtain ⟨X2', rfl, -⟩ := hp2)
            obtain ⟨X2, -, HL2, HF2, HN2⟩ := HP2.out
            have HL2 := hide HL2
            have HF2 := hide HF2
            have HN2 := hide HN2
            have hq2 : X2.q = X.q := HN2.out.q
            obtain ⟨A2, c2, htv2, hct2, hrt2⟩ := HL2.out.tail.bytes
            rw [HN.out] at hct2 htv2
            have HCT2 := hide hct2
            have HRT2 := hide hrt2
            have m9 := HL2.out.blk.cell (i := 9) rfl
            rw [hq2, htv2] at m9
            have HQ2 := hide hq2
            have HTV2 := hide htv2
            clear hq2 htv2 hct2 hrt2 k0 k9 hfi
            have hwh0 : ((n : Int) - (n : Int) % 480) = (wh : Int) := by have := HWHL.out; unfold flo at this; omega
            have hwh1 : IntKind.i64.wrap (wh : Int) = (wh : Int) := by rw [IntKind.wrap_i64]; have := HWHL.out; have := HNL.out; have := flo_le n; omega
            go_region
            obtain ⟨w3, hw3⟩ : ∃ w3, w2.drew = w3 := ⟨_, rfl⟩
            have HX3 : Hid (Ext w2 w3) := hide (by rw [← hw3]; exact Ext.drew _)
            rw [hw3]
            clear hw3
            have HL3 : Hid (∀ m, LgAt w0 (w3.drewN m) X2 D3 L) := hide (fun m => (HL2.out.ext_ HX3.out).ext_ ((Ext.refl _).drewN m))
            have KE3 : Hid (Calls Tryd.prog 15 #[.pointer (some ⟨X.q, 0, none⟩)] w3 (fun e w' => e = .returned (.int .u64 (en : Int)) ∧ ∃ m, w' = w3.drewN m)) := hide (by
              have k1 := end_any (HL2.out.ext_ HX3.out) HOK3.out
              rw [HQ2.out, HEN.out] at k1
              exact k1)
            have HL4 : Hid (∀ m, LgAt w0 ((w3.drewN m).setCell ⟨X.q, 8, none⟩ (.int .u64 (en : Int))) X2 D3 { L with sure := en }) := hide (fun m => by
              have k1 := (HL3.out m).put 8 (.int .u64 (en : Int)) { L with sure := en } rfl rfl
              rw [HQ2.out] at k1
              exact k1)
            have HDN : Hid ((L.tail.drop wh).length = n - wh) := hide (by rw [List.length_drop, HN.out])
            have HWN : Hid (wh ≤ n) := hide (by rw [← HWHL.out]; exact flo_le n)
            obtain ⟨td, HTD⟩ : ∃ td, Hid (L.tail.drop wh = td) := ⟨_, hide rfl⟩
            rw [HTD.out] at HDN
            have KCL : Hid (∀ m, Calls Tryd.prog 37 #[.slice (cutB A2 c2 wh) (n - wh) (c2 - wh)] ((w3.drewN m).setCell ⟨X.q, 8, none⟩ (.int .u64 (en : Int))) (Ret ((w3.drewN m).setCell ⟨X.q, 8, none⟩ (.int .u64 (en : Int))) (fun w' v => Own w' ((w3.drewN m).setCell ⟨X.q, 8, none⟩ (.int .u64 (en : Int))).heap.size v td))) := hide (fun m => by
              obtain ⟨A', c', htv', hct', hrt'⟩ := (HL4.out m).tail.bytes
              rw [HTV2.out] at htv'
              simp only [Value.slice.injEq] at htv'
              obtain ⟨rfl, -, rfl⟩ := htv'
              have h1 := hrt'.cutF HN.out HCT2.out wh HWN.out
              simp only at h1
              rw [HTD.out] at h1
              exact clone_any (cutB A2 c2 wh) td (n - wh) (c2 - wh) _ h1 HDN.out (by have := HNL.out; omega))
            clear hwh0 hwh1 m9
            go_wp2_with (first
              | (go_at_call 15; (with_reducible refine KE3.out.mono ?_); rintro e w4 ⟨rfl, m3, rfl⟩; have s8 := (HL3.out m3).blk.cell (i := 8) rfl; have f8 := (HL3.out m3).blk.frozen 8; have s9 := (HL4.out m3).blk.cell (i := 9) rfl; rw [HQ2.out] at s8 f8 s9; rw [HTV2.out] at s9)
              | ((with_reducible show wpList _ _ _ (⟨some 91, _, _, _, _, _⟩ :: _) _ _); refine wpList_gives (gives_fromV rfl rfl rfl (run_fromI A2 n c2 wh HWN.out _) ⟨rfl, rfl⟩) rfl ?_)
              | (go_at_call 37; (with_reducible refine (KCL.out m3).mono ?_); rintro e w6 ⟨v, rfl, hx6, ho6⟩; obtain ⟨A6, c6, hv6, -, -⟩ := ho6.bytes; rw [HDN.out] at hv6; subst hv6; have HOB := hide (fun k hk => (own_block ho6 k hk).1); have HX6 := hide hx6; have HO6 := hide (ho6.low ((HL4.out m3).ext.size)); have HL6 := hide ((HL4.out m3).ext_ hx6); have r9 := HL6.out.blk.cell (i := 9) rfl; have f9 := HL6.out.blk.frozen 9; rw [HQ2.out] at r9 f9; clear hx6 ho6))
            go_ret
            rw [HFE2.out, HFD2.out, HFL3.out]
            have HP9 := HL6.out.putTail _ _ HO6.out
            have e1 : ({ ({ L with sure := en } : Lg) with tail := td } : Lg) = sureL L := by
              unfold sureL
              rw [HEN.out, HN.out, HWHL.out, HTD.out]
            rw [e1] at HP9
            have hfz : Lfr X2 w2 (w6.setCell ⟨X.q, 9, none⟩ (.slice A6 (n - wh) c6)) := by
              have g1 : Lfr X2 w2 ((w3.drewN m3).setCell ⟨X.q, 8, none⟩ (.int .u64 (en : Int))) := by
                have h1 := Lfr.cell X2 (w3.drewN m3) 8 (.int .u64 (en : Int))
                rw [HQ2.out] at h1
                exact (Lfr.ext (HX3.out.trans ((Ext.refl _).drewN _))).trans h1 (Bk.Later.refl _ _)
              have g2 := Lfr.cell X2 w6 9 (.slice A6 (n - wh) c6)
              rw [HQ2.out] at g2
              exact (g1.trans (Lfr.ext HX6.out) (Bk.Later.refl _ _)).trans g2 (Bk.Later.refl _ _)
            have hsz : w.heap.size ≤ ((w3.drewN m3).setCell ⟨X.q, 8, none⟩ (.int .u64 (en : Int))).heap.size := Nat.le_trans HF2.out.size (by
              have h1 := (HX3.out.trans ((Ext.refl w3).drewN m3)).size
              simpa using h1)
            refine ⟨{ X2 with tv := .slice A6 (n - wh) c6 }, rfl, (by rw [← HQ2.out]; exact HP9), HF2.out.trans hfz HN2.out, ⟨HN2.out.q, HN2.out.g, HN2.out.gd, HN2.out.gn, fun k hk => ?_⟩⟩
            unfold Bk.has at hk
            rcases hk with hk | hk | hk | hk | hk | hk
            · exact HN2.out.has k (.inl hk)
            · exact HN2.out.has k (.inr (.inl hk))
            · exact HN2.out.has k (.inr (.inr (.inl hk)))
            · exact HN2.out.has k (.inr (.inr (.inr (.inl hk))))
            · exact HN2.out.has k (.inr (.inr (.inr (.inr (.inl hk)))))
            · exact .inr (Nat.le_trans hsz (HOB.out k hk))
          · have HFL3 : Hid (zL = L) := hide (by rw [HFLL.out, if_neg he3])
            have hee3 : (e3 != 0) = true := by simpa using he3
            clear he3
            go_wp2_with (go_at_call 36; (with_reducible refine KSY.out.mono ?_); rintro e w2 hp2; have HP2 := hide (LPost.trans HF1.out HN1.out hp2); obtain ⟨X2', rfl, -⟩ := hp2)
            go_ret
            rw [HFE2.out, HFD2.out, HFL3.out]
            exact HP2.out
end
end Go.Proofs.YtdifpbicdicggaaDoor
namespace Go.Proofs.YtdifpbicdicggaaDoor
open Go.RowKit

section
variable {dur : List (List UInt8)} {pen : List (Nat × List UInt8)} {k i n : Nat} {p q : List UInt8}
theorem wE_still (hi : i < dur.length) (hp : p.length = 512) : wE ⟨dur, pen, k, 0, false⟩ (i : Int) p = 0 := by
  unfold wE
  rw [if_neg (by show ¬ ((i : Int) < 0 ∨ (dur.length : Int) ≤ i); omega), if_neg (by simp [hp]), if_neg (by simp)]
  rfl
theorem wD_still (hi : i < dur.length) (hp : p.length = 512) : wD ⟨dur, pen, k, 0, false⟩ (i : Int) p = ⟨dur, pen ++ [(i, p)], k + 1, 0, false⟩ := by
  unfold wD
  rw [if_neg (by show ¬ ((i : Int) < 0 ∨ (dur.length : Int) ≤ i); omega), if_neg (by simp [hp]), if_neg (by simp), Int.toNat_natCast]
  rfl
theorem sE_still : sE ⟨dur, pen, k, 0, false⟩ = 0 := by
  unfold sE
  rw [if_neg (by simp), if_neg (by simp)]
theorem sD_one : sD ⟨dur, [(i, p)], k, 0, false⟩ = ⟨dur.set i p, [], k + 1, 0, false⟩ := by
  unfold sD
  rw [if_neg (by simp), if_neg (by simp)]
  rfl
theorem sD_two {j : Nat} : sD ⟨dur, [(i, p), (j, q)], k, 0, false⟩ = ⟨(dur.set i p).set j q, [], k + 1, 0, false⟩ := by
  unfold sD
  rw [if_neg (by simp), if_neg (by simp)]
  rfl
theorem gE_still (hi : i < dur.length) : gE ⟨dur, pen, k, 0, false⟩ (i : Int) = 0 := by
  unfold gE
  rw [if_neg (by show ¬ ((i : Int) < 0 ∨ (dur.length : Int) ≤ i); omega), if_neg (by simp)]
theorem gB_still (hi : i < dur.length) : gB ⟨dur, [], k, 0, false⟩ (i : Int) = dur.getD i [] := by
  unfold gB
  rw [if_neg (by show ¬ ((i : Int) < 0 ∨ (dur.length : Int) ≤ i); omega), if_neg (by simp), Int.toNat_natCast]
  unfold Dk.at
  rw [if_pos (lastP_nil i)]
end
def zS (n : Nat) : List (List UInt8) := List.replicate n (List.replicate 512 0)
theorem zS_len (n : Nat) : (zS n).length = n := List.length_replicate ..
theorem zS_get {n i : Nat} (h : i < n) : (zS n).getD i [] = List.replicate 512 0 := by
  unfold zS
  rw [List.getD_eq_getElem?_getD, List.getElem?_replicate, if_pos h]
  rfl
section
variable {n a c k : Nat}
theorem pt_zero {dur : List (List UInt8)} {i : Nat} (hi : i < dur.length) (h : dur.getD i [] = List.replicate 512 0) : ptIs ⟨dur, [], k, 0, false⟩ (i : Int) = false := by
  unfold ptIs
  rw [gB_still hi, h]
  simp only [decide_eq_false_iff_not]
  intro h2
  exact unsE_zero 2 (by decide) h2.2
theorem nx_zero (hf : a + 1 + c ≤ n) : ∀ j, j ≤ c → nxE ⟨zS n, [], k, 0, false⟩ (a : Int) j = 0
  | 0, _ => rfl
  | j + 1, hj => by
    unfold nxE
    have e : (a : Int) + 1 + (j : Int) = ((a + 1 + j : Nat) : Int) := by omega
    rw [e, pt_zero (by rw [zS_len]; omega) (zS_get (by omega)), if_neg (by decide)]
    exact nx_zero hf j (by omega)
def b1S (c : Nat) : List UInt8 := sealB 1 (Hd.ns ⟨0, 0, 480, 480, 0, c⟩) []
def b2S (c : Nat) : List UInt8 := sealB 1 (Hd.ns ⟨1, 0, 480, 480, 0, c⟩) []
def bpS : List UInt8 := sealB 2 (ptNs 1 1 0) []
theorem b1S_len (c : Nat) : (b1S c).length = 512 := sealB_length (by simp [Hd.ns]) (by simp)
theorem b2S_len (c : Nat) : (b2S c).length = 512 := sealB_length (by simp [Hd.ns]) (by simp)
theorem bpS_len : bpS.length = 512 := sealB_length (by simp [ptNs]) (by simp)
theorem fits_yes (h4 : 4 ≤ c) (hf : a + 1 + c ≤ n) : fitsE n (a : Int) (c : Int) = 0 := by unfold fitsE; rw [if_neg (by omega)]
/-- The disk behind Format. -/
def dk1 (n a c : Nat) : Dk := ⟨(zS n).set a (b1S c), [], 2, 0, false⟩
def dk2 (n a c : Nat) : Dk := ⟨(((zS n).set a (b1S c)).set a (b2S c)).set (a + 2) bpS, [], 5, 0, false⟩
def lgN (a c : Nat) : Lg := ⟨a, ⟨1, 0, 480, 480, 0, c⟩, 480, [], 0⟩
theorem format_new (h4 : 4 ≤ c) (hf : a + 1 + c ≤ n) : fmtE (D0 n) (a : Int) (c : Int) = 0 ∧ fmtD (D0 n) (a : Int) (c : Int) = dk1 n a c := by
  have e0 : D0 n = ⟨zS n, [], 0, 0, false⟩ := rfl
  have hb : fmtB (D0 n) (a : Int) c = b1S c := by
    unfold fmtB fmtHd
    rw [e0, nx_zero hf c (Nat.le_refl _)]
    rfl
  have hl : (D0 n).dur.length = n := D0_len n
  have hz : a < (zS n).length := by rw [zS_len]; omega
  constructor
  · unfold fmtE
    rw [hl, fits_yes h4 hf, Int.toNat_natCast, hb, e0, if_neg (by decide), if_neg (by simp), wE_still hz (b1S_len c), wD_still hz (b1S_len c), if_neg (by decide)]
    exact sE_still
  · unfold fmtD
    rw [hl, fits_yes h4 hf, Int.toNat_natCast, hb, e0, if_neg (by decide), if_neg (by simp), wE_still hz (b1S_len c), wD_still hz (b1S_len c), if_neg (by decide)]
    exact sD_one
theorem set_get {α : Type} (L : List α) (i : Nat) (x d : α) (h : i < L.length) : (L.set i x).getD i d = x := by simp [List.getD_eq_getElem?_getD, h]
theorem set_far {α : Type} (L : List α) (i j : Nat) (x d : α) (h : j ≠ i) : (L.set i x).getD j d = L.getD j d := by simp [List.getD_eq_getElem?_getD, List.getElem?_set_ne (Ne.symm h)]
theorem head_new (hc : c < 5000) (hf : a + 1 + c ≤ n) : rhE (dk1 n a c) (a : Int) = 0 ∧ rhH (dk1 n a c) (a : Int) = ⟨0, 0, 480, 480, 0, c⟩ := by
  have hlen : ((zS n).set a (b1S c)).length = n := by rw [List.length_set, zS_len]
  have hb : gB (dk1 n a c) (a : Int) = b1S c := by
    unfold dk1
    rw [gB_still (by rw [hlen]; omega), set_get _ _ _ _ (by rw [zS_len]; omega)]
  have hE : rhE (dk1 n a c) (a : Int) = 0 := by
    unfold rhE
    have : gE (dk1 n a c) (a : Int) = 0 := gE_still (by rw [hlen]; omega)
    rw [this, if_neg (by decide), hb]
    unfold b1S
    rw [unsE_seal (by simp [Hd.ns]) (by simp)]
    rfl
  refine ⟨hE, ?_⟩
  unfold rhH
  rw [hE, if_pos rfl, hb]
  unfold hdOf b1S
  have hns : (Hd.ns ⟨0, 0, 480, 480, 0, c⟩).length ≤ 6 := by simp [Hd.ns]
  have ht : ([] : List UInt8).length ≤ 480 := by simp
  rw [numAt_seal hns ht 0 0 rfl (by omega) (.inl rfl), numAt_seal hns ht 1 0 rfl (by omega) (.inl rfl), numAt_seal hns ht 2 480 rfl (by omega) (.inl rfl), numAt_seal hns ht 3 480 rfl (by omega) (.inl rfl), numAt_seal hns ht 4 0 rfl (by omega) (.inl rfl), numAt_seal hns ht 5 (c : Int) rfl (by omega) (.inl rfl)]
  rfl
theorem open_new (h4 : 4 ≤ c) (hc : c < 5000) (hf : a + 1 + c ≤ n) : opE (dk1 n a c) (a : Int) (c : Int) = 0 ∧ opD (dk1 n a c) (a : Int) (c : Int) = dk2 n a c ∧ opL (dk1 n a c) (a : Int) = lgN a c := by
  obtain ⟨hE, hH⟩ := head_new hc hf
  have hlen : (dk1 n a c).dur.length = n := by show ((zS n).set a (b1S c)).length = n; rw [List.length_set, zS_len]
  have h0 : op0 (dk1 n a c) (a : Int) = ⟨a, ⟨0, 0, 480, 480, 0, c⟩, 0, [], 0⟩ := by unfold op0; rw [hH, Int.toNat_natCast]
  have hmod : 480 / 480 % c = 1 := Nat.mod_eq_of_lt (by omega)
  have hth : ptThere (dk1 n a c) ⟨a, ⟨0, 0, 480, 480, 0, c⟩, 0, [], 0⟩ 480 = false := by
    unfold ptThere secOf
    rw [show a + 1 + 480 / 480 % c = a + 2 by rw [hmod]]
    unfold dk1
    rw [pt_zero (by rw [List.length_set, zS_len]; omega) (by rw [set_far _ _ _ _ _ (by omega), zS_get (by omega)])]
    rfl
  have hall : fnAll (dk1 n a c) ⟨a, ⟨0, 0, 480, 480, 0, c⟩, 0, [], 0⟩ = [] := by
    unfold fnAll fnBase
    show thP _ _ (c + 1) (flo 480) _ = []
    rw [show flo 480 = 480 from rfl, thP, hth, if_neg (by simp)]
  have hbase : fnBase ⟨a, ⟨0, 0, 480, 480, 0, c⟩, 0, [], 0⟩ = 480 := by unfold fnBase; exact (by decide : flo 480 = 480)
  have hend : fnEnd (dk1 n a c) ⟨a, ⟨0, 0, 480, 480, 0, c⟩, 0, [], 0⟩ = 0 := by
    unfold fnEnd
    rw [hall, hbase]
    show runN [] 0 (480 - 480) = 0
    rfl
  have hsure : fnSure (dk1 n a c) ⟨a, ⟨0, 0, 480, 480, 0, c⟩, 0, [], 0⟩ = 480 := by unfold fnSure; rw [hend, hbase]
  have htail : fnTail (dk1 n a c) ⟨a, ⟨0, 0, 480, 480, 0, c⟩, 0, [], 0⟩ = [] := by unfold fnTail; rw [hall]; simp
  have hoff : (dk1 n a c).off = false := rfl
  have hfe : fnE (dk1 n a c) ⟨a, ⟨0, 0, 480, 480, 0, c⟩, 0, [], 0⟩ = 0 := by
    unfold fnE
    rw [hall, hsure, hbase, hoff]
    simp
  have hfl : opF (dk1 n a c) (a : Int) = ⟨a, ⟨0, 0, 480, 480, 0, c⟩, 480, [], 0⟩ := by
    unfold opF
    rw [h0]
    unfold fnL
    rw [hsure, htail]
  have hol : opL (dk1 n a c) (a : Int) = lgN a c := by unfold opL; rw [hfl]; rfl
  have hbb : bgB ⟨a, ⟨0, 0, 480, 480, 0, c⟩, 480, [], 0⟩ = b2S c := by
    show sealB 1 (Hd.ns ⟨(0 + 1) % 18446744073709551616, 0, 480, 480, 0, c⟩) [] = sealB 1 (Hd.ns ⟨1, 0, 480, 480, 0, c⟩) []
    rw [show (0 + 1) % 18446744073709551616 = 1 from by decide]
  have hbp : bgP ⟨a, ⟨0, 0, 480, 480, 0, c⟩, 480, [], 0⟩ = bpS := by
    show sealB 2 (ptNs (flo 480 / 480) ((0 + 1) % 18446744073709551616) 0) [] = sealB 2 (ptNs 1 1 0) []
    rw [show flo 480 / 480 = 1 from by decide, show (0 + 1) % 18446744073709551616 = 1 from by decide]
  have hbs : bgS ⟨a, ⟨0, 0, 480, 480, 0, c⟩, 480, [], 0⟩ = ((a + 2 : Nat) : Int) := by
    show ((a + 1 + flo 480 / 480 % c : Nat) : Int) = _
    rw [show flo 480 = 480 from by decide, hmod]
  have hrm : roomOf (nextL ⟨a, ⟨0, 0, 480, 480, 0, c⟩, 480, [], 0⟩) > 0 := by
    show (((480 / 480 + c) * 480 : Nat) : Int) - ((flo 480 + 0 : Nat) : Int) - ((0 : Nat) : Int) > 0
    rw [show flo 480 = 480 from by decide]
    omega
  have hl1 : ((zS n).set a (b1S c)).length = n := hlen
  have hz1 : a < ((zS n).set a (b1S c)).length := by rw [hl1]; omega
  have hz2 : a + 2 < ((zS n).set a (b1S c)).length := by rw [hl1]; omega
  have w1 : wE (dk1 n a c) (a : Int) (b2S c) = 0 := wE_still hz1 (b2S_len c)
  have w2 : wD (dk1 n a c) (a : Int) (b2S c) = ⟨(zS n).set a (b1S c), [(a, b2S c)], 3, 0, false⟩ := wD_still hz1 (b2S_len c)
  have w3 : wE ⟨(zS n).set a (b1S c), [(a, b2S c)], 3, 0, false⟩ ((a + 2 : Nat) : Int) bpS = 0 := wE_still hz2 bpS_len
  have w4 : wD ⟨(zS n).set a (b1S c), [(a, b2S c)], 3, 0, false⟩ ((a + 2 : Nat) : Int) bpS = ⟨(zS n).set a (b1S c), [(a, b2S c), (a + 2, bpS)], 4, 0, false⟩ := wD_still hz2 bpS_len
  have hb : bgE (dk1 n a c) ⟨a, ⟨0, 0, 480, 480, 0, c⟩, 480, [], 0⟩ = 0 ∧ bgD (dk1 n a c) ⟨a, ⟨0, 0, 480, 480, 0, c⟩, 480, [], 0⟩ = dk2 n a c := by
    constructor
    · unfold bgE
      rw [if_pos hrm, hbb, hbp, hbs]
      show (if wE (dk1 n a c) (a : Int) (b2S c) ≠ 0 then _ else if wE (wD (dk1 n a c) (a : Int) (b2S c)) ((a + 2 : Nat) : Int) bpS ≠ 0 then _ else sE (wD (wD (dk1 n a c) (a : Int) (b2S c)) ((a + 2 : Nat) : Int) bpS)) = _
      rw [w1, w2, w3, w4, if_neg (by decide), if_neg (by decide)]
      exact sE_still
    · unfold bgD
      rw [if_pos hrm, hbb, hbp, hbs]
      show (if wE (dk1 n a c) (a : Int) (b2S c) ≠ 0 then _ else if wE (wD (dk1 n a c) (a : Int) (b2S c)) ((a + 2 : Nat) : Int) bpS ≠ 0 then _ else sD (wD (wD (dk1 n a c) (a : Int) (b2S c)) ((a + 2 : Nat) : Int) bpS)) = _
      rw [w1, w2, w3, w4, if_neg (by decide), if_neg (by decide)]
      exact sD_two
  refine ⟨?_, ?_, hol⟩
  · unfold opE
    rw [hlen, fits_yes h4 hf, hE, hH, h0, hfe, hfl, hb.1]
    simp
  · unfold opD
    rw [hlen, fits_yes h4 hf, hE, hH, h0, hfe, hfl, hb.2]
    simp
end
end Go.Proofs.YtdifpbicdicggaaDoor
namespace Go.Proofs.YtdifpbicdicggaaDoor
open Go.RowKit

section
variable {n a c : Nat} {w0 w : World}
theorem set_lens {L : List (List UInt8)} (h : ∀ s ∈ L, s.length = 512) (i : Nat) (p : List UInt8) (hp : p.length = 512) : ∀ s ∈ L.set i p, s.length = 512 := fun s hs => by
  rcases List.mem_or_eq_of_mem_set hs with h1 | h1
  · exact h s h1
  · rw [h1]; exact hp
theorem zS_lens (n : Nat) : ∀ s ∈ zS n, s.length = 512 := fun s hs => by rw [List.eq_of_mem_replicate hs]; exact List.length_replicate ..
theorem still_bd {dur : List (List UInt8)} {k : Nat} (h1 : 1 ≤ dur.length) (h2 : dur.length ≤ 4096) (h : ∀ s ∈ dur, s.length = 512) (hk : k < 1000000) : Bd ⟨dur, [], k, 0, false⟩ :=
  ⟨⟨h1, h2, h, fun x hx => by cases hx⟩, by show (0 : Nat) < _; decide, hk, by show (0 : Nat) < _; decide⟩
theorem D0_bd (h1 : 1 ≤ n) (h2 : n ≤ 4096) : Bd (D0 n) := still_bd (by show 1 ≤ (zS n).length; rw [zS_len]; exact h1) (by show (zS n).length ≤ _; rw [zS_len]; exact h2) (zS_lens n) (by decide)
theorem dk1_len : (dk1 n a c).dur.length = n := by show ((zS n).set a (b1S c)).length = n; rw [List.length_set, zS_len]
theorem dk2_len : (dk2 n a c).dur.length = n := by show ((((zS n).set a (b1S c)).set a (b2S c)).set (a + 2) bpS).length = n; rw [List.length_set, List.length_set, List.length_set, zS_len]
theorem dk1_bd (h1 : 1 ≤ n) (h2 : n ≤ 4096) : Bd (dk1 n a c) := still_bd (by show 1 ≤ (dk1 n a c).dur.length; rw [dk1_len]; exact h1) (by show (dk1 n a c).dur.length ≤ _; rw [dk1_len]; exact h2) (set_lens (zS_lens n) a _ (b1S_len c)) (by decide)
theorem dk2_bd (h1 : 1 ≤ n) (h2 : n ≤ 4096) : Bd (dk2 n a c) := still_bd (by show 1 ≤ (dk2 n a c).dur.length; rw [dk2_len]; exact h1) (by show (dk2 n a c).dur.length ≤ _; rw [dk2_len]; exact h2) (set_lens (set_lens (set_lens (zS_lens n) a _ (b1S_len c)) a _ (b2S_len c)) (a + 2) _ bpS_len) (by decide)
theorem lgN_ok (h4 : 4 ≤ c) (h5 : c ≤ 4096) (hf : a + 1 + c ≤ n) : (lgN a c).Ok (dk2 n a c) :=
  ⟨⟨by show 1 < _; decide, by show 0 < _; decide, by show 480 < _; decide, by show 480 < _; decide, by show 0 < _; decide, by show c < _; omega⟩, ⟨h4, h5⟩, by rw [dk2_len]; exact hf, by show 480 < _; decide, by show 0 < _; decide, by show 0 < _; decide⟩
/-- What fresh leaves. -/
def FrPost (c : Nat) (w : World) (e : Ending) (w' : World) : Prop := ∃ X', e = .returned (.tuple #[.pointer (some ⟨X'.g, 0, none⟩), .pointer (some ⟨X'.q, 0, none⟩)]) ∧ LgAt w w' X' (dk2 (c + 3) 1 c) (lgN 1 c)
set_option maxHeartbeats 1600000 in
theorem fresh_any (h4 : 4 ≤ c) (h5 : c ≤ 4000) (hT : Tab w) : Calls Tryd.prog 8 #[.int .i64 (c : Int)] w (FrPost c w) := by
  have KN := hide (new_any (c + 3) (by omega) (by omega) w)
  have KF : Hid (∀ w1 g gd gn, Ext w w1 → DiskAt w.heap.size w1 g gd gn none 0 (D0 (c + 3)) → Calls Tryd.prog 20 #[.pointer (some ⟨g, 0, none⟩), .int .i64 1, .int .i64 (c : Int)] w1 (DPost w.heap.size g gd gn w1 none (.int .i64 0) (dk1 (c + 3) 1 c))) := hide (fun w1 g gd gn hx hd => by
    obtain ⟨e1, e2⟩ := format_new (n := c + 3) (a := 1) (c := c) h4 (by omega)
    have k := format_any hx hd (D0_bd (by omega) (by omega)) (by show (0 : Nat) < _; decide) (by show (0 : Nat) < _; decide) hT (1 : Int) (c : Int) (by omega) (by omega)
    rw [show ((1 : Nat) : Int) = 1 from rfl] at e1 e2
    rw [e1, e2] at k
    exact k)
  have KO : Hid (∀ w1 g gd gn A cc, Ext w w1 → DiskAt w.heap.size w1 g gd gn A cc (dk1 (c + 3) 1 c) → Calls Tryd.prog 17 #[.pointer (some ⟨g, 0, none⟩), .int .i64 1, .int .i64 (c : Int)] w1 (OPost w w1 g gd gn A (dk2 (c + 3) 1 c) 0 (lgN 1 c))) := hide (fun w1 g gd gn A cc hx hd => by
    obtain ⟨e1, e2, e3⟩ := open_new (n := c + 3) (a := 1) (c := c) h4 (by omega) (by omega)
    obtain ⟨-, e5⟩ := head_new (n := c + 3) (a := 1) (c := c) (by omega) (by omega)
    rw [show ((1 : Nat) : Int) = 1 from rfl] at e1 e2 e3 e5
    have k := open_any hx hd (dk1_bd (by omega) (by omega)) (by show (0 : Nat) < _; decide) (by show 2 < 800000; decide) hT (1 : Int) (c : Int) (by omega) (by omega) (by rw [e5]; show 480 < 576460752303423488; decide) (by rw [e5]; show 480 < 1152921504606846976; decide)
    rw [e1, e2, e3] at k
    exact k)
  have hcw : IntKind.i64.wrap ((c : Int) + 3) = ((c + 3 : Nat) : Int) := by rw [IntKind.wrap_i64]; omega
  obtain ⟨m, HM⟩ : ∃ m : Int, Hid (((c + 3 : Nat) : Int) = m) := ⟨_, hide rfl⟩
  rw [HM.out] at KN hcw
  clear h4 h5 hT
  go_enter Tryd.func8, Tryd.ntmps8
  go_wp2_with (first
    | (go_at_call 19; (with_reducible refine KN.out.mono ?_); rintro e w1 ⟨g, gd, gn, rfl, hd1, hx1⟩; have HD1 := hide hd1; have HX1 := hide hx1; clear hd1 hx1)
    | (go_at_call 20; (with_reducible refine (KF.out w1 g gd gn HX1.out HD1.out).mono ?_); rintro e w2 ⟨A2, c2, rfl, hd2, hf2, hn2⟩; have HD2 := hide hd2; have HX2 : Hid (Ext w w2) := hide (Dfr.grown HX1.out HD1.out hf2); clear hd2 hf2 hn2)
    | (go_at_call 17; (with_reducible refine (KO.out w2 g gd gn A2 c2 HX2.out HD2.out).mono ?_); rintro e w3 ⟨hp3, -⟩; obtain ⟨X3, rfl, hl3, hg3, -⟩ := hp3 rfl; have HL3 := hide hl3; have HG3 := hide hg3; clear hl3 hg3 hp3))
  go_ret2
  exact ⟨X3, by rw [HG3.out]; rfl, HL3.out⟩
end
end Go.Proofs.YtdifpbicdicggaaDoor
namespace Go.Proofs.YtdifpbicdicggaaDoor
open Go.RowKit

section
variable {w0 w : World} {X : Bk} {D : Dk} {L : Lg}
theorem LgAt.has_lt (h : LgAt w0 w X D L) {k : Nat} (hk : X.has k) : k < w.heap.size := by
  rcases hk with rfl | rfl | rfl | rfl | ⟨a, ha, rfl⟩ | hk
  · exact h.blk.lt
  · exact h.disk.blk.lt
  · exact h.disk.dur.lt
  · exact h.disk.new.lt
  · exact (own_base h.disk.pen a ha).2
  · exact (own_block h.tail k hk).2.1
theorem build_a (W : World) : (Instr.buildSlice 33 1 #[(0, .int .u8 97)]).run Tryd.prog W = .ok (.slice (some ⟨W.heap.size, 0, none⟩) 1 1) (W.alloc (.cells #[.int .u8 97] 5)) := by kernel_rfl
theorem build_bc (W : World) : (Instr.buildSlice 33 2 #[(0, .int .u8 98), (1, .int .u8 99)]).run Tryd.prog W = .ok (.slice (some ⟨W.heap.size, 0, none⟩) 2 2) (W.alloc (.cells #[.int .u8 98, .int .u8 99] 5)) := by kernel_rfl
def aw1 : Lg := addL (heldL (lgN 1 8) 0) [97]
def aw2 : Lg := addL (heldL aw1 0) [98, 99]
theorem aw1_end : endOf (lgN 1 8) = 480 ∧ endOf aw1 = 483 ∧ endOf aw2 = 487 := by decide
theorem aw2_tail : aw2.tail = [0, 1, 97, 0, 2, 98, 99] := by decide
theorem aw_ap1 : apE (lgN 1 8) 1 0 = 0 ∧ apE aw1 2 0 = 0 := by decide
theorem aw_oks {D : Dk} (hl : D.dur.length = 11) : (lgN 1 8).Ok D ∧ aw1.Ok D ∧ aw2.Ok D := by
  refine ⟨⟨⟨by decide, by decide, by decide, by decide, by decide, by decide⟩, by decide, by rw [hl]; decide, by decide, by decide, by decide⟩, ⟨⟨by decide, by decide, by decide, by decide, by decide, by decide⟩, by decide, by rw [hl]; decide, by decide, by decide, by decide⟩, ⟨⟨by decide, by decide, by decide, by decide, by decide, by decide⟩, by decide, by rw [hl]; decide, by decide, by decide, by decide⟩⟩
theorem new_not (h : LgAt w0 w X D L) : ∀ a, some (⟨w.heap.size, 0, none⟩ : Addr) = some a → ¬ X.has a.block ∧ a.block < (w.heap.size + 1) := fun a ha => by
  injection ha with ha
  subst ha
  exact ⟨fun hh => by have := h.has_lt hh; simp only at this; omega, by simp⟩
theorem app_a (h : LgAt w0 w X (dk2 11 1 8) (lgN 1 8)) (fr : Nat × Nat) : Calls Tryd.prog 23 #[.pointer (some ⟨X.q, 0, none⟩), .slice (some ⟨w.heap.size, 0, none⟩) 1 1, .int .i64 0] (w.alloc (.cells #[.int .u8 97] 5 fr)) (LPost w0 (w.alloc (.cells #[.int .u8 97] 5 fr)) X (.tuple #[.int .u64 480, .int .i64 0]) (dk2 11 1 8) aw1) := by
  have k := append_any (h.ext_ (Ext.alloc w (.cells #[.int .u8 97] 5 fr))) (aw_oks dk2_len).1 (by decide) (some ⟨w.heap.size, 0, none⟩) 1 1 [97] 0 (Rd.newf w 5 [97] [] fr) rfl (by decide) (by have := new_not h; simpa using this) (by decide) (by decide)
  have e1 : apR (lgN 1 8) [97] 0 = .tuple #[.int .u64 480, .int .i64 0] := by
    unfold apR
    rw [show apE (lgN 1 8) ([97] : List UInt8).length 0 = 0 from aw_ap1.1, if_pos rfl, aw1_end.1]
    rfl
  have e2 : apL (lgN 1 8) [97] 0 = aw1 := by
    unfold apL
    rw [show apE (lgN 1 8) ([97] : List UInt8).length 0 = 0 from aw_ap1.1, if_pos rfl]
    rfl
  rw [e1, e2] at k
  exact k
theorem app_bc (h : LgAt w0 w X (dk2 11 1 8) aw1) (fr : Nat × Nat) : Calls Tryd.prog 23 #[.pointer (some ⟨X.q, 0, none⟩), .slice (some ⟨w.heap.size, 0, none⟩) 2 2, .int .i64 0] (w.alloc (.cells #[.int .u8 98, .int .u8 99] 5 fr)) (LPost w0 (w.alloc (.cells #[.int .u8 98, .int .u8 99] 5 fr)) X (.tuple #[.int .u64 483, .int .i64 0]) (dk2 11 1 8) aw2) := by
  have k := append_any (h.ext_ (Ext.alloc w (.cells #[.int .u8 98, .int .u8 99] 5 fr))) (aw_oks dk2_len).2.1 (by decide) (some ⟨w.heap.size, 0, none⟩) 2 2 [98, 99] 0 (Rd.newf w 5 [98, 99] [] fr) rfl (by decide) (by have := new_not h; simpa using this) (by decide) (by decide)
  have e1 : apR aw1 [98, 99] 0 = .tuple #[.int .u64 483, .int .i64 0] := by
    unfold apR
    rw [show apE aw1 ([98, 99] : List UInt8).length 0 = 0 from aw_ap1.2, if_pos rfl, aw1_end.2.1]
    rfl
  have e2 : apL aw1 [98, 99] 0 = aw2 := by
    unfold apL
    rw [show apE aw1 ([98, 99] : List UInt8).length 0 = 0 from aw_ap1.2, if_pos rfl]
    rfl
  rw [e1, e2] at k
  exact k
theorem read_a (h : LgAt w0 w X (dk2 11 1 8) aw2) : Calls Tryd.prog 25 #[.pointer (some ⟨X.q, 0, none⟩), .int .u64 480] w (fun e w' => ∃ A c, e = .returned (.tuple #[.slice A 1 c, .int .u64 483, .int .i64 0]) ∧ Rd w' A [97] ∧ Ext w w') := by
  have k := read_tail h (aw_oks dk2_len).2.2 rfl 0 1 7 (by decide) (by decide) (by decide) (by decide) (by decide)
  refine k.mono fun e w' ⟨v, he, ho, hx⟩ => ?_
  have e1 : (aw2.tail.drop (0 + 2)).take 1 = [97] := by decide
  rw [e1] at ho
  obtain ⟨A, c, rfl, -, hr⟩ := ho.bytes
  exact ⟨A, c, he, hr, hx⟩
theorem end_bc (h : LgAt w0 w X (dk2 11 1 8) aw2) : Calls Tryd.prog 15 #[.pointer (some ⟨X.q, 0, none⟩)] w (fun e w' => e = .returned (.int .u64 487) ∧ ∃ m, w' = w.drewN m) := by
  have k := end_any h (aw_oks dk2_len).2.2
  rw [aw1_end.2.2] at k
  exact k
set_option maxRecDepth 20000 in
set_option maxHeartbeats 1600000 in
theorem awake_any (w : World) (hT : Tab w) : Calls Tryd.prog 7 #[] w (Awake w) := by
  have KF : Hid (Calls Tryd.prog 8 #[.int .i64 8] w (FrPost 8 w)) := hide (fresh_any (c := 8) (by decide) (by decide) hT)
  have HBA := hide build_a
  have HBB := hide build_bc
  have hcv := fun (w : World) (C : Array Value) (n c : Nat) => Lib.run_convert_bytes_const (P := Tryd.prog) w 33 5 C n c Tryd.underlying33 Tryd.underlying5
  go_enter Tryd.func7, Tryd.ntmps7
  go_upto_region 7 with (first
    | (go_at_call 8; (with_reducible refine KF.out.mono ?_); rintro e w1 ⟨X1, rfl, hl1⟩; have HL1 := hide hl1; clear hl1)
    | ((with_reducible show wpList _ _ _ (⟨some 22, _, _, _, _, _⟩ :: _) _ _); refine wpList_gives (gives_buildSlice rfl [(0, .int .u8 97)] rfl (HBA.out w1) ⟨rfl, rfl⟩) rfl ?_)
    | (go_at_call 23; (with_reducible refine (app_a HL1.out _).mono ?_); rintro e w2 ⟨X2, rfl, hl2, hf2, hn2⟩; have HL2 := hide hl2; have HQ2 : Hid (X2.q = X1.q) := hide hn2.q; clear hl2 hf2 hn2)
    | ((with_reducible show wpList _ _ _ (⟨some 29, _, _, _, _, _⟩ :: _) _ _); refine wpList_gives (gives_buildSlice rfl [(0, .int .u8 98), (1, .int .u8 99)] rfl (HBB.out w2) ⟨rfl, rfl⟩) rfl ?_)
    | (go_at_call 23; rw [← HQ2.out]; (with_reducible refine (app_bc HL2.out _).mono ?_); rintro e w3 ⟨X3, rfl, hl3, hf3, hn3⟩; have HL3 := hide hl3; have HQ3 : Hid (X3.q = X2.q) := hide hn3.q; clear hl3 hf3 hn3)
    | (go_at_call 25; rw [← HQ3.out]; (with_reducible refine (read_a HL3.out).mono ?_); rintro e w4 ⟨A4, c4, rfl, hr4, hx4⟩; have HR4 := hide hr4; have HL4 := hide (HL3.out.ext_ hx4); clear hr4 hx4))
  clear hcv
  go_wp2_with (go_at_call 15; (with_reducible refine (end_bc HL4.out).mono ?_); rintro e w5 ⟨rfl, m5, rfl⟩; have hs := str_any (HR4.out.ext ((Ext.refl w4).drewN m5)) 1 c4 rfl)
  go_ret
  exact ⟨rfl, HL4.out.ext.trans ((Ext.refl _).drewN _)⟩
end
end Go.Proofs.YtdifpbicdicggaaDoor
namespace Go.Proofs.YtdifpbicdicggaaDoor
open Go.RowKit

def hL (c : Nat) (T : List UInt8) (H : Nat) : Lg := ⟨1, ⟨1, 0, 480, 480, 0, c⟩, 480, T, H⟩
theorem flo480 : flo 480 = 480 := by decide
section
variable {c H n : Nat} {T : List UInt8} {w0 w : World} {X : Bk} {D : Dk} {L : Lg}
theorem hL_new : lgN 1 c = hL c [] 0 := rfl
theorem hL_end : endOf (hL c T H) = 480 + T.length := by show flo 480 + T.length = _; rw [flo480]
theorem hL_room : roomOf (hL c T H) = ((480 * c : Nat) : Int) - (T.length : Int) - (H : Int) := by
  unfold roomOf
  rw [hL_end]
  show (((480 / 480 + c) * 480 : Nat) : Int) - ((480 + T.length : Nat) : Int) - (H : Int) = _
  omega
theorem hL_ok (h4 : 4 ≤ c) (h9 : c ≤ 9) (hs : T.length + H ≤ 480 * c) : (hL c T H).Ok (dk2 (c + 3) 1 c) :=
  ⟨⟨by show 1 < _; decide, by show 0 < _; decide, by show 480 < _; decide, by show 480 < _; decide, by show 0 < _; decide, by show c < _; omega⟩, ⟨h4, by show c ≤ 4096; omega⟩, by rw [dk2_len]; show 1 + 1 + c ≤ c + 3; omega, by show 480 < _; decide, by show T.length < _; omega, by show H < _; omega⟩
/-- The world with n noughts more. -/
def mkW (n : Nat) (W : World) : World := W.alloc (.cells (madeCells #[.int .u8 0] n) 5)
theorem mkW_ext (n : Nat) (W : World) : Ext W (mkW n W) := Ext.alloc W _
theorem mkW_rd (n : Nat) (W : World) : Rd (mkW n W) (some ⟨W.heap.size, 0, none⟩) (List.replicate n 0) := (Blk.made W n).rd
theorem mkW_not (h : LgAt w0 w X D L) (n : Nat) : ∀ a, some (⟨w.heap.size, 0, none⟩ : Addr) = some a → ¬ X.has a.block ∧ a.block < (mkW n w).heap.size := fun a ha => by
  have := new_not h a ha
  exact ⟨this.1, by unfold mkW; simpa using this.2⟩
theorem mkW_run (n : Nat) (hn : n ≤ 1200) (W : World) : (Instr.makeSlice 33 (.int .i64 (n : Int)) (.int .i64 (n : Int))).run Tryd.prog W = .ok (.slice (some ⟨W.heap.size, 0, none⟩) n n) (mkW n W) := run_make_bytes n (by omega) W
/-- So many bytes more, so many more held. -/
def mT (T p : List UInt8) : List UInt8 := (T ++ be2 p.length) ++ p
theorem mT_len (T p : List UInt8) : (mT T p).length = T.length + 2 + p.length := by
  unfold mT
  rw [List.length_append, List.length_append]
  show T.length + (be2 p.length).length + _ = _
  rw [show (be2 p.length).length = 2 from rfl]
theorem held_app (h4 : 4 ≤ c) (h9 : c ≤ 9) (h : LgAt w0 w X (dk2 (c + 3) 1 c) (hL c T H)) (P : Option Addr) (cc : Nat) (p : List UInt8) (hn : p.length = n) (k : Nat) (hr : Rd w P p) (hP : ∀ a, P = some a → ¬ X.has a.block ∧ a.block < w.heap.size) (h1 : 0 < n) (h2 : n ≤ 1200) (hs : T.length + H + 2 + n + k ≤ 480 * c) :
    Calls Tryd.prog 23 #[.pointer (some ⟨X.q, 0, none⟩), .slice P n cc, .int .i64 (k : Int)] w (LPost w0 w X (.tuple #[.int .u64 ((480 + T.length : Nat) : Int), .int .i64 0]) (dk2 (c + 3) 1 c) (hL c (mT T p) (H + k))) := by
  have kk := append_any h (hL_ok h4 h9 (by omega)) (by show 480 < _; decide) P cc n p (k : Int) hr hn (by omega) hP (by show T.length < _; omega) (by omega)
  have e0 : apE (hL c T H) n (k : Int) = 0 := by unfold apE; rw [if_neg (by omega), if_neg (by omega), hL_room, if_neg (by omega)]
  have e1 : apR (hL c T H) p (k : Int) = .tuple #[.int .u64 ((480 + T.length : Nat) : Int), .int .i64 0] := by unfold apR; rw [hn, e0, if_pos rfl, hL_end]
  have e2 : apL (hL c T H) p (k : Int) = hL c (mT T p) (H + k) := by unfold apL; rw [hn, e0, if_pos rfl]; rfl
  rw [e1, e2] at kk
  exact kk
theorem held_full (h4 : 4 ≤ c) (h9 : c ≤ 9) (h : LgAt w0 w X (dk2 (c + 3) 1 c) (hL c T H)) (P : Option Addr) (cc : Nat) (p : List UInt8) (hn : p.length = n) (k : Nat) (hr : Rd w P p) (hP : ∀ a, P = some a → ¬ X.has a.block ∧ a.block < w.heap.size) (h1 : 0 < n) (h2 : n ≤ 1200) (hk : k < 100000) (h0 : T.length + H ≤ 480 * c) (hs : ¬ T.length + H + 2 + n + k ≤ 480 * c) :
    Calls Tryd.prog 23 #[.pointer (some ⟨X.q, 0, none⟩), .slice P n cc, .int .i64 (k : Int)] w (LPost w0 w X (.tuple #[.int .u64 0, .int .i64 9]) (dk2 (c + 3) 1 c) (hL c T H)) := by
  have kk := append_any h (hL_ok h4 h9 h0) (by show 480 < _; decide) P cc n p (k : Int) hr hn (by omega) hP (by show T.length < _; omega) (by omega)
  have e0 : apE (hL c T H) n (k : Int) = 9 := by unfold apE; rw [if_neg (by omega), if_neg (by omega), hL_room, if_pos (by omega)]
  have e1 : apR (hL c T H) p (k : Int) = .tuple #[.int .u64 0, .int .i64 9] := by unfold apR; rw [hn, e0, if_neg (by decide)]
  have e2 : apL (hL c T H) p (k : Int) = hL c T H := by unfold apL; rw [hn, e0, if_neg (by decide)]
  rw [e1, e2] at kk
  exact kk
theorem held_spend (h4 : 4 ≤ c) (h9 : c ≤ 9) (h : LgAt w0 w X (dk2 (c + 3) 1 c) (hL c T H)) (P : Option Addr) (cc : Nat) (p : List UInt8) (hn : p.length = n) (hr : Rd w P p) (hP : ∀ a, P = some a → ¬ X.has a.block ∧ a.block < w.heap.size) (h1 : 0 < n) (h2 : n ≤ 1200) (h0 : T.length + H ≤ 480 * c) (hs : 2 + n ≤ H) :
    Calls Tryd.prog 24 #[.pointer (some ⟨X.q, 0, none⟩), .slice P n cc] w (LPost w0 w X (.tuple #[.int .u64 ((480 + T.length : Nat) : Int), .int .i64 0]) (dk2 (c + 3) 1 c) (hL c (mT T p) (H - (2 + n)))) := by
  have kk := spend_any h (hL_ok h4 h9 h0) P cc n p hr hn (by omega) hP (by show T.length < _; omega)
  have e0 : spE (hL c T H) n = 0 := by unfold spE; rw [if_neg (by omega), if_neg (by omega), if_neg (by show ¬ 2 + n > H; omega)]
  have e1 : spR (hL c T H) p = .tuple #[.int .u64 ((480 + T.length : Nat) : Int), .int .i64 0] := by unfold spR; rw [hn, e0, if_pos rfl, hL_end]
  have e2 : spL (hL c T H) p = hL c (mT T p) (H - (2 + n)) := by unfold spL; rw [hn, e0, if_pos rfl, ← hn]; rfl
  rw [e1, e2] at kk
  exact kk
theorem held_spent (h4 : 4 ≤ c) (h9 : c ≤ 9) (h : LgAt w0 w X (dk2 (c + 3) 1 c) (hL c T H)) (P : Option Addr) (cc : Nat) (p : List UInt8) (hn : p.length = n) (hr : Rd w P p) (hP : ∀ a, P = some a → ¬ X.has a.block ∧ a.block < w.heap.size) (h1 : 0 < n) (h2 : n ≤ 1200) (h0 : T.length + H ≤ 480 * c) (hs : ¬ 2 + n ≤ H) :
    Calls Tryd.prog 24 #[.pointer (some ⟨X.q, 0, none⟩), .slice P n cc] w (LPost w0 w X (.tuple #[.int .u64 0, .int .i64 9]) (dk2 (c + 3) 1 c) (hL c T H)) := by
  have kk := spend_any h (hL_ok h4 h9 h0) P cc n p hr hn (by omega) hP (by show T.length < _; omega)
  have e0 : spE (hL c T H) n = 9 := by unfold spE; rw [if_neg (by omega), if_neg (by omega), if_pos (by show 2 + n > H; omega)]
  have e1 : spR (hL c T H) p = .tuple #[.int .u64 0, .int .i64 9] := by unfold spR; rw [hn, e0, if_neg (by decide)]
  have e2 : spL (hL c T H) p = hL c T H := by unfold spL; rw [hn, e0, if_neg (by decide)]
  rw [e1, e2] at kk
  exact kk
/-- A disk whose power is on, and not to go off. -/
def Awk (D : Dk) : Prop := D.off = false ∧ D.arm = 0
theorem awk_write (h : Awk D) (i : Nat) (p : List UInt8) (hi : i < D.dur.length) (hp : p.length = 512) : wE D (i : Int) p = 0 ∧ Awk (wD D (i : Int) p) ∧ (wD D (i : Int) p).dur.length = D.dur.length := by
  obtain ⟨h1, h2⟩ := h
  unfold wE wD
  have ha : ¬ ((i : Int) < 0 ∨ (D.dur.length : Int) ≤ (i : Int)) := by omega
  have hb : ¬ p.length ≠ 512 := by omega
  have hc : ¬ D.off = true := by rw [h1]; decide
  simp only [if_neg ha, if_neg hb, if_neg hc]
  refine ⟨?_, ⟨?_, ?_⟩, rfl⟩
  · show (if D.arm = 1 then (8 : Int) else 0) = 0
    rw [h2]
    rfl
  · show (D.off || decide (D.arm = 1)) = false
    rw [h1, h2]
    rfl
  · show D.arm - 1 = 0
    rw [h2]
theorem awk_sync (h : Awk D) : sE D = 0 := by
  obtain ⟨h1, h2⟩ := h
  unfold sE
  rw [if_neg (by rw [h1]; decide), if_neg (by omega)]
theorem awk_flW (L : Lg) (hc : L.at_ + 1 + L.hd.cn ≤ n) (h0 : 0 < L.hd.cn) : ∀ (f k : Nat) (D : Dk), Awk D → D.dur.length = n → (flW L f k D).1 = 0 ∧ Awk (flW L f k D).2 ∧ (flW L f k D).2.dur.length = n
  | 0, _, D, h, hd => ⟨rfl, h, hd⟩
  | f + 1, k, D, h, hd => by
    unfold flW
    split
    · exact ⟨rfl, h, hd⟩
    · have hlt : secOf L (flA L k) < D.dur.length := by
        have := Nat.mod_lt (flA L k / 480) h0
        unfold secOf
        omega
      have hw := awk_write h (secOf L (flA L k)) (flP L k) hlt (by
        unfold flP partB
        exact sealB_length (by simp [ptNs]) (by rw [List.length_take]; omega))
      have e1 : wE D (flS L k) (flP L k) = 0 := hw.1
      rw [e1, if_neg (by decide)]
      exact awk_flW L hc h0 f (k + 1) _ hw.2.1 (by rw [← hd]; exact hw.2.2)
theorem awk_dk2 {a : Nat} : Awk (dk2 n a c) := ⟨rfl, rfl⟩
/-- A Flush of it is well, and leaves as much room and held. -/
theorem held_flE (h4 : 4 ≤ c) : flE (dk2 (c + 3) 1 c) (hL c T H) = 0 := by
  unfold flE
  split
  · rename_i h
    cases h
  · split
    · rfl
    · have h := awk_flW (n := c + 3) (hL c T H) (by show 1 + 1 + c ≤ _; omega) (by show 0 < c; omega) (hL c T H).tail.length 0 (dk2 (c + 3) 1 c) awk_dk2 dk2_len
      have h1 : (flZ (dk2 (c + 3) 1 c) (hL c T H)).1 = 0 := h.1
      rw [h1, if_neg (by decide)]
      exact awk_sync h.2.1
theorem sD_len (D : Dk) : (sD D).dur.length = D.dur.length := by
  unfold sD
  split
  · rfl
  · split
    · rfl
    · exact durK_len (fun _ => true) D.dur D.pen D.pen.length
theorem held_flD (h4 : 4 ≤ c) : (flD (dk2 (c + 3) 1 c) (hL c T H)).dur.length = c + 3 := by
  have h := awk_flW (n := c + 3) (hL c T H) (by show 1 + 1 + c ≤ _; omega) (by show 0 < c; omega) (hL c T H).tail.length 0 (dk2 (c + 3) 1 c) awk_dk2 dk2_len
  unfold flD
  split
  · exact dk2_len
  · split
    · exact dk2_len
    · split
      · exact h.2.2
      · rw [sD_len]
        exact h.2.2
theorem held_flL (h4 : 4 ≤ c) (hs : T.length + H ≤ 480 * c) : roomOf (flL (dk2 (c + 3) 1 c) (hL c T H)) = roomOf (hL c T H) ∧ (flL (dk2 (c + 3) 1 c) (hL c T H)).held = H ∧ (flL (dk2 (c + 3) 1 c) (hL c T H)).hd = (hL c T H).hd ∧ (flL (dk2 (c + 3) 1 c) (hL c T H)).at_ = 1 ∧ (flL (dk2 (c + 3) 1 c) (hL c T H)).sure ≤ 480 + 480 * c ∧ (flL (dk2 (c + 3) 1 c) (hL c T H)).tail.length ≤ 480 * c := by
  unfold flL
  split
  · refine ⟨?_, rfl, rfl, rfl, ?_, ?_⟩
    · have e : endOf (sureL (hL c T H)) = endOf (hL c T H) := by
        unfold endOf sureL
        simp only [List.length_drop]
        show flo (endOf (hL c T H)) + (T.length - flo T.length) = endOf (hL c T H)
        rw [hL_end]
        unfold flo
        omega
      unfold roomOf
      rw [e]
      rfl
    · show endOf (hL c T H) ≤ _
      rw [hL_end]
      omega
    · show (T.drop (flo T.length)).length ≤ _
      rw [List.length_drop]
      omega
  · exact ⟨rfl, rfl, rfl, rfl, by show 480 ≤ _; omega, by show T.length ≤ _; omega⟩
/-- Flush and what comes behind it. -/
theorem held_flush (h4 : 4 ≤ c) (h9 : c ≤ 9) (h : LgAt w0 w X (dk2 (c + 3) 1 c) (hL c T H)) (hs : T.length + H ≤ 480 * c) (hT : Tab w0) :
    Calls Tryd.prog 12 #[.pointer (some ⟨X.q, 0, none⟩)] w (LPost w0 w X (.int .i64 0) (flD (dk2 (c + 3) 1 c) (hL c T H)) (flL (dk2 (c + 3) 1 c) (hL c T H))) := by
  have k := flush_any h (hL_ok h4 h9 hs) (dk2_bd (by omega) (by omega)) (by show 0 < _; decide) (by show 5 < _; decide) (by show T.length < _; omega) hT
  rw [held_flE h4] at k
  exact k
theorem held_flok (h4 : 4 ≤ c) (h9 : c ≤ 9) (hs : T.length + H ≤ 480 * c) : (flL (dk2 (c + 3) 1 c) (hL c T H)).Ok (flD (dk2 (c + 3) 1 c) (hL c T H)) := by
  obtain ⟨e1, e2, e3, e4, e5, e6⟩ := held_flL (c := c) (T := T) (H := H) h4 hs
  have ok := hL_ok h4 h9 hs
  exact ⟨by rw [e3]; exact ok.hd, by rw [e3]; exact ok.cn, by rw [e3, e4, held_flD h4]; show 1 + 1 + c ≤ _; omega, by omega, by omega, by rw [e2]; omega⟩
theorem held_flroom (h4 : 4 ≤ c) (h9 : c ≤ 9) (hs : T.length + H ≤ 480 * c) (h : LgAt w0 w X (flD (dk2 (c + 3) 1 c) (hL c T H)) (flL (dk2 (c + 3) 1 c) (hL c T H))) :
    Calls Tryd.prog 29 #[.pointer (some ⟨X.q, 0, none⟩)] w (fun e w' => e = .returned (.int .i64 ((480 * c - T.length - H : Nat) : Int)) ∧ ∃ m, w' = w.drewN m) := by
  obtain ⟨e1, e2, e3, e4, e5, e6⟩ := held_flL (c := c) (T := T) (H := H) h4 hs
  have k := room_any h (held_flok h4 h9 hs) (by rw [e3]; show 480 < _; decide)
  rw [e1, hL_room, show ((480 * c : Nat) : Int) - (T.length : Int) - (H : Int) = ((480 * c - T.length - H : Nat) : Int) by omega] at k
  exact k
theorem held_room (h4 : 4 ≤ c) (h9 : c ≤ 9) (hs : T.length + H ≤ 480 * c) (h : LgAt w0 w X (dk2 (c + 3) 1 c) (hL c T H)) :
    Calls Tryd.prog 29 #[.pointer (some ⟨X.q, 0, none⟩)] w (fun e w' => e = .returned (.int .i64 ((480 * c - T.length - H : Nat) : Int)) ∧ ∃ m, w' = w.drewN m) := by
  have k := room_any h (hL_ok h4 h9 hs) (by show 480 < _; decide)
  rw [hL_room, show ((480 * c : Nat) : Int) - (T.length : Int) - (H : Int) = ((480 * c - T.length - H : Nat) : Int) by omega] at k
  exact k
/-- One byte. -/
def mk1 (W : World) : World := W.alloc (.cells #[.int .u8 1] 5)
theorem mk1_run (W : World) : (Instr.buildSlice 33 1 #[(0, .int .u8 1)]).run Tryd.prog W = .ok (.slice (some ⟨W.heap.size, 0, none⟩) 1 1) (mk1 W) := by kernel_rfl
theorem mk1_ext (W : World) : Ext W (mk1 W) := Ext.alloc W _
theorem mk1_rd (W : World) : Rd (mk1 W) (some ⟨W.heap.size, 0, none⟩) [1] := Rd.of_rw (Rw.new W 5 (bs [1]))
theorem mk1_not (h : LgAt w0 w X D L) : ∀ a, some (⟨w.heap.size, 0, none⟩ : Addr) = some a → ¬ X.has a.block ∧ a.block < (mk1 w).heap.size := fun a ha => by
  have := new_not h a ha
  exact ⟨this.1, by unfold mk1; simpa using this.2⟩
end
end Go.Proofs.YtdifpbicdicggaaDoor
