/-
  The walk of LogCrashes, for every input.
  Arguments that are slices of calls of a log.
  LogCrashes: for every number and every script of calls, of any size that the form reaches, the law answers true and leaves what it was handed as it was; octet.halfBytes holds what the program's text lays.
  A nil log does nothing; what is held no more.
  The walk of LogErrs.
-/
import Derived.Deep.Slices
import Derived.Deep.Grids
import Derived.OpenShut
import Derived.Test.YtdifpbicdicggaaDoorPkLgAl0
import Derived.Test.YtdifpbicdicggaaDoorPkLgAl6
import Derived.Test.YtdifpbicdicggaaDoorPkLgAl9
set_option linter.unusedVariables false
set_option linter.unusedSimpArgs false

namespace Go.Proofs.YtdifpbicdicggaaDoor
open Go.RowKit

/-- A call of the script. -/
structure Al where
  k : Nat
  P : Option Addr
  cp : Nat
  p : List UInt8
  n : Int
  h : Int
  Q : Option Addr
  cq : Nat
  q : List Bool
def alCells (y : Al) : List Value := [.int .u8 (y.k : Int), .slice y.P y.p.length y.cp, .int .i64 y.n, .int .i64 y.h, .slice y.Q y.q.length y.cq]
structure AlOk (W : World) (y : Al) : Prop where
  k : y.k < 256
  n : -9223372036854775808 ≤ y.n ∧ y.n < 9223372036854775808
  h : -9223372036854775808 ≤ y.h ∧ y.h < 9223372036854775808
  p : Rd W y.P y.p
  pl : y.p.length ≤ 140737488351232
  q : RdB W y.Q y.q
def RdAl (W : World) (A : Option Addr) (l : List Al) : Prop := l ≠ [] → ∃ b off, A = some ⟨b, off, none⟩ ∧ ∀ (j : Nat) (x : Al), l[j]? = some x → ∀ (q : Nat) (v : Value), (alCells x)[q]? = some v → W.cell? ⟨b, off + j * 5 + q, none⟩ = some v
theorem RdB.ext {w w' : World} {P : Option Addr} {l : List Bool} (h : RdB w P l) (hx : Ext w w') : RdB w' P l := fun hn => by
  obtain ⟨b, off, e, hc⟩ := h hn
  exact ⟨b, off, e, fun j v hj => (World.cell?_of_block (Below.block hx b (World.block_lt_of_cell? w _ (hc j v hj)))).trans (hc j v hj)⟩
theorem and7 (x : Int) : ∃ a : Nat, a < 8 ∧ bits .and .i64 x 7 = (a : Int) := by
  refine ⟨(BitVec.ofInt 64 x &&& BitVec.ofInt 64 7).toNat, ?_, ?_⟩
  · rw [BitVec.toNat_and]
    exact Nat.lt_of_le_of_lt Nat.and_le_right (by decide)
  · show IntKind.i64.wrap ((BitVec.ofInt 64 x &&& BitVec.ofInt 64 7).toNat : Int) = _
    have h1 : (BitVec.ofInt 64 x &&& BitVec.ofInt 64 7).toNat < 8 := by
      rw [BitVec.toNat_and]
      exact Nat.lt_of_le_of_lt Nat.and_le_right (by decide)
    rw [IntKind.wrap_i64]
    omega
theorem Cb.mono {D : Dk} {L : Lg} {H : List UInt8} {M : Md} {lo : List (Nat × List UInt8)} {rsS rsM : List (List UInt8)} {c n o b n' o' b' : Nat} (h : Cb D L H M lo rsS rsM c n o b) (h1 : n ≤ n' ∧ n' ≤ 1000) (h2 : o ≤ o' ∧ o' ≤ 100000) (h3 : b ≤ b' ∧ b' ≤ 100000) : Cb D L H M lo rsS rsM c n' o' b' :=
  ⟨h.en, h.su, h.st, h.hl, h.cn, h.l, h.old, h.recs, h.ok, h.sr, h.fs, h.lt, h.ring, h.at1, h.lcn, h.ck, h.c4, h.dur, h.bd, h.pen, h.arm, ⟨Nat.le_trans h.num.1 h1.1, by have := h.num; omega, h1.2⟩, ⟨Nat.le_trans h.ops.1 h2.1, h2.2⟩, ⟨Nat.le_trans h.ep.1 h3.1, h3.2⟩, h.lok, h.on, fun keep => by
    obtain ⟨pre, post, L2, e1, e2, e3, e4, e5, e6, e7⟩ := h.fall keep
    exact ⟨pre, post, L2, e1, e2, e3, e4, e5, Nat.le_trans e6 h3.1, e7⟩⟩
structure Rc (w1 wr : World) (gm dg c i o b : Nat) (X : Bk) (D : Dk) (L : Lg) (H : List UInt8) (M : Md) (vl : Value) (lo : List (Nat × List UInt8)) (rsS rsM : List (List UInt8)) : Prop where
  log : LgAt w1 wr X D L
  mod : MdAt wr w1.heap.size gm vl M
  cb : Cb D L H M lo rsS rsM c i o b
  g : X.g = dg
section
variable {w0 w : World} {X : Bk} {D : Dk} {L : Lg}
set_option maxRecDepth 20000 in
set_option maxHeartbeats 6400000 in
theorem logCrashes_walk (cn : Nat) (A : Option Addr) (l : List Al) (n cc : Nat) (h1 : cn < 256) (hr : RdAl w A l) (hn : l.length = n) (hl : n ≤ 140737488355328) (hu : ∀ y ∈ l, AlOk w y) (hT : Tab w) :
    Calls Tryd.prog 3 #[.int .u8 (cn : Int), .slice A n cc] w (Ret w (Is (.bool true))) := by
  have KA := hide (fun (W : World) (hW : Ext w W) => awake_any W (hT.ext hW))
  obtain ⟨c, HC⟩ : ∃ c, Hid (4 + cn % 12 = c) := ⟨_, hide rfl⟩
  have HCB : Hid (4 ≤ c ∧ c ≤ 15) := hide (by have := HC.out; omega)
  have KF : Hid (∀ W, Ext w W → Calls Tryd.prog 8 #[.int .i64 (c : Int)] W (FrPost c W)) := hide (fun W hW => fresh_any HCB.out.1 (by have := HCB.out.2; omega) (hT.ext hW))
  have hc1 : (4 : Int) + (cn : Int) % 12 = (c : Int) := by have := HC.out; omega
  have hcw : IntKind.i64.wrap (c : Int) = (c : Int) := by rw [IntKind.wrap_i64]; have := HCB.out; omega
  have hn1 : IntKind.i64.wrap (cn : Int) = (cn : Int) := by rw [IntKind.wrap_i64]; omega
  have HT := hide hT
  have HR := hide hr
  have HN := hide hn
  have HLB := hide hl
  have HU := hide hu
  clear hT h1 hr hn hl hu
  go_enter Tryd.func3, Tryd.ntmps3
  go_upto_region 9 with (first
    | (go_at_call 7; (with_reducible refine (KA.out w (Ext.refl w)).mono ?_); rintro e w1 ⟨rfl, hx1⟩; have HX1 := hide hx1; clear hx1)
    | (go_at_call 8; (with_reducible refine (KF.out w1 HX1.out).mono ?_); rintro e w2 ⟨X1, rfl, hl1⟩; have HL1 := hide hl1; clear hl1))
  clear hc1 hcw hn1 KA KF
  obtain ⟨gm, hgm⟩ : ∃ gm, w2.heap.size = gm := ⟨_, rfl⟩
  have HR0 : Hid (Rc w1 (w2.alloc (.cells #[.slice none 0 0, .int .u64 480, .int .u64 480, .int .u64 480, .int .u64 0, .int .i64 0, .int .i64 (c : Int)] 32)) gm X1.g c 0 (10 + 60 * 0) (1 + 3 * 0) X1 (dk2 (c + 3) 1 c) (lgN 1 c) (List.replicate 480 0) ⟨[], 480, 480, 480, 0, 0, c⟩ (.slice none 0 0) [] [] []) := hide (by
    have hx := Ext.alloc w2 (.cells #[.slice none 0 0, .int .u64 480, .int .u64 480, .int .u64 480, .int .u64 0, .int .i64 0, .int .i64 (c : Int)] 32)
    have hb := Rw.new w2 32 [.slice none 0 0, .int .u64 480, .int .u64 480, .int .u64 480, .int .u64 0, .int .i64 0, .int .i64 (c : Int)]
    rw [hgm] at hb
    have hl : (List.replicate 480 (0 : UInt8)).length = 480 := List.length_replicate ..
    refine ⟨HL1.out.ext_ hx, ⟨hb, .inl ⟨rfl, rfl⟩, by rw [← hgm]; exact HL1.out.ext.size⟩, Cb.mk_on (rg_new HCB.out.1 (by have := HCB.out.2; omega)) hl.symm rfl rfl rfl rfl rfl (fun r hr => by cases hr) ?_ (fun p hp => by cases hp) rfl rfl rfl rfl HCB.out dk2_len ⟨Nat.le_refl _, by rw [hl]; exact Nat.le_refl _, by decide⟩ ⟨?_, by decide⟩ ⟨Nat.le_refl _, by decide⟩, rfl⟩
    · show (List.replicate 480 (0 : UInt8)).drop 480 = []
      rfl
    · show 5 ≤ _
      omega)
  obtain ⟨dg, HDG⟩ : ∃ dg, Hid (X1.g = dg) := ⟨_, hide rfl⟩
  rw [HDG.out] at HR0 ⊢
  rw [hgm]
  go_loopw [7, 9] (fun gv iv wr => ∃ (i : Nat) (X : Bk) (D : Dk) (L : Lg) (H : List UInt8) (M : Md) (vl : Value) (lo : List (Nat × List UInt8)) (rsS rsM : List (List UInt8)), gv = .pointer (some ⟨X.q, 0, none⟩) ∧ iv = .int .i64 (i : Int) ∧ Hid (i ≤ 60) ∧ Hid (Rc w1 wr gm dg c i (10 + 60 * i) (1 + 3 * i) X D L H M vl lo rsS rsM)) (fun _ iv _ => 60 - (intOf iv).toNat)
  case atStart => exact ⟨0, X1, _, _, _, _, _, [], [], [], rfl, rfl, hide (by decide), HR0⟩
  case round =>
    obtain ⟨i, X, D, L, H, M, vl, lo, rsS, rsM, rfl, rfl, HI, HRR⟩ := hrel
    clear HR0 HL1 HDG hgm
    have HXR : Hid (Ext w wr) := hide (HX1.out.trans HRR.out.log.ext)
    by_cases hgo : i < n ∧ i < 60
    · obtain ⟨hin, hi6⟩ := hgo
      have hini : (i : Int) < (n : Int) := by omega
      have hi6i : (i : Int) < 60 := by omega
      obtain ⟨y, hy⟩ : ∃ y, l[i]? = some y := ⟨_, List.getElem?_eq_getElem (by rw [HN.out]; exact hin)⟩
      obtain ⟨ab, ao, hA, hcA⟩ := HR.out (by intro e; rw [e] at hy; cases hy)
      subst hA
      have hcell : ∀ (q : Nat) (v : Value), (alCells y)[q]? = some v → wr.cell? ⟨ab, ao + i * 5 + q, none⟩ = some v := fun q v hq => (World.cell?_of_block (Below.block HXR.out ab (World.block_lt_of_cell? w _ (hcA i y hy q v hq)))).trans (hcA i y hy q v hq)
      have HY := hide (HU.out y (List.mem_of_getElem? hy))
      obtain ⟨k, P, cp, p, yn, yh, Q, cq, q⟩ := y
      have a0 := hcell 0 _ rfl
      rw [Nat.add_zero] at a0
      have a1 := hcell 1 _ rfl
      have a2 := hcell 2 _ rfl
      have a3 := hcell 3 _ rfl
      have a4 := hcell 4 _ rfl
      simp only at a0 a1 a2 a3 a4
      clear hcell hcA hy
      have HKB : Hid (k < 256) := hide HY.out.k
      obtain ⟨pl, HPL⟩ : ∃ pl, Hid (p.length = pl) := ⟨_, hide rfl⟩
      obtain ⟨ql, HQL⟩ : ∃ ql, Hid (q.length = ql) := ⟨_, hide rfl⟩
      rw [HPL.out] at a1
      rw [HQL.out] at a4
      have hi1 : IntKind.i64.wrap ((i : Int) + 1) = ((i + 1 : Nat) : Int) := by rw [IntKind.wrap_i64]; omega
      obtain ⟨i1, HI1⟩ : ∃ i1, Hid (i + 1 = i1) := ⟨_, hide rfl⟩
      rw [HI1.out] at hi1
      have HIN := hide hin
      have HI6 := hide hi6
      clear hin hi6
      have HPO : Hid (Rd w P p) := hide HY.out.p
      have HPB : Hid (pl ≤ 140737488351232) := hide (by rw [← HPL.out]; exact HY.out.pl)
      have HQO : Hid (RdB w Q q) := hide HY.out.q
      obtain ⟨kk, HKK⟩ : ∃ kk, Hid (k % 7 = kk) := ⟨_, hide rfl⟩
      have HK7 : Hid (kk < 7) := hide (by have := HKK.out; omega)
      have hkk : (k : Int) % 7 = (kk : Int) := by have := HKK.out; omega
      have hkw : IntKind.u8.wrap (kk : Int) = (kk : Int) := by rw [IntKind.wrap_u8]; have := HK7.out; omega
      have HXB : Hid (Ext wr (wr.alloc (.cells #[.int .u8 (k : Int), .slice P pl cp, .int .i64 yn, .int .i64 yh, .slice Q ql cq] 36))) := hide (Ext.alloc _ _)
      have KON : Hid (∀ W X' D' L', LgAt w1 W X' D' L' → X'.g = dg → Calls Tryd.prog 9 #[.pointer (some ⟨dg, 0, none⟩)] W (Same W (.bool (!D'.off)))) := hide (fun W X' D' L' h1 h2 => by have k := on_any h1.disk; rw [h2] at k; exact k)
      have KARM : Hid (∀ W X' D' L', LgAt w1 W X' D' L' → X'.g = dg → ∀ a : Nat, Calls Tryd.prog 11 #[.pointer (some ⟨dg, 0, none⟩), .int .i64 (a : Int)] W (LPost w1 W X' (.int .i64 0) (D'.armed a) L')) := hide (fun W X' D' L' h1 h2 a => by
        have k := arm_any h1.disk a
        rw [h2] at k
        exact k.mono fun e w' hh => by rw [← h2] at hh; exact LPost.of_disk h1 hh)
      have KARM0 : Hid (∀ W X' D' L', LgAt w1 W X' D' L' → X'.g = dg → Calls Tryd.prog 11 #[.pointer (some ⟨dg, 0, none⟩), .int .i64 0] W (LPost w1 W X' (.int .i64 0) (D'.armed 0) L')) := hide (fun W X' D' L' h1 h2 => KARM.out W X' D' L' h1 h2 0)
      have HLB := hide (HRR.out.log.ext_ HXB.out)
      have HMB := hide (HRR.out.mod.ext HXB.out)
      have HBB : Hid (Rw (wr.alloc (.cells #[.int .u8 (k : Int), .slice P pl cp, .int .i64 yn, .int .i64 yh, .slice Q ql cq] 36)) wr.heap.size 36 [.int .u8 (k : Int), .slice P pl cp, .int .i64 yn, .int .i64 yh, .slice Q ql cq]) := hide (Rw.new wr 36 [.int .u8 (k : Int), .slice P pl cp, .int .i64 yn, .int .i64 yh, .slice Q ql cq])
      have HIB : Hid (i < 1000 ∧ i1 ≤ 1000 ∧ 10 + 60 * i1 ≤ 100000 ∧ 1 + 3 * i1 ≤ 100000 ∧ i1 = i + 1) := hide (by have := HI1.out; have := HI6.out; omega)
      go_upto_region 12 with fail
      clear a0 a1 a2 a3 a4
      by_cases hA : kk < 2
      · have hAi : (kk : Int) < 2 := by omega
        cases hoff : D.off with
        | false =>
          have KON1 := hide (KON.out _ X D L HLB.out HRR.out.g)
          rw [hoff] at KON1
          have HON := hide hoff
          have HXC : Hid (Ext wr (wr.alloc (.cells #[.int .u8 0, .slice P pl cp, .int .i64 yn, .int .i64 0, .slice Q ql cq] 36))) := hide (Ext.alloc _ _)
          have HBC : Hid (Rw (wr.alloc (.cells #[.int .u8 0, .slice P pl cp, .int .i64 yn, .int .i64 0, .slice Q ql cq] 36)) wr.heap.size 36 [.int .u8 0, .slice P pl cp, .int .i64 yn, .int .i64 0, .slice Q ql cq]) := hide (Rw.new wr 36 [.int .u8 0, .slice P pl cp, .int .i64 yn, .int .i64 0, .slice Q ql cq])
          have HLC := hide (HRR.out.log.ext_ HXC.out)
          have HMC := hide (HRR.out.mod.ext HXC.out)
          have KAD := hide (madd_any HLC.out HMC.out HRR.out.cb hoff (by have := HIB.out; omega) P cp pl p (HPO.out.ext HX1.out) HPL.out HPB.out yn (.slice Q ql cq))
          obtain ⟨a1, a2⟩ := HRR.out.cb.app hoff (by have := HIB.out; omega) p
          have HA2 := hide a2
          clear hoff a1 a2 hA
          go_upto_region 17 with (first
            | (go_at_call 9; (with_reducible refine KON1.out.mono ?_); rintro e w5 ⟨rfl, rfl⟩)
            | (go_at_call 10; (with_reducible refine KAD.out.mono ?_); rintro e w5 ⟨X5, vl5, rfl, hq5, hg5, hk5, hr5⟩; have HQ9 := hide hq5; have HG5 := hide hg5; have HK5 := hide hk5; have HR5 := hide hr5; clear hq5 hg5 hk5 hr5))
          have HB5 : Hid (Rw w5 wr.heap.size 36 [.int .u8 0, .slice P pl cp, .int .i64 yn, .int .i64 0, .slice Q ql cq]) := hide (HK5.out _ _ _ HBC.out (by decide) (by decide) (by decide) (by decide) (by decide) (by decide) (by decide) (by decide))
          have e0 := HB5.out.cell (i := 0) rfl
          rcases HR5.out with ⟨hw5, hl5, hm5⟩ | ⟨hw5, hl5, hm5⟩
          · have HRC : Hid (Rc w1 w5 gm dg c i1 (10 + 60 * i1) (1 + 3 * i1) X5 D (apL L p 0) (H ++ frm p) (appM M p) vl5 lo rsS (rsM ++ [p])) := hide ⟨hl5, hm5, (HA2.out hw5).mono (by have := HIB.out; omega) (by have := HIB.out; omega) (by have := HIB.out; omega), HG5.out.trans HRR.out.g⟩
            clear hw5 hl5 hm5
            go_wp2
            refine ⟨⟨i1, X5, D, _, _, _, vl5, lo, rsS, _, by first | rfl | rw [HQ9.out], rfl, hide (by have := HI1.out; have := HI6.out; omega), HRC⟩, ?_⟩
            show 60 - ((i1 : Nat) : Int).toNat < 60 - ((i : Nat) : Int).toNat
            have := HI1.out
            have := HI6.out
            omega
          · have HRC : Hid (Rc w1 w5 gm dg c i1 (10 + 60 * i1) (1 + 3 * i1) X5 D L H M vl5 lo rsS rsM) := hide ⟨hl5, hm5, HRR.out.cb.mono (by have := HIB.out; omega) (by have := HIB.out; omega) (by have := HIB.out; omega), HG5.out.trans HRR.out.g⟩
            clear hw5 hl5 hm5
            go_wp2
            refine ⟨⟨i1, X5, D, _, _, _, vl5, lo, rsS, _, by first | rfl | rw [HQ9.out], rfl, hide (by have := HI1.out; have := HI6.out; omega), HRC⟩, ?_⟩
            show 60 - ((i1 : Nat) : Int).toNat < 60 - ((i : Nat) : Int).toNat
            have := HI1.out
            have := HI6.out
            omega
        | true =>
          have KON1 := hide (KON.out _ X D L HLB.out HRR.out.g)
          rw [hoff] at KON1
          have HRC : Hid (Rc w1 (wr.alloc (.cells #[.int .u8 (k : Int), .slice P pl cp, .int .i64 yn, .int .i64 yh, .slice Q ql cq] 36)) gm dg c i1 (10 + 60 * i1) (1 + 3 * i1) X D L H M vl lo rsS rsM) := hide ⟨HLB.out, HMB.out, HRR.out.cb.mono (by have := HIB.out; omega) (by have := HIB.out; omega) (by have := HIB.out; omega), HRR.out.g⟩
          clear hoff
          have h34 : kk = 0 ∨ kk = 1 := by omega
          clear hA hAi
          rcases h34 with h | h
          all_goals
           subst h
           have HQ9 : Hid (X.q = X.q) := hide rfl
           go_wp2_with (go_at_call 9; (with_reducible refine KON1.out.mono ?_); rintro e w5 ⟨rfl, rfl⟩)
           refine ⟨⟨i1, X, D, L, H, M, vl, lo, rsS, rsM, by first | rfl | rw [HQ9.out], rfl, hide (by have := HI1.out; have := HI6.out; omega), HRC⟩, ?_⟩
           show 60 - ((i1 : Nat) : Int).toNat < 60 - ((i : Nat) : Int).toNat
           have := HI1.out
           have := HI6.out
           omega
      · have hAi : ¬ (kk : Int) < 2 := by omega
        by_cases hR : 5 ≤ kk
        · obtain ⟨pre, post, L2, hpp, l1, l2, l3, l4, l5, hfal⟩ := HRR.out.cb.fall q
          have HPP := hide hpp
          have HL2 : Hid (L2.at_ = 1 ∧ L2.hd.st = L.hd.st ∧ L2.hd.cn = c ∧ L2.hd.ck = 0) := hide ⟨l1, l2, l3, l4⟩
          have HE2 := hide l5
          have HFAL := hide hfal
          clear hpp l1 l2 l3 l4 l5 hfal
          have KRS : Hid (∀ W X' D', LgAt w1 W X' D' L → X'.g = dg → Bd D' → D'.pen.length < 1000000 → Calls Tryd.prog 16 #[.pointer (some ⟨dg, 0, none⟩), .slice Q ql cq] W (LPost w1 W X' (.int .i64 0) (D'.fallen q) L)) := hide (fun W X' D' h1 h2 h3 h4 => by
            have k := restart_any (ck := cq) (P := Q) h1.disk h3.ok h4 h1.ext.size q (fun W' hf => HQO.out.extW (HX1.out.trans (Dfr.grown h1.ext h1.disk hf)))
            rw [h2, HQL.out] at k
            exact k.mono fun e w' hh => by rw [← h2] at hh; exact LPost.of_disk h1 hh)
          have hc2 : ((kk : Int) == 3) = false := by simp; omega
          have hc3 : ((kk : Int) == 4) = false := by simp; omega
          have hc4 : ¬ (kk : Int) < 5 := by omega
          have e0b := HBB.out.cell (i := 0) rfl
          have e4b := HBB.out.cell (i := 4) rfl
          clear hR hA
          go_upto_region 30 with (go_at_call 16; (with_reducible refine (KRS.out _ X D HLB.out HRR.out.g HRR.out.cb.bd (by have := HRR.out.cb.pen; omega)).mono ?_); rintro e w3 ⟨X3, rfl, hl3, hf3, hn3⟩; have HL3 := hide hl3; have HM3 : Hid (MdAt w3 w1.heap.size gm vl M) := hide (HMB.out.lfr HLB.out hf3); have HB3 : Hid (Rw w3 wr.heap.size 36 [.int .u8 (k : Int), .slice P pl cp, .int .i64 yn, .int .i64 yh, .slice Q ql cq]) := hide (Kept.lfr HLB.out hf3 _ _ _ HBB.out (by decide) (by decide) (by decide) (by decide) (by decide) (by decide) (by decide) (by decide)); have HN3 : Hid (X3.q = X.q ∧ X3.g = dg) := hide ⟨hn3.q, hn3.g.trans HRR.out.g⟩; clear hl3 hf3 hn3)
          have HD3 : Hid ((D.fallen q).ops ≤ 10 + 60 * i ∧ (D.fallen q).dur.length = c + 3) := hide ⟨by show D.ops ≤ _; exact HRR.out.cb.ops.1, by rw [(fallen_bd HRR.out.cb.bd q).2.2.2]; exact HRR.out.cb.dur⟩
          clear e0b e4b
          obtain ⟨bx, hbx⟩ : ∃ bx, wr.heap.size = bx := ⟨_, rfl⟩
          rw [hbx] at HB3 ⊢
          clear hbx
          have HXR3 : Hid (Ext w w3) := hide (HX1.out.trans HL3.out.ext)
          go_loopw [7, 11] (fun gv kv wk => ∃ (j : Nat) (X2 : Bk) (D2 : Dk) (e2 : Nat), gv = .pointer (some ⟨X.q, 0, none⟩) ∧ kv = .int .i64 (j : Int) ∧ Hid (j ≤ 2) ∧ Hid (X2.q = X.q ∧ X2.g = dg) ∧ Hid (LgAt w1 wk X2 D2 L) ∧ Hid (MdAt wk w1.heap.size gm vl M) ∧ Hid (Rw wk bx 36 [.int .u8 (k : Int), .slice P pl cp, .int .i64 yn, .int .i64 yh, .slice Q ql cq]) ∧ Hid (Fal D2 (epL L2 e2) (H.take (L.sure + (recsB pre).length))) ∧ Hid (e2 ≤ 1 + 3 * i + j) ∧ Hid (D2.ops ≤ 10 + 60 * i + 4 * j) ∧ Hid (D2.dur.length = c + 3)) (fun _ kv _ => 3 - (intOf kv).toNat)
          case atStart => exact ⟨0, X3, D.fallen q, L2.hd.ep, rfl, rfl, hide (by decide), HN3, HL3, HM3, HB3, HFAL, hide (by have := HE2.out; omega), hide (by have := HD3.out.1; omega), hide HD3.out.2⟩
          case round =>
            obtain ⟨j, X2, D2, e2, rfl, rfl, HJ, HN2, HL2W, HM2, HB2, HF2, HEB, HOB, HDL⟩ := hrel
            have hj3 : (j : Int) < 3 := by have := HJ.out; omega
            obtain ⟨a, ha, hbit⟩ := and7 yn
            have HA8 := hide ha
            clear ha
            obtain ⟨z, hz⟩ : ∃ z, bits .and .i64 yn 8 = z := ⟨_, rfl⟩
            have b2 := HB2.out.cell (i := 2) rfl
            by_cases hzj : z = 0 ∨ j = 2
            · have hcond : (z == 0) = true ∨ ((z == 0) = false ∧ ((j : Int) == 2) = true) := by
                by_cases h : z = 0
                · exact .inl (by simp [h])
                · rcases hzj with h2 | h2
                  · exact absurd h2 h
                  · exact .inr ⟨by simpa using h, by simp [h2]⟩
              obtain ⟨a5, ha5⟩ : ∃ a5, a5 = 0 := ⟨0, rfl⟩
              have HA5 : Hid (a5 < 8 ∧ (j = 2 → a5 = 0)) := hide (by rw [ha5]; exact ⟨by decide, fun _ => rfl⟩)
              clear hzj
              rcases hcond with hc5 | ⟨hc5, hc6⟩
              all_goals
               go_upto_region 35 with (first
                | (go_at_call 11; (with_reducible refine (KARM.out _ X2 D2 L HL2W.out HN2.out.2 a).mono ?_); rintro e w4 ⟨X4, rfl, hl4, hf4, hn4⟩; have HL4 := hide hl4; have HM4 : Hid (MdAt w4 w1.heap.size gm vl M) := hide (HM2.out.lfr HL2W.out hf4); have HB4 : Hid (Rw w4 bx 36 [.int .u8 (k : Int), .slice P pl cp, .int .i64 yn, .int .i64 yh, .slice Q ql cq]) := hide (Kept.lfr HL2W.out hf4 _ _ _ HB2.out (by decide) (by decide) (by decide) (by decide) (by decide) (by decide) (by decide) (by decide)); have HN4 : Hid (X4.q = X.q ∧ X4.g = dg) := hide ⟨hn4.q.trans HN2.out.1, hn4.g.trans HN2.out.2⟩; clear hl4 hf4 hn4 b2; have b2 := HB4.out.cell (i := 2) rfl)
                | (go_at_call 11; (with_reducible refine (KARM0.out _ X4 _ L HL4.out HN4.out.2).mono ?_); rintro e w5 ⟨X5, rfl, hl5, hf5, hn5⟩; have HLG5 : Hid (LgAt w1 w5 X5 (D2.armed a5) L) := hide (by rw [ha5]; exact hl5); have HM5 : Hid (MdAt w5 w1.heap.size gm vl M) := hide (HM4.out.lfr HL4.out hf5); have HB5 : Hid (Rw w5 bx 36 [.int .u8 (k : Int), .slice P pl cp, .int .i64 yn, .int .i64 yh, .slice Q ql cq]) := hide (Kept.lfr HL4.out hf5 _ _ _ HB4.out (by decide) (by decide) (by decide) (by decide) (by decide) (by decide) (by decide) (by decide)); have HN5 : Hid (X5.q = X.q ∧ X5.g = dg) := hide ⟨hn5.q.trans HN4.out.1, hn5.g.trans HN4.out.2⟩; clear hl5 hf5 hn5 b2))
               clear ha5 hc5 hz hbit
               try clear hc6
               have HFT := hide (HF2.out.try_ (by have := HOB.out; have := HIB.out; omega) (by show e2 + 1 < _; have := HEB.out; have := HIB.out; omega) a5 (by have := HA5.out.1; omega))
               rw [show (epL L2 e2).at_ = 1 from HL2.out.1, show (epL L2 e2).hd.cn = c from HL2.out.2.2.1] at HFT
               have HRH : Hid (rhH (D2.armed a5) ((1 : Nat) : Int) = (epL L2 e2).hd) := hide (by
                 have k := HF2.out.rhE.2
                 rw [show (epL L2 e2).at_ = 1 from HL2.out.1] at k
                 exact k)
               have HSTB : Hid ((epL L2 e2).hd.fi < 2000000000000 ∧ (epL L2 e2).hd.st < 2000000000000) := hide (by
                 have h1 := HF2.out.st
                 have h2 := HF2.out.big
                 omega)
               obtain ⟨D5, HD5⟩ : ∃ D5, Hid (opD (D2.armed a5) ((1 : Nat) : Int) (c : Int) = D5) := ⟨_, hide rfl⟩
               obtain ⟨L5, HL5E⟩ : ∃ L5, Hid (nextL (epL L2 e2) = L5) := ⟨_, hide rfl⟩
               rw [HD5.out, HL5E.out] at HFT
               have KOA : Hid (Calls Tryd.prog 17 #[.pointer (some ⟨dg, 0, none⟩), .int .i64 1, .int .i64 (c : Int)] w5 (OPost w1 w5 dg X5.gd X5.gn X5.A D5 (opE (D2.armed a5) ((1 : Nat) : Int) (c : Int)) (opL (D2.armed a5) ((1 : Nat) : Int)))) := hide (by
                 have k := open_any HLG5.out.ext HLG5.out.disk (armed_bd HF2.out.bd (by have := HA5.out.1; omega)) (by show D2.pen.length < _; rw [HF2.out.pen]; decide) (by show D2.ops < _; have := HOB.out; have := HIB.out; omega) (HT.out.ext HX1.out) ((1 : Nat) : Int) (c : Int) (by decide) (by have := HCB.out; omega) (by rw [HRH.out]; have := HSTB.out; omega) (by rw [HRH.out]; have := HSTB.out; omega)
                 rw [HD5.out, HN5.out.2] at k
                 exact k)
               rcases HFT.out with ⟨t1, t2, t3, t4, t5, t6⟩ | ⟨t0, t1, t2, t3, t4, t5, t6⟩
               · rw [t1, t3] at KOA
                 have HRG5 := hide t2
                 have HO5 := hide t4
                 have HDL5 := hide t5
                 clear t1 t2 t3 t4 t5 t6 HFT
                 have HST5 : Hid (L5.hd.st = L.hd.st ∧ L5.hd.cn = c ∧ L5.hd.ck = 0 ∧ L5.at_ = 1 ∧ L5.hd.ep = e2 + 1 ∧ L5.sure = (H.take (L.sure + (recsB pre).length)).length) := hide (by
                   have hh := nextL_hd (L := epL L2 e2) HF2.out.epo
                   rw [HL5E.out] at hh
                   refine ⟨by rw [hh]; exact HL2.out.2.1, by rw [hh]; exact HL2.out.2.2.1, by rw [hh]; exact HL2.out.2.2.2, by rw [← HL5E.out]; exact HL2.out.1, by rw [hh]; rfl, by rw [← HL5E.out]; exact HF2.out.sure⟩)
                 have HCK := hide (HRR.out.cb.back HPP.out HRG5.out HST5.out.2.2.2.1 HST5.out.1 HST5.out.2.1 HST5.out.2.2.1 HST5.out.2.2.2.2.2 (by show D5.dur.length = _; rw [HDL5.out]; exact HDL.out) (o' := 10 + 60 * i1) (b' := 1 + 3 * i1) ⟨by show D5.ops ≤ _; have := HO5.out; have := HOB.out; have := HIB.out; have := HJ.out; omega, by have := HIB.out; omega⟩ ⟨by rw [HST5.out.2.2.2.2.1]; have := HEB.out; have := HIB.out; have := HJ.out; omega, by have := HIB.out; omega⟩)
                 have HBF := hide (HRR.out.cb.behind HPP.out HCK.out HRG5.out.awk.1 HST5.out.1 HST5.out.2.2.2.2.2)
                 have KOB : Hid (Calls Tryd.prog 17 #[.pointer (some ⟨dg, 0, none⟩), .int .i64 1, .int .i64 (c : Int)] w5 (fun e w' => ∃ X6, e = .returned (.tuple #[.pointer (some ⟨X6.q, 0, none⟩), .int .i64 0]) ∧ LgAt w1 w' X6 D5 L5 ∧ X6.g = dg ∧ Dfr X5.g X5.gd X5.gn X5.A w5 w')) := hide (KOA.out.mono fun e w' hp => by
                   obtain ⟨X6, e1, e2', e3, e4, e5, e6, -⟩ := hp.1 rfl
                   rw [← HN5.out.2] at e6
                   exact ⟨X6, e1, e2', e3, e6⟩)
                 have KBH : Hid (∀ W X' vl', LgAt w1 W X' (D5.armed 0) L5 → MdAt W w1.heap.size gm vl' M → Calls Tryd.prog 18 #[.pointer (some ⟨gm, 0, none⟩), .pointer (some ⟨X'.q, 0, none⟩)] W (fun e w' => e = .returned (.bool true) ∧ ∃ vl'', MdAt w' w1.heap.size gm vl'' (backM M (lo ++ plc L.hd.fi (rsS ++ pre)) (L.sure + (recsB pre).length) L5.hd.ck) ∧ Mfr gm vl' W w')) := hide (fun W X' vl' h1 h2 => by
                   obtain ⟨g1, g2, g3, g4, g5, g6, g7, g8, g9, g10, g11, g12⟩ := HBF.out
                   exact behind_any h1 h2 g1 g2 g3 g4 g5 g6 g7 g8 g9 g10 g11 g12 (HT.out.ext HX1.out))
                 go_wp2_with (first
                   | (go_at_call 17; (with_reducible refine KOB.out.mono ?_); rintro e w6 ⟨X6, rfl, hl6, hg6, hf6⟩; have HL6 := hide hl6; have HM6 : Hid (MdAt w6 w1.heap.size gm vl M) := hide (HM5.out.dfr HLG5.out rfl rfl rfl rfl hf6); have HG6 := hide hg6; clear hl6 hf6 hg6)
                   | (go_at_call 11; (with_reducible refine (KARM0.out w6 X6 _ _ HL6.out HG6.out).mono ?_); rintro e w7 ⟨X7, rfl, hl7, hf7, hn7⟩; have HL7 := hide hl7; have HM7 : Hid (MdAt w7 w1.heap.size gm vl M) := hide (HM6.out.lfr HL6.out hf7); have HQ7 : Hid (X7.q = X6.q) := hide hn7.q; have HG7 : Hid (X7.g = dg) := hide (hn7.g.trans HG6.out); clear hl7 hf7 hn7; have KBH7 := hide (KBH.out w7 X7 vl HL7.out HM7.out); rw [HQ7.out] at KBH7)
                   | (go_at_call 18; (with_reducible refine KBH7.out.mono ?_); rintro e w8 ⟨rfl, vl8, hm8, hf8⟩; have HM8 := hide hm8; have HL8 : Hid (LgAt w1 w8 X7 (D5.armed 0) L5) := hide (HL7.out.mfr HM7.out hf8); clear hm8 hf8))
                 have HRC : Hid (Rc w1 w8 gm dg c i1 (10 + 60 * i1) (1 + 3 * i1) X7 (D5.armed 0) L5 (H.take (L.sure + (recsB pre).length)) (backM M (lo ++ plc L.hd.fi (rsS ++ pre)) (L.sure + (recsB pre).length) L5.hd.ck) vl8 lo (rsS ++ pre) []) := hide ⟨HL8.out, HM8.out, HCK.out.mono (by have := HIB.out; omega) (by have := HIB.out; omega) (by have := HIB.out; omega), HG7.out⟩
                 refine ⟨⟨i1, X7, (D5.armed 0), L5, _, _, vl8, lo, _, [], by rw [HQ7.out], rfl, hide (by have := HI1.out; have := HI6.out; omega), HRC⟩, ?_⟩
                 show 60 - ((i1 : Nat) : Int).toNat < 60 - ((i : Nat) : Int).toNat
                 have := HI1.out
                 have := HI6.out
                 omega
               · rw [t1] at KOA
                 have HT2 := hide t2
                 have HT3 := hide t3
                 have HT4 := hide t4
                 have HT5 := hide t5
                 have HT6 := hide t6
                 have HJ2 : Hid (j < 2) := hide (by
                   have h1 := HJ.out
                   have h2 := HA5.out.2
                   rcases Nat.lt_or_ge j 2 with h3 | h3
                   · exact h3
                   · exact absurd (h2 (by omega)) t0)
                 have hj2 : ((j : Int) == 2) = false := by have := HJ2.out; simp; omega
                 have hjw : IntKind.i64.wrap ((j : Int) + 1) = ((j + 1 : Nat) : Int) := by rw [IntKind.wrap_i64]; have := HJ2.out; omega
                 obtain ⟨j1, HJ1⟩ : ∃ j1, Hid (j + 1 = j1) := ⟨_, hide rfl⟩
                 rw [HJ1.out] at hjw
                 clear t0 t1 t2 t3 t4 t5 t6 HFT
                 have KOB : Hid (Calls Tryd.prog 17 #[.pointer (some ⟨dg, 0, none⟩), .int .i64 1, .int .i64 (c : Int)] w5 (LPost w1 w5 X5 (.tuple #[.pointer none, .int .i64 8]) D5 L)) := hide (KOA.out.mono fun e w' hp => by
                   have h1 := hp.2 (by decide)
                   rw [← HN5.out.2] at h1
                   exact LPost.of_disk HLG5.out h1)
                 go_wp2_with (first
                   | (go_at_call 17; (with_reducible refine KOB.out.mono ?_); rintro e w6 ⟨X6, rfl, hl6, hf6, hn6⟩; have HL6 := hide hl6; have HM6 : Hid (MdAt w6 w1.heap.size gm vl M) := hide (HM5.out.lfr HLG5.out hf6); have HB6 : Hid (Rw w6 bx 36 [.int .u8 (k : Int), .slice P pl cp, .int .i64 yn, .int .i64 yh, .slice Q ql cq]) := hide (Kept.lfr HLG5.out hf6 _ _ _ HB5.out (by decide) (by decide) (by decide) (by decide) (by decide) (by decide) (by decide) (by decide)); have HN6 : Hid (X6.q = X.q ∧ X6.g = dg) := hide ⟨hn6.q.trans HN5.out.1, hn6.g.trans HN5.out.2⟩; clear hl6 hf6 hn6; have b4 := HB6.out.cell (i := 4) rfl)
                   | (go_at_call 16; (with_reducible refine (KRS.out w6 X6 D5 HL6.out HN6.out.2 HT2.out (by have := HT3.out; omega)).mono ?_); rintro e w7 ⟨X7, rfl, hl7, hf7, hn7⟩; have HL7 := hide hl7; have HM7 : Hid (MdAt w7 w1.heap.size gm vl M) := hide (HM6.out.lfr HL6.out hf7); have HB7 : Hid (Rw w7 bx 36 [.int .u8 (k : Int), .slice P pl cp, .int .i64 yn, .int .i64 yh, .slice Q ql cq]) := hide (Kept.lfr HL6.out hf7 _ _ _ HB6.out (by decide) (by decide) (by decide) (by decide) (by decide) (by decide) (by decide) (by decide)); have HN7 : Hid (X7.q = X.q ∧ X7.g = dg) := hide ⟨hn7.q.trans HN6.out.1, hn7.g.trans HN6.out.2⟩; clear hl7 hf7 hn7))
                 obtain ⟨e3, he3, hf3⟩ := HT6.out q
                 refine ⟨⟨j1, X7, D5.fallen q, e3, rfl, rfl, hide (by have := HJ1.out; have := HJ2.out; omega), HN7, HL7, HM7, HB7, hide hf3, hide (by have h1 : e3 = e2 ∨ e3 = e2 + 1 := he3; have := HEB.out; have := HJ1.out; omega), hide (by show D5.ops ≤ _; have := HT4.out; have := HOB.out; have := HJ1.out; omega), hide (by rw [(fallen_bd HT2.out q).2.2.2, HT5.out]; exact HDL.out)⟩, ?_⟩
                 show 3 - ((j1 : Nat) : Int).toNat < 3 - ((j : Nat) : Int).toNat
                 have := HJ1.out
                 have := HJ2.out
                 omega
            · obtain ⟨a5, ha5⟩ : ∃ a5, a5 = a := ⟨a, rfl⟩
              have HA5 : Hid (a5 < 8 ∧ (j = 2 → a5 = 0)) := hide (by rw [ha5]; exact ⟨HA8.out, fun h => absurd (.inr h) hzj⟩)
              have hc5 : (z == 0) = false := by simp; exact fun h => hzj (.inl h)
              have hc6 : ((j : Int) == 2) = false := by simp; omega
              clear hzj
              go_upto_region 35 with (go_at_call 11; (with_reducible refine (KARM.out _ X2 D2 L HL2W.out HN2.out.2 a).mono ?_); rintro e w5 ⟨X5, rfl, hl5, hf5, hn5⟩; have HLG5 : Hid (LgAt w1 w5 X5 (D2.armed a5) L) := hide (by rw [ha5]; exact hl5); have HM5 : Hid (MdAt w5 w1.heap.size gm vl M) := hide (HM2.out.lfr HL2W.out hf5); have HB5 : Hid (Rw w5 bx 36 [.int .u8 (k : Int), .slice P pl cp, .int .i64 yn, .int .i64 yh, .slice Q ql cq]) := hide (Kept.lfr HL2W.out hf5 _ _ _ HB2.out (by decide) (by decide) (by decide) (by decide) (by decide) (by decide) (by decide) (by decide)); have HN5 : Hid (X5.q = X.q ∧ X5.g = dg) := hide ⟨hn5.q.trans HN2.out.1, hn5.g.trans HN2.out.2⟩; clear hl5 hf5 hn5 b2; have b2 := HB5.out.cell (i := 2) rfl)
              clear ha5 hc5 hc6 hz hbit b2
              have HFT := hide (HF2.out.try_ (by have := HOB.out; have := HIB.out; omega) (by show e2 + 1 < _; have := HEB.out; have := HIB.out; omega) a5 (by have := HA5.out.1; omega))
              rw [show (epL L2 e2).at_ = 1 from HL2.out.1, show (epL L2 e2).hd.cn = c from HL2.out.2.2.1] at HFT
              have HRH : Hid (rhH (D2.armed a5) ((1 : Nat) : Int) = (epL L2 e2).hd) := hide (by
                have k := HF2.out.rhE.2
                rw [show (epL L2 e2).at_ = 1 from HL2.out.1] at k
                exact k)
              have HSTB : Hid ((epL L2 e2).hd.fi < 2000000000000 ∧ (epL L2 e2).hd.st < 2000000000000) := hide (by
                have h1 := HF2.out.st
                have h2 := HF2.out.big
                omega)
              obtain ⟨D5, HD5⟩ : ∃ D5, Hid (opD (D2.armed a5) ((1 : Nat) : Int) (c : Int) = D5) := ⟨_, hide rfl⟩
              obtain ⟨L5, HL5E⟩ : ∃ L5, Hid (nextL (epL L2 e2) = L5) := ⟨_, hide rfl⟩
              rw [HD5.out, HL5E.out] at HFT
              have KOA : Hid (Calls Tryd.prog 17 #[.pointer (some ⟨dg, 0, none⟩), .int .i64 1, .int .i64 (c : Int)] w5 (OPost w1 w5 dg X5.gd X5.gn X5.A D5 (opE (D2.armed a5) ((1 : Nat) : Int) (c : Int)) (opL (D2.armed a5) ((1 : Nat) : Int)))) := hide (by
                have k := open_any HLG5.out.ext HLG5.out.disk (armed_bd HF2.out.bd (by have := HA5.out.1; omega)) (by show D2.pen.length < _; rw [HF2.out.pen]; decide) (by show D2.ops < _; have := HOB.out; have := HIB.out; omega) (HT.out.ext HX1.out) ((1 : Nat) : Int) (c : Int) (by decide) (by have := HCB.out; omega) (by rw [HRH.out]; have := HSTB.out; omega) (by rw [HRH.out]; have := HSTB.out; omega)
                rw [HD5.out, HN5.out.2] at k
                exact k)
              rcases HFT.out with ⟨t1, t2, t3, t4, t5, t6⟩ | ⟨t0, t1, t2, t3, t4, t5, t6⟩
              · rw [t1, t3] at KOA
                have HRG5 := hide t2
                have HO5 := hide t4
                have HDL5 := hide t5
                clear t1 t2 t3 t4 t5 t6 HFT
                have HST5 : Hid (L5.hd.st = L.hd.st ∧ L5.hd.cn = c ∧ L5.hd.ck = 0 ∧ L5.at_ = 1 ∧ L5.hd.ep = e2 + 1 ∧ L5.sure = (H.take (L.sure + (recsB pre).length)).length) := hide (by
                  have hh := nextL_hd (L := epL L2 e2) HF2.out.epo
                  rw [HL5E.out] at hh
                  refine ⟨by rw [hh]; exact HL2.out.2.1, by rw [hh]; exact HL2.out.2.2.1, by rw [hh]; exact HL2.out.2.2.2, by rw [← HL5E.out]; exact HL2.out.1, by rw [hh]; rfl, by rw [← HL5E.out]; exact HF2.out.sure⟩)
                have HCK := hide (HRR.out.cb.back HPP.out HRG5.out HST5.out.2.2.2.1 HST5.out.1 HST5.out.2.1 HST5.out.2.2.1 HST5.out.2.2.2.2.2 (by show D5.dur.length = _; rw [HDL5.out]; exact HDL.out) (o' := 10 + 60 * i1) (b' := 1 + 3 * i1) ⟨by show D5.ops ≤ _; have := HO5.out; have := HOB.out; have := HIB.out; have := HJ.out; omega, by have := HIB.out; omega⟩ ⟨by rw [HST5.out.2.2.2.2.1]; have := HEB.out; have := HIB.out; have := HJ.out; omega, by have := HIB.out; omega⟩)
                have HBF := hide (HRR.out.cb.behind HPP.out HCK.out HRG5.out.awk.1 HST5.out.1 HST5.out.2.2.2.2.2)
                have KOB : Hid (Calls Tryd.prog 17 #[.pointer (some ⟨dg, 0, none⟩), .int .i64 1, .int .i64 (c : Int)] w5 (fun e w' => ∃ X6, e = .returned (.tuple #[.pointer (some ⟨X6.q, 0, none⟩), .int .i64 0]) ∧ LgAt w1 w' X6 D5 L5 ∧ X6.g = dg ∧ Dfr X5.g X5.gd X5.gn X5.A w5 w')) := hide (KOA.out.mono fun e w' hp => by
                  obtain ⟨X6, e1, e2', e3, e4, e5, e6, -⟩ := hp.1 rfl
                  rw [← HN5.out.2] at e6
                  exact ⟨X6, e1, e2', e3, e6⟩)
                have KBH : Hid (∀ W X' vl', LgAt w1 W X' (D5.armed 0) L5 → MdAt W w1.heap.size gm vl' M → Calls Tryd.prog 18 #[.pointer (some ⟨gm, 0, none⟩), .pointer (some ⟨X'.q, 0, none⟩)] W (fun e w' => e = .returned (.bool true) ∧ ∃ vl'', MdAt w' w1.heap.size gm vl'' (backM M (lo ++ plc L.hd.fi (rsS ++ pre)) (L.sure + (recsB pre).length) L5.hd.ck) ∧ Mfr gm vl' W w')) := hide (fun W X' vl' h1 h2 => by
                  obtain ⟨g1, g2, g3, g4, g5, g6, g7, g8, g9, g10, g11, g12⟩ := HBF.out
                  exact behind_any h1 h2 g1 g2 g3 g4 g5 g6 g7 g8 g9 g10 g11 g12 (HT.out.ext HX1.out))
                go_wp2_with (first
                  | (go_at_call 17; (with_reducible refine KOB.out.mono ?_); rintro e w6 ⟨X6, rfl, hl6, hg6, hf6⟩; have HL6 := hide hl6; have HM6 : Hid (MdAt w6 w1.heap.size gm vl M) := hide (HM5.out.dfr HLG5.out rfl rfl rfl rfl hf6); have HG6 := hide hg6; clear hl6 hf6 hg6)
                  | (go_at_call 11; (with_reducible refine (KARM0.out w6 X6 _ _ HL6.out HG6.out).mono ?_); rintro e w7 ⟨X7, rfl, hl7, hf7, hn7⟩; have HL7 := hide hl7; have HM7 : Hid (MdAt w7 w1.heap.size gm vl M) := hide (HM6.out.lfr HL6.out hf7); have HQ7 : Hid (X7.q = X6.q) := hide hn7.q; have HG7 : Hid (X7.g = dg) := hide (hn7.g.trans HG6.out); clear hl7 hf7 hn7; have KBH7 := hide (KBH.out w7 X7 vl HL7.out HM7.out); rw [HQ7.out] at KBH7)
                  | (go_at_call 18; (with_reducible refine KBH7.out.mono ?_); rintro e w8 ⟨rfl, vl8, hm8, hf8⟩; have HM8 := hide hm8; have HL8 : Hid (LgAt w1 w8 X7 (D5.armed 0) L5) := hide (HL7.out.mfr HM7.out hf8); clear hm8 hf8))
                have HRC : Hid (Rc w1 w8 gm dg c i1 (10 + 60 * i1) (1 + 3 * i1) X7 (D5.armed 0) L5 (H.take (L.sure + (recsB pre).length)) (backM M (lo ++ plc L.hd.fi (rsS ++ pre)) (L.sure + (recsB pre).length) L5.hd.ck) vl8 lo (rsS ++ pre) []) := hide ⟨HL8.out, HM8.out, HCK.out.mono (by have := HIB.out; omega) (by have := HIB.out; omega) (by have := HIB.out; omega), HG7.out⟩
                refine ⟨⟨i1, X7, (D5.armed 0), L5, _, _, vl8, lo, _, [], by rw [HQ7.out], rfl, hide (by have := HI1.out; have := HI6.out; omega), HRC⟩, ?_⟩
                show 60 - ((i1 : Nat) : Int).toNat < 60 - ((i : Nat) : Int).toNat
                have := HI1.out
                have := HI6.out
                omega
              · rw [t1] at KOA
                have HT2 := hide t2
                have HT3 := hide t3
                have HT4 := hide t4
                have HT5 := hide t5
                have HT6 := hide t6
                have HJ2 : Hid (j < 2) := hide (by
                  have h1 := HJ.out
                  have h2 := HA5.out.2
                  rcases Nat.lt_or_ge j 2 with h3 | h3
                  · exact h3
                  · exact absurd (h2 (by omega)) t0)
                have hj2 : ((j : Int) == 2) = false := by have := HJ2.out; simp; omega
                have hjw : IntKind.i64.wrap ((j : Int) + 1) = ((j + 1 : Nat) : Int) := by rw [IntKind.wrap_i64]; have := HJ2.out; omega
                obtain ⟨j1, HJ1⟩ : ∃ j1, Hid (j + 1 = j1) := ⟨_, hide rfl⟩
                rw [HJ1.out] at hjw
                clear t0 t1 t2 t3 t4 t5 t6 HFT
                have KOB : Hid (Calls Tryd.prog 17 #[.pointer (some ⟨dg, 0, none⟩), .int .i64 1, .int .i64 (c : Int)] w5 (LPost w1 w5 X5 (.tuple #[.pointer none, .int .i64 8]) D5 L)) := hide (KOA.out.mono fun e w' hp => by
                  have h1 := hp.2 (by decide)
                  rw [← HN5.out.2] at h1
                  exact LPost.of_disk HLG5.out h1)
                go_wp2_with (first
                  | (go_at_call 17; (with_reducible refine KOB.out.mono ?_); rintro e w6 ⟨X6, rfl, hl6, hf6, hn6⟩; have HL6 := hide hl6; have HM6 : Hid (MdAt w6 w1.heap.size gm vl M) := hide (HM5.out.lfr HLG5.out hf6); have HB6 : Hid (Rw w6 bx 36 [.int .u8 (k : Int), .slice P pl cp, .int .i64 yn, .int .i64 yh, .slice Q ql cq]) := hide (Kept.lfr HLG5.out hf6 _ _ _ HB5.out (by decide) (by decide) (by decide) (by decide) (by decide) (by decide) (by decide) (by decide)); have HN6 : Hid (X6.q = X.q ∧ X6.g = dg) := hide ⟨hn6.q.trans HN5.out.1, hn6.g.trans HN5.out.2⟩; clear hl6 hf6 hn6; have b4 := HB6.out.cell (i := 4) rfl)
                  | (go_at_call 16; (with_reducible refine (KRS.out w6 X6 D5 HL6.out HN6.out.2 HT2.out (by have := HT3.out; omega)).mono ?_); rintro e w7 ⟨X7, rfl, hl7, hf7, hn7⟩; have HL7 := hide hl7; have HM7 : Hid (MdAt w7 w1.heap.size gm vl M) := hide (HM6.out.lfr HL6.out hf7); have HB7 : Hid (Rw w7 bx 36 [.int .u8 (k : Int), .slice P pl cp, .int .i64 yn, .int .i64 yh, .slice Q ql cq]) := hide (Kept.lfr HL6.out hf7 _ _ _ HB6.out (by decide) (by decide) (by decide) (by decide) (by decide) (by decide) (by decide) (by decide)); have HN7 : Hid (X7.q = X.q ∧ X7.g = dg) := hide ⟨hn7.q.trans HN6.out.1, hn7.g.trans HN6.out.2⟩; clear hl7 hf7 hn7))
                obtain ⟨e3, he3, hf3⟩ := HT6.out q
                refine ⟨⟨j1, X7, D5.fallen q, e3, rfl, rfl, hide (by have := HJ1.out; have := HJ2.out; omega), HN7, HL7, HM7, HB7, hide hf3, hide (by have h1 : e3 = e2 ∨ e3 = e2 + 1 := he3; have := HEB.out; have := HJ1.out; omega), hide (by show D5.ops ≤ _; have := HT4.out; have := HOB.out; have := HJ1.out; omega), hide (by rw [(fallen_bd HT2.out q).2.2.2, HT5.out]; exact HDL.out)⟩, ?_⟩
                show 3 - ((j1 : Nat) : Int).toNat < 3 - ((j : Nat) : Int).toNat
                have := HJ1.out
                have := HJ2.out
                omega
        · have hRi : (kk : Int) < 5 := by omega
          by_cases hw : D.off = false ∧ ¬ kk = 2
          · obtain ⟨hon, hk2⟩ := hw
            have KON1 := hide (KON.out _ X D L HLB.out HRR.out.g)
            rw [hon] at KON1
            have HCF := hide (HRR.out.cb.flush hon (by have := HIB.out; have := HI6.out; omega))
            have HON := hide hon
            have HTL := hide (HRR.out.cb.tail hon)
            clear hon
            by_cases hk3 : kk = 3
            · subst hk3
              obtain ⟨a, ha, hbit⟩ := and7 yh
              have KA1 := hide (KARM.out _ X D L HLB.out HRR.out.g a)
              have KFL : Hid (∀ W X', LgAt w1 W X' (D.armed a) L → X'.q = X.q → Calls Tryd.prog 12 #[.pointer (some ⟨X.q, 0, none⟩)] W (LPost w1 W X' (.int .i64 (flE (D.armed a) L)) (flD (D.armed a) L) (flL (D.armed a) L))) := hide (fun W X' h1 h2 => by
                have cb := HRR.out.cb
                have k := flush_any h1 (cb.lok.onD rfl) (armed_bd cb.bd (by omega)) (by show D.pen.length < _; have := cb.pen; omega) (by show D.ops < _; have := cb.ops; have := HIB.out; omega) (by have := HTL.out; omega) (HT.out.ext HX1.out)
                rw [h2] at k
                exact k)
              have e0b := HBB.out.cell (i := 0) rfl
              have hzw : ((0 : Nat) : Int) = 0 := rfl
              rcases HCF.out a with ⟨q1, q2, q3, q4⟩ | ⟨q1, q2, q3⟩
              · rw [q1] at KFL
                have HCB2 := hide q2
                obtain ⟨D6, HD6⟩ : ∃ D6, Hid (flD (D.armed a) L = D6) := ⟨_, hide rfl⟩
                obtain ⟨L6, HL6E⟩ : ∃ L6, Hid (flL (D.armed a) L = L6) := ⟨_, hide rfl⟩
                rw [HD6.out, HL6E.out] at KFL HCB2
                clear q1 q2 q3 q4 ha HCF e0b
                go_upto_region 22 with (first
                  | (go_at_call 9; (with_reducible refine KON1.out.mono ?_); rintro e w5 ⟨rfl, rfl⟩)
                  | (go_at_call 11; (with_reducible refine KA1.out.mono ?_); rintro e w5 ⟨X5, rfl, hl5, hf5, hn5⟩; have HL5 := hide hl5; have HM5 : Hid (MdAt w5 w1.heap.size gm vl M) := hide (HMB.out.lfr HLB.out hf5); have HB5 : Hid (Rw w5 wr.heap.size 36 [.int .u8 (k : Int), .slice P pl cp, .int .i64 yn, .int .i64 yh, .slice Q ql cq]) := hide (Kept.lfr HLB.out hf5 _ _ _ HBB.out (by decide) (by decide) (by decide) (by decide) (by decide) (by decide) (by decide) (by decide)); have HN5 : Hid (X5.q = X.q ∧ X5.g = dg) := hide ⟨hn5.q, hn5.g.trans HRR.out.g⟩; clear hl5 hf5 hn5)
                  | (go_at_call 12; (with_reducible refine (KFL.out w5 X5 HL5.out HN5.out.1).mono ?_); rintro e w6 ⟨X6, rfl, hl6, hf6, hn6⟩; have HL6 := hide hl6; have HM6 : Hid (MdAt w6 w1.heap.size gm vl M) := hide (HM5.out.lfr HL5.out hf6); have HB6 : Hid (Rw w6 wr.heap.size 36 [.int .u8 (k : Int), .slice P pl cp, .int .i64 yn, .int .i64 yh, .slice Q ql cq]) := hide (Kept.lfr HL5.out hf6 _ _ _ HB5.out (by decide) (by decide) (by decide) (by decide) (by decide) (by decide) (by decide) (by decide)); have HN6 : Hid (X6.q = X.q ∧ X6.g = dg) := hide ⟨hn6.q.trans HN5.out.1, hn6.g.trans HN5.out.2⟩; clear hl6 hf6 hn6; have c1 := HM6.out.cells.2.1; have f2 := HM6.out.blk.frozen 2; have c2 := HM6.out.cells.2.2.1; have HW7 : Hid (MdAt (w6.setCell ⟨gm, 2, none⟩ (.int .u64 (M.en : Int))) w1.heap.size gm vl (sureM M)) := hide (HM6.out.put 2 _ _ rfl rfl); have HL7 : Hid (LgAt w1 (w6.setCell ⟨gm, 2, none⟩ (.int .u64 (M.en : Int))) X6 D6 L6) := hide (HL6.out.mfr HM6.out (Mfr.cell 2 _)); have HB7 : Hid (Rw (w6.setCell ⟨gm, 2, none⟩ (.int .u64 (M.en : Int))) wr.heap.size 36 [.int .u8 (k : Int), .slice P pl cp, .int .i64 yn, .int .i64 yh, .slice Q ql cq]) := hide (Kept.mfr HM6.out (Mfr.cell 2 _) _ _ _ HB6.out (by decide) (by decide) (by decide) (by decide) (by decide) (by decide) (by decide) (by decide)))
                  | (go_at_call 11; (with_reducible refine (KARM0.out _ X6 _ _ HL7.out HN6.out.2).mono ?_); rintro e w8 ⟨X8, rfl, hl8, hf8, hn8⟩; have HL8 := hide hl8; have HM8 : Hid (MdAt w8 w1.heap.size gm vl (sureM M)) := hide (HW7.out.lfr HL7.out hf8); have HB8 : Hid (Rw w8 wr.heap.size 36 [.int .u8 (k : Int), .slice P pl cp, .int .i64 yn, .int .i64 yh, .slice Q ql cq]) := hide (Kept.lfr HL7.out hf8 _ _ _ HB7.out (by decide) (by decide) (by decide) (by decide) (by decide) (by decide) (by decide) (by decide)); have HQ9 : Hid (X8.q = X.q) := hide (hn8.q.trans HN6.out.1); have HG8 : Hid (X8.g = dg) := hide (hn8.g.trans HN6.out.2); clear hl8 hf8 hn8))
                have e0 := HB8.out.cell (i := 0) rfl
                clear c1 f2 c2
                have HRC : Hid (Rc w1 w8 gm dg c i1 (10 + 60 * i1) (1 + 3 * i1) X8 (D6.armed 0) L6 H (sureM M) vl lo (rsS ++ rsM) []) := hide ⟨HL8.out, HM8.out, HCB2.out.mono (by have := HIB.out; omega) (by have := HIB.out; omega) (by have := HIB.out; omega), HG8.out⟩
                go_wp2
                refine ⟨⟨i1, X8, (D6.armed 0), L6, H, (sureM M), vl, lo, (rsS ++ rsM), [], by first | rfl | rw [HQ9.out], rfl, hide (by have := HI1.out; have := HI6.out; omega), HRC⟩, ?_⟩
                show 60 - ((i1 : Nat) : Int).toNat < 60 - ((i : Nat) : Int).toNat
                have := HI1.out
                have := HI6.out
                omega
              · rw [q1, q2] at KFL
                have HCB2 := hide q3
                obtain ⟨D6, HD6⟩ : ∃ D6, Hid (flD (D.armed a) L = D6) := ⟨_, hide rfl⟩
                rw [HD6.out] at KFL HCB2
                clear q1 q2 q3 ha HCF e0b
                go_upto_region 22 with (first
                  | (go_at_call 9; (with_reducible refine KON1.out.mono ?_); rintro e w5 ⟨rfl, rfl⟩)
                  | (go_at_call 11; (with_reducible refine KA1.out.mono ?_); rintro e w5 ⟨X5, rfl, hl5, hf5, hn5⟩; have HL5 := hide hl5; have HM5 : Hid (MdAt w5 w1.heap.size gm vl M) := hide (HMB.out.lfr HLB.out hf5); have HB5 : Hid (Rw w5 wr.heap.size 36 [.int .u8 (k : Int), .slice P pl cp, .int .i64 yn, .int .i64 yh, .slice Q ql cq]) := hide (Kept.lfr HLB.out hf5 _ _ _ HBB.out (by decide) (by decide) (by decide) (by decide) (by decide) (by decide) (by decide) (by decide)); have HN5 : Hid (X5.q = X.q ∧ X5.g = dg) := hide ⟨hn5.q, hn5.g.trans HRR.out.g⟩; clear hl5 hf5 hn5)
                  | (go_at_call 12; (with_reducible refine (KFL.out w5 X5 HL5.out HN5.out.1).mono ?_); rintro e w6 ⟨X6, rfl, hl6, hf6, hn6⟩; have HL6 := hide hl6; have HM6 : Hid (MdAt w6 w1.heap.size gm vl M) := hide (HM5.out.lfr HL5.out hf6); have HB6 : Hid (Rw w6 wr.heap.size 36 [.int .u8 (k : Int), .slice P pl cp, .int .i64 yn, .int .i64 yh, .slice Q ql cq]) := hide (Kept.lfr HL5.out hf6 _ _ _ HB5.out (by decide) (by decide) (by decide) (by decide) (by decide) (by decide) (by decide) (by decide)); have HN6 : Hid (X6.q = X.q ∧ X6.g = dg) := hide ⟨hn6.q.trans HN5.out.1, hn6.g.trans HN5.out.2⟩; clear hl6 hf6 hn6; skip)
                  | (go_at_call 11; (with_reducible refine (KARM0.out _ X6 _ _ HL6.out HN6.out.2).mono ?_); rintro e w8 ⟨X8, rfl, hl8, hf8, hn8⟩; have HL8 := hide hl8; have HM8 : Hid (MdAt w8 w1.heap.size gm vl M) := hide (HM6.out.lfr HL6.out hf8); have HB8 : Hid (Rw w8 wr.heap.size 36 [.int .u8 (k : Int), .slice P pl cp, .int .i64 yn, .int .i64 yh, .slice Q ql cq]) := hide (Kept.lfr HL6.out hf8 _ _ _ HB6.out (by decide) (by decide) (by decide) (by decide) (by decide) (by decide) (by decide) (by decide)); have HQ9 : Hid (X8.q = X.q) := hide (hn8.q.trans HN6.out.1); have HG8 : Hid (X8.g = dg) := hide (hn8.g.trans HN6.out.2); clear hl8 hf8 hn8))
                have e0 := HB8.out.cell (i := 0) rfl
                have HRC : Hid (Rc w1 w8 gm dg c i1 (10 + 60 * i1) (1 + 3 * i1) X8 (D6.armed 0) L H M vl lo rsS rsM) := hide ⟨HL8.out, HM8.out, HCB2.out.mono (by have := HIB.out; omega) (by have := HIB.out; omega) (by have := HIB.out; omega), HG8.out⟩
                go_wp2
                refine ⟨⟨i1, X8, (D6.armed 0), L, H, M, vl, lo, rsS, rsM, by first | rfl | rw [HQ9.out], rfl, hide (by have := HI1.out; have := HI6.out; omega), HRC⟩, ?_⟩
                show 60 - ((i1 : Nat) : Int).toNat < 60 - ((i : Nat) : Int).toNat
                have := HI1.out
                have := HI6.out
                omega
            · have hk4 : kk = 4 := by have := HK7.out; omega
              subst hk4
              have HCB0 := hide HRR.out.cb
              have hself : D.armed 0 = D := armed_self HCB0.out.arm
              have HRG := hide (HCB0.out.on HON.out)
              have hops0 := HCB0.out.ops
              have HRF := hide (HRG.out.flush (by omega))
              have HC1 := HCF.out 0
              rw [hself] at HC1
              obtain ⟨ro, HRO⟩ : ∃ ro, Hid (mRoom M = ro) := ⟨_, hide rfl⟩
              have KRM : Hid (Calls Tryd.prog 13 #[.pointer (some ⟨gm, 0, none⟩)] (wr.alloc (.cells #[.int .u8 (k : Int), .slice P pl cp, .int .i64 yn, .int .i64 yh, .slice Q ql cq] 36)) (fun e w' => e = .returned (.int .i64 ro) ∧ ∃ m, w' = (wr.alloc (.cells #[.int .u8 (k : Int), .slice P pl cp, .int .i64 yn, .int .i64 yh, .slice Q ql cq] 36)).drewN m)) := hide (by
                have cb := HCB0.out
                have h3 := cb.lt
                have h4 := HRG.out.big
                have h5 := cb.fs
                have h6 := HRG.out.st
                have k := mroom_any HMB.out (by rw [cb.st]; omega) (by rw [cb.cn]; have := cb.c4; omega) (by rw [cb.st, cb.cn, cb.en]; exact cb.ring) (by rw [cb.hl]; decide)
                rw [HRO.out] at k
                exact k)
              have e0b := HBB.out.cell (i := 0) rfl
              clear hself hops0
              by_cases hro : ro < 2000
              · obtain ⟨f1, f2, f3, f4, f5, f6, f7⟩ := HRF.out
                rcases HC1 with ⟨q1, q2, q3, q4⟩ | ⟨q1, -, -⟩
                · rw [armed_self f2.awk.2] at q2 q4
                  obtain ⟨D6, HD6⟩ : ∃ D6, Hid (flD D L = D6) := ⟨_, hide rfl⟩
                  obtain ⟨L6, HL6E⟩ : ∃ L6, Hid (flL D L = L6) := ⟨_, hide rfl⟩
                  have KFL : Hid (∀ W X', LgAt w1 W X' D L → X'.q = X.q → Calls Tryd.prog 12 #[.pointer (some ⟨X.q, 0, none⟩)] W (LPost w1 W X' (.int .i64 0) D6 L6)) := hide (fun W X' h1 h2 => by
                    have cb := HCB0.out
                    have k := flush_any h1 cb.lok cb.bd (by have := cb.pen; omega) (by have := cb.ops; have := HIB.out; omega) (by have := HTL.out; omega) (HT.out.ext HX1.out)
                    rw [h2, f1, HD6.out, HL6E.out] at k
                    exact k)
                  rw [HD6.out, HL6E.out] at q2 f2
                  rw [HL6E.out] at q3
                  rw [HD6.out] at q4
                  have HCB1 := hide q2
                  have HRG1 := hide f2
                  obtain ⟨en, HEN⟩ : ∃ en, Hid (H.length = en) := ⟨_, hide rfl⟩
                  have HMK := hide (HCB1.out.mark q4 (by have := HIB.out; omega))
                  rw [HEN.out] at HMK
                  obtain ⟨D9, HD9⟩ : ∃ D9, Hid (mkD D6 L6 0 en = D9) := ⟨_, hide rfl⟩
                  obtain ⟨L9, HL9⟩ : ∃ L9, Hid (mkL D6 L6 0 en = L9) := ⟨_, hide rfl⟩
                  rw [HD9.out, HL9.out] at HMK
                  have HME : Hid (M.en = en) := hide (by rw [HCB0.out.en, HEN.out])
                  have KEN : Hid (∀ W X', LgAt w1 W X' D6 L6 → X'.q = X.q → Calls Tryd.prog 15 #[.pointer (some ⟨X.q, 0, none⟩)] W (fun e w' => e = .returned (.int .u64 (en : Int)) ∧ ∃ m, w' = W.drewN m)) := hide (fun W X' h1 h2 => by
                    have k := end_any h1 HRG1.out.ok
                    rw [HRG1.out.end_, HEN.out, h2] at k
                    exact k)
                  have KMK : Hid (∀ W X', LgAt w1 W X' D6 L6 → X'.q = X.q → Calls Tryd.prog 14 #[.pointer (some ⟨X.q, 0, none⟩), .int .u64 0, .int .u64 (en : Int)] W (LPost w1 W X' (.int .i64 0) D9 L9)) := hide (fun W X' h1 h2 => by
                    have r1 := HRG1.out
                    have h3 := r1.st
                    have h4 := r1.sure
                    have h5 := r1.big
                    have h6 := HEN.out
                    have k := mark_any h1 r1.ok r1.bd (by rw [r1.pen]; decide) (by have := HCB1.out.ops; have := HIB.out; omega) 0 en (by decide) (by omega) (by omega) (by rw [r1.end_]; exact h4) (HT.out.ext HX1.out)
                    rw [HMK.out.1, HD9.out, HL9.out, h2] at k
                    exact k)
                  clear q1 q2 q3 q4 f1 f2 f3 f4 f5 f6 f7 HCF HRF
                  go_upto_region 25 with (first
                    | (go_at_call 9; (with_reducible refine KON1.out.mono ?_); rintro e w4 ⟨rfl, rfl⟩)
                    | (go_at_call 13; (with_reducible refine KRM.out.mono ?_); rintro e w5 ⟨rfl, m5, hw5⟩; have HX5 : Hid (Ext (wr.alloc (.cells #[.int .u8 (k : Int), .slice P pl cp, .int .i64 yn, .int .i64 yh, .slice Q ql cq] 36)) w5) := hide (by rw [hw5]; exact (Ext.refl _).drewN _); have HL5 := hide (HLB.out.ext_ HX5.out); have HM5 := hide (HMB.out.ext HX5.out); have HB5 := hide (HBB.out.ext HX5.out); clear hw5 e0b)
                    | (go_at_call 12; (with_reducible refine (KFL.out w5 X HL5.out rfl).mono ?_); rintro e w6 ⟨X6, rfl, hl6, hf6, hn6⟩; have HL6 := hide hl6; have HM6 : Hid (MdAt w6 w1.heap.size gm vl M) := hide (HM5.out.lfr HL5.out hf6); have HB6 : Hid (Rw w6 wr.heap.size 36 [.int .u8 (k : Int), .slice P pl cp, .int .i64 yn, .int .i64 yh, .slice Q ql cq]) := hide (Kept.lfr HL5.out hf6 _ _ _ HB5.out (by decide) (by decide) (by decide) (by decide) (by decide) (by decide) (by decide) (by decide)); have HN6 : Hid (X6.q = X.q ∧ X6.g = dg) := hide ⟨hn6.q, hn6.g.trans HRR.out.g⟩; clear hl6 hf6 hn6)
                    | (go_at_call 15; (with_reducible refine (KEN.out w6 X6 HL6.out HN6.out.1).mono ?_); rintro e w7 ⟨rfl, m7, hw7⟩; have HX7 : Hid (Ext w6 w7) := hide (by rw [hw7]; exact (Ext.refl _).drewN _); have HL7 := hide (HL6.out.ext_ HX7.out); have HM7 := hide (HM6.out.ext HX7.out); have HB7 := hide (HB6.out.ext HX7.out); clear hw7)
                    | (go_at_call 14; (with_reducible refine (KMK.out w7 X6 HL7.out HN6.out.1).mono ?_); rintro e w8 ⟨X8, rfl, hl8, hf8, hn8⟩; have HL8 := hide hl8; have HM8 : Hid (MdAt w8 w1.heap.size gm vl M) := hide (HM7.out.lfr HL7.out hf8); have HB8 : Hid (Rw w8 wr.heap.size 36 [.int .u8 (k : Int), .slice P pl cp, .int .i64 yn, .int .i64 yh, .slice Q ql cq]) := hide (Kept.lfr HL7.out hf8 _ _ _ HB7.out (by decide) (by decide) (by decide) (by decide) (by decide) (by decide) (by decide) (by decide)); have HQ9 : Hid (X8.q = X.q) := hide (hn8.q.trans HN6.out.1); have HG8 : Hid (X8.g = dg) := hide (hn8.g.trans HN6.out.2); clear hl8 hf8 hn8))
                  have c1 := HM8.out.cells.2.1
                  have c2 := HM8.out.cells.2.2.1
                  have f2 := HM8.out.blk.frozen 2
                  have HW9 : Hid (MdAt (w8.setCell ⟨gm, 2, none⟩ (.int .u64 (M.en : Int))) w1.heap.size gm vl (sureM M)) := hide (HM8.out.put 2 _ _ rfl rfl)
                  have HF9 : Hid (Mfr gm vl w8 (w8.setCell ⟨gm, 2, none⟩ (.int .u64 (M.en : Int)))) := hide (Mfr.cell 2 _)
                  go_upto_region 26 with fail
                  obtain ⟨w9, hw9⟩ : ∃ w9, w8.setCell ⟨gm, 2, none⟩ (.int .u64 (M.en : Int)) = w9 := ⟨_, rfl⟩
                  rw [hw9] at HW9 HF9 ⊢
                  clear hw9 c1 c2 f2
                  have c1 := HW9.out.cells.2.1
                  have c3 := HW9.out.cells.2.2.2.1
                  have f3 := HW9.out.blk.frozen 3
                  have HW10 : Hid (MdAt (w9.setCell ⟨gm, 3, none⟩ (.int .u64 ((sureM M).en : Int))) w1.heap.size gm vl { sureM M with st := M.en }) := hide (HW9.out.put 3 _ _ rfl rfl)
                  have HF10 : Hid (Mfr gm vl w8 (w9.setCell ⟨gm, 3, none⟩ (.int .u64 ((sureM M).en : Int)))) := hide (HF9.out.trans (Mfr.cell 3 _) (.inl rfl))
                  go_upto_region 27 with fail
                  obtain ⟨w10, hw10⟩ : ∃ w10, w9.setCell ⟨gm, 3, none⟩ (.int .u64 ((sureM M).en : Int)) = w10 := ⟨_, rfl⟩
                  rw [hw10] at HW10 HF10 ⊢
                  clear hw10 c1 c3 f3
                  have HB10 : Hid (Rw w10 wr.heap.size 36 [.int .u8 (k : Int), .slice P pl cp, .int .i64 yn, .int .i64 yh, .slice Q ql cq]) := hide (Kept.mfr HM8.out HF10.out _ _ _ HB8.out (by decide) (by decide) (by decide) (by decide) (by decide) (by decide) (by decide) (by decide))
                  have e0 := HB10.out.cell (i := 0) rfl
                  have HRC : Hid (Rc w1 w10 gm dg c i1 (10 + 60 * i1) (1 + 3 * i1) X8 D9 L9 H { sureM M with st := M.en } vl (lo ++ plc L6.hd.fi (rsS ++ rsM)) [] []) := hide ⟨HL8.out.mfr HM8.out HF10.out, HW10.out, HMK.out.2.1.mono (by have := HIB.out; omega) (by have := HIB.out; omega) (by have := HIB.out; omega), HG8.out⟩
                  go_wp2
                  refine ⟨⟨i1, X8, D9, L9, H, _, vl, _, [], [], by first | rfl | rw [HQ9.out], rfl, hide (by have := HI1.out; have := HI6.out; omega), HRC⟩, ?_⟩
                  show 60 - ((i1 : Nat) : Int).toNat < 60 - ((i : Nat) : Int).toNat
                  have := HI1.out
                  have := HI6.out
                  omega
                · rw [f1] at q1
                  cases q1
              · have HRC : Hid (Rc w1 (wr.alloc (.cells #[.int .u8 (k : Int), .slice P pl cp, .int .i64 yn, .int .i64 yh, .slice Q ql cq] 36)) gm dg c i1 (10 + 60 * i1) (1 + 3 * i1) X D L H M vl lo rsS rsM) := hide ⟨HLB.out, HMB.out, HRR.out.cb.mono (by have := HIB.out; omega) (by have := HIB.out; omega) (by have := HIB.out; omega), HRR.out.g⟩
                have HQ9 : Hid (X.q = X.q) := hide rfl
                clear HC1
                go_wp2_with (first
                  | (go_at_call 9; (with_reducible refine KON1.out.mono ?_); rintro e w4 ⟨rfl, rfl⟩)
                  | (go_at_call 13; (with_reducible refine KRM.out.mono ?_); rintro e w5 ⟨rfl, m5, hw5⟩; have HX5 : Hid (Ext (wr.alloc (.cells #[.int .u8 (k : Int), .slice P pl cp, .int .i64 yn, .int .i64 yh, .slice Q ql cq] 36)) w5) := hide (by rw [hw5]; exact (Ext.refl _).drewN _); have HRC5 : Hid (Rc w1 w5 gm dg c i1 (10 + 60 * i1) (1 + 3 * i1) X D L H M vl lo rsS rsM) := hide ⟨HRC.out.log.ext_ HX5.out, HRC.out.mod.ext HX5.out, HRC.out.cb, HRC.out.g⟩; clear e0b; have e0 := (HBB.out.ext HX5.out).cell (i := 0) rfl; clear hw5))
                refine ⟨⟨i1, X, D, L, H, M, vl, lo, rsS, rsM, by first | rfl | rw [HQ9.out], rfl, hide (by have := HI1.out; have := HI6.out; omega), HRC5⟩, ?_⟩
                show 60 - ((i1 : Nat) : Int).toNat < 60 - ((i : Nat) : Int).toNat
                have := HI1.out
                have := HI6.out
                omega
          · -- nothing is done
            have HNO : Hid (D.off = true ∨ kk = 2) := hide (by
              cases h : D.off with
              | true => exact .inl rfl
              | false => exact .inr (Decidable.byContradiction fun h2 => hw ⟨h, h2⟩))
            have HRC : Hid (Rc w1 (wr.alloc (.cells #[.int .u8 (k : Int), .slice P pl cp, .int .i64 yn, .int .i64 yh, .slice Q ql cq] 36)) gm dg c i1 (10 + 60 * i1) (1 + 3 * i1) X D L H M vl lo rsS rsM) := hide ⟨HLB.out, HMB.out, HRR.out.cb.mono (by have := HIB.out; omega) (by have := HIB.out; omega) (by have := HIB.out; omega), HRR.out.g⟩
            have KON1 := hide (KON.out _ X D L HLB.out HRR.out.g)
            clear hw
            rcases HNO.out with hoff | hk2
            · rw [hoff] at KON1
              clear hoff
              have h34 : kk = 2 ∨ kk = 3 ∨ kk = 4 := by omega
              clear hR
              rcases h34 with h | h | h
              all_goals
               subst h
               have HQ9 : Hid (X.q = X.q) := hide rfl
               go_wp2_with (go_at_call 9; (with_reducible refine KON1.out.mono ?_); rintro e w5 ⟨rfl, rfl⟩)
               refine ⟨⟨i1, X, D, L, H, M, vl, lo, rsS, rsM, by first | rfl | rw [HQ9.out], rfl, hide (by have := HI1.out; have := HI6.out; omega), HRC⟩, ?_⟩
               show 60 - ((i1 : Nat) : Int).toNat < 60 - ((i : Nat) : Int).toNat
               have := HI1.out
               have := HI6.out
               omega
            · subst hk2
              have HQ9 : Hid (X.q = X.q) := hide rfl
              go_wp2
              refine ⟨⟨i1, X, D, L, H, M, vl, lo, rsS, rsM, by first | rfl | rw [HQ9.out], rfl, hide (by have := HI1.out; have := HI6.out; omega), HRC⟩, ?_⟩
              show 60 - ((i1 : Nat) : Int).toNat < 60 - ((i : Nat) : Int).toNat
              have := HI1.out
              have := HI6.out
              omega
    · by_cases h1 : i < n
      · have h1i : (i : Int) < (n : Int) := by omega
        have h2i : ¬ (i : Int) < 60 := by omega
        clear hgo
        go_wp2
        go_ret
        exact Ret.mk HXR.out rfl
      · have h1i : ¬ (i : Int) < (n : Int) := by omega
        clear hgo
        go_wp2
        go_ret
        exact Ret.mk HXR.out rfl
end
end Go.Proofs.YtdifpbicdicggaaDoor
namespace Go.Proofs.YtdifpbicdicggaaDoor
open Go.ChangeShapes Go.WideShapes Go.ChangeAt Go.RowKit

section
variable {H : Type} {enc : TypeId × Value → H} {W : World}
/-- What a slice of bytes reads as. -/
def BytesD (d : DataW H) (l : List UInt8) : Prop := (d = .nil ∧ l = []) ∨ ∃ elems spare, d = .slice elems spare ∧ elems.length = l.length
set_option maxRecDepth 100000 in
theorem bytes_open {n : Nat} {cs : List Value} {y : DataW H × List MemPlace} (hn : DataW.trod enc Tryd.prog W 0 (fun _ => true) true n 33 cs = some y) :
    ∃ A c l, cs = [.slice A l.length c] ∧ l.length ≤ c ∧ Rd W A l ∧ BytesD y.1 l := by
  rcases open_ints Tryd.underlying33 Tryd.underlying5 (by kernel_rfl) hn with ⟨hc, hx⟩ | ⟨a, len, cap, zs, hc, _, hlc, _, hz, hx, hcell, hwf⟩
  · subst hx
    exact ⟨none, 0, [], hc, Nat.le_refl _, Rd.nil _ _, .inl ⟨rfl, rfl⟩⟩
  · subst hx
    simp only [if_true] at hz
    have hlen : ((zs.take len).map b8).length = len := by simp; omega
    refine ⟨some a, cap, (zs.take len).map b8, by rw [hlen]; exact hc, by rw [hlen]; exact hlc, fun hn0 => ?_, .inr ⟨_, _, rfl, ?_⟩⟩
    · have hp : 0 < zs.length := by
        have : len ≠ 0 := by intro e; apply hn0; apply List.length_eq_zero_iff.1; rw [hlen, e]
        omega
      obtain ⟨b, off, rfl, hcl⟩ := ints_at hcell hp
      refine ⟨b, off, rfl, fun j u hu => ?_⟩
      have hj := (List.getElem?_eq_some_iff.1 hu).1
      rw [hlen] at hj
      rw [hcl j (by omega)]
      rw [List.getElem?_map, List.getElem?_take_of_lt hj, List.getElem?_eq_getElem (by omega)] at hu
      have hu' : b8 zs[j] = u := by simpa using hu
      have hw := bounds_u8 (hwf zs[j] (List.getElem_mem _))
      rw [← hu', b8_toNat hw.1 (by omega), List.getD_eq_getElem?_getD, List.getElem?_eq_getElem (by omega)]
      rfl
    · rw [hlen]; simp [lits]; omega
instance : Inhabited Al := ⟨⟨0, none, 0, [], 0, 0, none, 0, []⟩⟩
/-- What a call reads as. -/
def AcD (d : DataW H) (x : Al) : Prop := ∃ d0 d1 d2 d3 d4, d = .agg [d0, d1, d2, d3, d4] ∧ BytesD d1 x.p
set_option maxRecDepth 100000 in
theorem bools_open {n : Nat} {cs : List Value} {y : DataW H × List MemPlace} (hn : DataW.trod enc Tryd.prog W 0 (fun _ => true) true n 34 cs = some y) :
    ∃ A c l, cs = [.slice A l.length c] ∧ RdB W A l := by
  rcases Deep.open_bools Tryd.underlying34 Tryd.underlying4 (by kernel_rfl) hn with ⟨hc, hx⟩ | ⟨a, len', cap', B, hc, _, hlc, _, hx, hcell⟩
  · exact ⟨none, 0, [], hc, fun h => absurd rfl h⟩
  · have hlen : ((List.range len').map B).length = len' := by simp
    refine ⟨some a, cap', (List.range len').map B, by rw [hlen]; exact hc, fun hn0 => ?_⟩
    have hp : 0 < len' := by
      rcases Nat.eq_zero_or_pos len' with h | h
      · exfalso; apply hn0; rw [h]; rfl
      · exact h
    obtain ⟨b, off, spot⟩ := a
    have hspot : spot = none := by simpa [Addr.add] using World.cell?_spot (hcell 0 (by omega))
    subst hspot
    refine ⟨b, off, rfl, fun j u hu => ?_⟩
    have hj := (List.getElem?_eq_some_iff.1 hu).1
    rw [hlen] at hj
    rw [← Go.WideShapes.add_plain, hcell j (by omega)]
    rw [List.getElem?_map, List.getElem?_range hj] at hu
    have hu2 : B j = u := by simpa using hu
    rw [hu2]
/-- A call as the form hands it. -/
structure AcIn (W : World) (y : Al) : Prop where
  k : y.k < 256
  n : -9223372036854775808 ≤ y.n ∧ y.n < 9223372036854775808
  h : -9223372036854775808 ≤ y.h ∧ y.h < 9223372036854775808
  p : Rd W y.P y.p
  q : RdB W y.Q y.q
set_option maxRecDepth 100000 in
theorem act_open {n : Nat} {cs : List Value} {y : DataW H × List MemPlace} (h : DataW.trod enc Tryd.prog W 0 (fun _ => true) true n 36 cs = some y) :
    ∃ x : Al, cs = alCells x ∧ AcIn W x ∧ AcD y.1 x := by
  obtain ⟨xs, m, rfl, rfl, hl, hxl, hall⟩ := DataW.trod_struct Tryd.underlying36 h
  have hcl : cs.length = 5 := hl.trans (by kernel_rfl)
  match cs, hcl with
  | [v0, v1, v2, v3, v4], _ =>
    have hx2 : xs.length = 5 := hxl
    match xs, hx2 with
    | [y0, y1, y2, y3, y4], _ =>
      have e0 : DataW.trod enc Tryd.prog W 0 (fun _ => true) true m 5 [v0] = some y0 := hall 0 _ rfl
      have e1 : DataW.trod enc Tryd.prog W 0 (fun _ => true) true m 33 [v1] = some y1 := hall 1 _ rfl
      have e2 : DataW.trod enc Tryd.prog W 0 (fun _ => true) true m 3 [v2] = some y2 := hall 2 _ rfl
      have e3 : DataW.trod enc Tryd.prog W 0 (fun _ => true) true m 3 [v3] = some y3 := hall 3 _ rfl
      have e4 : DataW.trod enc Tryd.prog W 0 (fun _ => true) true m 34 [v4] = some y4 := hall 4 _ rfl
      obtain ⟨k, h0, _, w0⟩ := DataW.trod_int Tryd.underlying5 e0
      obtain ⟨P, cp, p, g1, -, r1, b1⟩ := bytes_open e1
      obtain ⟨n, h2, _, w2⟩ := DataW.trod_int Tryd.underlying3 e2
      obtain ⟨hh, h3, _, w3⟩ := DataW.trod_int Tryd.underlying3 e3
      obtain ⟨Q, cq, q, g4, r4⟩ := bools_open e4
      injection h0 with h0
      injection g1 with g1
      injection h2 with h2
      injection h3 with h3
      injection g4 with g4
      subst h0 g1 h2 h3 g4
      have b0 := bounds_u8 w0
      have b2 := bounds_i64 w2
      have b3 := bounds_i64 w3
      obtain ⟨k, rfl⟩ : ∃ u : Nat, k = (u : Int) := ⟨k.toNat, by omega⟩
      exact ⟨⟨k, P, cp, p, n, hh, Q, cq, q⟩, rfl, ⟨by show k < 256; omega, ⟨b2.1, by have := b2.2; show n < _; omega⟩, ⟨b3.1, by have := b3.2; show hh < _; omega⟩, r1, r4⟩, y0.1, y1.1, y2.1, y3.1, y4.1, rfl, b1⟩
/-- What a slice of calls reads as. -/
def ActsD (d : DataW H) (L : List Al) : Prop := (d = .nil ∧ L = []) ∨ ∃ elems spare, d = .slice elems spare ∧ elems.length = L.length ∧ ∀ (j : Nat) (x : Al), L[j]? = some x → ∃ e, elems[j]? = some e ∧ AcD e x
set_option maxRecDepth 100000 in
theorem acts_open {n : Nat} {cs : List Value} {y : DataW H × List MemPlace} (hn : DataW.trod enc Tryd.prog W 0 (fun _ => true) true n 22 cs = some y) :
    ∃ A c L, cs = [.slice A L.length c] ∧ RdAl W A L ∧ (∀ x ∈ L, AcIn W x) ∧ ActsD y.1 L := by
  rcases Deep.open_slice Tryd.underlying22 hn with ⟨hc, rfl⟩ | ⟨a, len, cap, m, n', D, Pl, hc, _, hlc, _, hm, rfl, hx⟩
  · exact ⟨none, 0, [], hc, fun h => absurd rfl h, fun _ h => (List.not_mem_nil h).elim, .inl ⟨rfl, rfl⟩⟩
  · simp only [if_true] at hm
    subst hm
    have hce : Tryd.prog.cellsOf 36 = 5 := by kernel_rfl
    rw [hce] at hx
    have each : ∀ i, i < m → ∃ x : Al, (∀ q v, (alCells x)[q]? = some v → W.cell? ((a.add (i * 5)).add q) = some v) ∧ AcIn W x ∧ AcD (D i) x := fun i hi => by
      obtain ⟨cs', h1, h2⟩ := hx i hi
      obtain ⟨x, rfl, hb, hd⟩ := act_open h2
      obtain ⟨_, _, hcc⟩ := World.cells?_some h1
      refine ⟨x, fun q v hq => ?_, hb, hd⟩
      have hql : q < 5 := (List.getElem?_eq_some_iff.1 hq).1
      have := hcc q (by simpa [alCells] using hql)
      rw [this]
      simpa using hq
    obtain ⟨X, hX⟩ := Deep.choose_lt each
    have hlen : ((List.range len).map X).length = len := by simp
    refine ⟨some a, m, (List.range len).map X, by rw [hlen]; exact hc, fun hn0 => ?_, fun x hx => ?_, .inr ⟨_, _, rfl, by simp, fun j x hj => ?_⟩⟩
    · have hp : 0 < len := by
        rcases Nat.eq_zero_or_pos len with h | h
        · exfalso; apply hn0; rw [h]; rfl
        · exact h
      obtain ⟨b, off, spot⟩ := a
      have hspot : spot = none := by
        have g1 := (hX 0 (by omega)).1 0 _ rfl
        simpa [Addr.add] using World.cell?_spot g1
      subst hspot
      refine ⟨b, off, rfl, fun j x hj => ?_⟩
      have hjl := (List.getElem?_eq_some_iff.1 hj).1
      rw [hlen] at hjl
      rw [List.getElem?_map, List.getElem?_range hjl] at hj
      have hj2 : X j = x := by simpa using hj
      have g1 := (hX j (by omega)).1
      rw [hj2] at g1
      intro q v hq
      have g2 := g1 q v hq
      rw [add_flat, add_flat] at g2
      exact g2
    · obtain ⟨i, hi, rfl⟩ := List.mem_map.1 hx
      exact (hX i (by have := List.mem_range.1 hi; omega)).2.1
    · have hjl := (List.getElem?_eq_some_iff.1 hj).1
      rw [hlen] at hjl
      rw [List.getElem?_map, List.getElem?_range hjl] at hj
      have hj2 : X j = x := by simpa using hj
      refine ⟨D j, by rw [List.getElem?_map, List.getElem?_range hjl]; rfl, ?_⟩
      rw [← hj2]
      exact (hX j (by omega)).2.2
set_option maxRecDepth 100000 in
/-- An argument that is a slice of calls. -/
theorem open_acts {base : Nat} {v : Value} {d : DataW H} {ps : List MemPlace} (hval : Value.okWide Tryd.prog W .any base 22 v)
    (h : DataW.Trod enc Tryd.prog W 0 (fun _ => true) true 22 v d ps) : ∃ A c L, v = .slice A L.length c ∧ RdAl W A L ∧ (∀ x ∈ L, AcIn W x) ∧ ActsD d L := by
  obtain ⟨a0, len, cap, rfl⟩ := okWide_slice Tryd.underlying22 hval
  obtain ⟨n, hn⟩ := h
  obtain ⟨A, c, L, hc, h1, h2, h3⟩ := acts_open hn
  have e : (Value.slice a0 len cap) = .slice A L.length c := by
    have : [Value.slice a0 len cap] = [Value.slice A L.length c] := hc
    injection this
  exact ⟨A, c, L, e, h1, h2, h3⟩
theorem weights_all {P : Program} {e : TypeId} : ∀ {l : List (DataW H)} {d : DataW H}, d ∈ l → ∀ n ∈ d.weights P e, n ∈ DataW.weightsAll P e l
  | [], _, h, _, _ => by cases h
  | x :: r, d, h, n, hn => by
    simp only [DataW.weightsAll, List.mem_append]
    rcases List.mem_cons.1 h with rfl | h
    · exact .inl hn
    · exact .inr (weights_all h n hn)
set_option maxRecDepth 100000 in
theorem bytes_small {d : DataW H} {l : List UInt8} (h : BytesD d l) (hw : ∀ n ∈ d.weights Tryd.prog 33, n ≤ reachBytes) : l.length ≤ 140737488351232 := by
  rcases h with ⟨_, rfl⟩ | ⟨elems, spare, rfl, hl⟩
  · exact Nat.zero_le _
  · have h1 := hw ((elems.length + spare.length) * Tryd.prog.bytesOf 5) (by simp [DataW.weights, Tryd.underlying33])
    have e : Tryd.prog.bytesOf 5 = 1 := by kernel_rfl
    rw [e] at h1
    unfold reachBytes at h1
    omega
set_option maxRecDepth 100000 in
theorem act_small {d : DataW H} {x : Al} (h : AcD d x) (hw : ∀ n ∈ d.weights Tryd.prog 36, n ≤ reachBytes) : x.p.length ≤ 140737488351232 := by
  obtain ⟨d0, d1, d2, d3, d4, rfl, b2⟩ := h
  have e : DataW.weights Tryd.prog 36 (.agg [d0, d1, d2, d3, d4] : DataW H) = d0.weights Tryd.prog 5 ++ (d1.weights Tryd.prog 33 ++ (d2.weights Tryd.prog 3 ++ (d3.weights Tryd.prog 3 ++ (d4.weights Tryd.prog 34 ++ [])))) := by
    simp [DataW.weights, Tryd.underlying36, DataW.weightsEach]
  rw [e] at hw
  exact bytes_small b2 (fun n hn => hw n (List.mem_append_right _ (List.mem_append_left _ hn)))
set_option maxRecDepth 100000 in
theorem acts_small {d : DataW H} {L : List Al} (h : ActsD d L) (hw : ∀ n ∈ d.weights Tryd.prog 22, n ≤ reachBytes) : ∀ x ∈ L, x.p.length ≤ 140737488351232 := by
  rcases h with ⟨_, rfl⟩ | ⟨elems, spare, rfl, hl, hall⟩
  · exact fun x hx => by cases hx
  · intro x hx
    obtain ⟨j, hj⟩ := List.mem_iff_getElem?.1 hx
    obtain ⟨e, he, hd⟩ := hall j x hj
    refine act_small hd (fun n hn => hw n ?_)
    simp only [DataW.weights, Tryd.underlying22]
    exact List.mem_cons_of_mem _ (List.mem_append_left _ (weights_all (List.mem_of_getElem? he) n hn))
theorem arg_small {P : Program} {ts : List TypeId} {ds : List (DataW H)} {j : Nat} {t : TypeId} {d : DataW H} (hz : (DataW.weightsEach P ts ds).all (· ≤ reachBytes) = true) (ht : ts[j]? = some t) (hd : ds[j]? = some d) : ∀ n ∈ d.weights P t, n ≤ reachBytes := fun n hn => by
  have := List.all_eq_true.1 hz _ (DataW.weights_mem_each ht hd n hn)
  simpa using this
set_option maxRecDepth 100000 in
/-- So many calls there may be. -/
theorem acts_many {d : DataW H} {L : List Al} (h : ActsD d L) (hw : ∀ n ∈ d.weights Tryd.prog 22, n ≤ reachBytes) : L.length ≤ 4398046511104 := by
  rcases h with ⟨_, rfl⟩ | ⟨elems, spare, rfl, hl, _⟩
  · exact Nat.zero_le _
  · have h1 := hw ((elems.length + spare.length) * Tryd.prog.bytesOf 36) (by simp [DataW.weights, Tryd.underlying22])
    have e : Tryd.prog.bytesOf 36 = 72 := by kernel_rfl
    rw [e] at h1
    unfold reachBytes at h1
    omega
theorem acts_ok {L : List Al} (h : ∀ x ∈ L, AcIn W x) (hs : ∀ x ∈ L, x.p.length ≤ 140737488351232) : ∀ y ∈ L, AlOk W y := fun y hy => ⟨(h y hy).k, (h y hy).n, (h y hy).h, (h y hy).p, hs y hy, (h y hy).q⟩
end
theorem crashes_int {w : World} (a : Int) (A : Option Addr) (L : List Al) (c : Nat) (hT : Tab w) (h1 : 0 ≤ a ∧ a ≤ 255) (hA : RdAl w A L) (hml : L.length ≤ 4398046511104) (hy : ∀ y ∈ L, AlOk w y) :
    Calls Tryd.prog 3 #[.int .u8 a, .slice A L.length c] w (Ret w (Is (.bool true))) := by
  obtain ⟨x, rfl⟩ : ∃ x : Nat, a = (x : Int) := ⟨a.toNat, by omega⟩
  exact logCrashes_walk x A L L.length c (by omega) hA rfl (by omega) hy hT
end Go.Proofs.YtdifpbicdicggaaDoor
namespace Go.Proofs.YtdifpbicdicggaaDoor.lawLogCrashes
open Go.ChangeShapes Go.WideShapes Go.ChangeAt Go.RowKit
open Go.ChangeMaps (open_string)

set_option maxRecDepth 100000 in
theorem contract (H : Type) (enc : TypeId × Value → H) (W : World) (base : Nat) (args : Array Value) (ds gs : List (DataW H)) (before : List MemPlace)
    (hval : ∀ (j : Nat) t v, Tryd.f3.params[j]? = some t → args[j]? = some v → Value.okWide Tryd.prog W .any base t v)
    (hW : DataW.Whole enc Tryd.prog Tryd.f3.params.toList Rows.logCrashesSpec.vars false W args.toList ds gs before) (hz : (DataW.weightsEach Tryd.prog (Tryd.f3.params.toList ++ (OpenSpec.ofChange Rows.logCrashesSpec).bare.plain.varTypes Tryd.prog) (ds ++ gs)).all (· ≤ reachBytes) = true) (hL : laidMetH Tryd.prog Rows.logCrashesRow.laid W) :
    Calls Tryd.prog 3 args W fun e W' => ∃ v, e = .returned v ∧ Rows.logCrashesSpec.post enc Tryd.prog Tryd.f3 false true false false W args v W' := by
  have hW' := hW
  obtain ⟨p, q, hA0, hV, hbe, hfz, hnd⟩ := hW
  have hA : DataW.TrodAll enc Tryd.prog W 0 (fun _ => true) true Tryd.f3.params.toList args.toList ds p := hA0
  obtain ⟨rfl, rfl⟩ := trodVars_none hV
  rw [Tryd.params3] at hA hval
  obtain ⟨v0, vs0, d0, ds0, p0, q0, hg0, hd0, hp0, h0, r0⟩ := trodAll_cons hA
  obtain ⟨v1, vs1, d1, ds1, p1, q1, hg1, hd1, hp1, h1, r1⟩ := trodAll_cons r0
  obtain ⟨e1, e2, e3⟩ := trodAll_nil r1
  have hds : ds = [d0, d1] := by simp [hd0, hd1, e2]
  obtain rfl : args = #[v0, v1] := by
    have : args.toList = [v0, v1] := by simp [hg0, hg1, e1]
    exact Array.toList_inj.1 this
  subst hds
  obtain ⟨n0, rfl, hd0, -, wf0⟩ := open_int Tryd.underlying5 (hval 0 5 v0 rfl rfl) h0
  have hb0 := bounds_u8 wf0
  obtain ⟨A1, c1, l1, rfl, hr1, hy1, hd1⟩ := open_acts (hval 1 22 v1 rfl rfl) h1
  have ho1 := acts_ok hy1 (acts_small hd1 (arg_small hz (j := 1) rfl rfl))
  have hm1 := acts_many hd1 (arg_small hz (j := 1) rfl rfl)
  have ht := tab_of_laid hL
  refine (crashes_int n0 A1 l1 c1 ht hb0 hr1 hm1 ho1).mono fun e W' ⟨v, he, hx, hv⟩ => ?_
  subst he
  have hv' : v = .bool true := hv
  subst hv'
  exact ⟨_, rfl, law_post laidOut hW' rfl (by rw [Tryd.params3]; exact readable_all _ (by kernel_rfl)) (by kernel_rfl) Tryd.underlying4 rfl hx⟩

theorem laid_met (os : Os) : laidMet Tryd.prog Rows.logCrashesRow.laid ((laidWorld os).forCall (fun _ _ => 0) ⟨#[], #[Value.int .u8 0, Value.slice none 0 0], []⟩).memory :=
  laidMet_of_run' 8 (by kernel_rfl) (by kernel_rfl)
theorem reads (os : Os) {H : Type} (enc : TypeId × Value → H) : ∃ places, DataW.whole enc Tryd.prog ((laidWorld os).forCall (fun _ _ => 0) ⟨#[], #[Value.int .u8 0, Value.slice none 0 0], []⟩).memory Tryd.f3.params.toList Rows.logCrashesSpec.vars false (#[Value.int .u8 0, Value.slice none 0 0]).toList 8 = some ([.lit (.int .u8 0), .nil], [], places) :=
  ⟨[], by kernel_rfl⟩

set_option maxRecDepth 100000 in
theorem lifted (os : Os) (started : os.Started) (H : Type) (enc : TypeId × Value → H) (F : Stop.Interp) :
    ReturnsInHanded {} Tryd.checked os 3 .any ((OpenSpec.ofChange Rows.logCrashesSpec).preRow enc Tryd.prog Tryd.f3 Rows.logCrashesRow.domain false Rows.logCrashesRow.laid) (((OpenSpec.ofChange Rows.logCrashesSpec).at F).post enc Tryd.prog Tryd.f3 false true false false) := by
  obtain ⟨places, hx⟩ := reads os enc
  refine returnsInHanded_of_row (C := Tryd.checked) (s := (OpenSpec.ofChange Rows.logCrashesSpec)) own started (by kernel_rfl) Tryd.func3
    (witness_row_at (enc := enc) (C := Tryd.checked) false (laidWorld os) #[Value.int .u8 0, Value.slice none 0 0] rfl (by kernel_rfl) (by kernel_rfl) (by kernel_rfl)
      (OpenSpec.preRow_of_cond 8 hx (by kernel_rfl) (fun k hk => by cases hk) (by kernel_rfl) (laid_met os))) ?_
  intro W base args ds gs before hval hW _ hcond hz hL _ _
  exact contract H enc W base args ds gs before hval hW hz hL

theorem said : Rows.LogCrashesSaid :=
  OpenClaim.holds_of_cond 3 Tryd.f3 rfl rfl rfl rfl rfl rfl rfl ⟨rfl, rfl, rfl, rfl, rfl⟩ rfl rfl rfl rfl rfl (by kernel_rfl) Tryd.func3 (by kernel_rfl)
    (of_decide_eq_true (by kernel_rfl)) (by unfold Func.isWrapper; first | (rw [if_pos (by decide +kernel)]; kernel_rfl) | (rw [if_neg (by decide +kernel)]; exact ⟨rfl, rfl⟩))
    (fun os started H enc _ F => by rw [OpenClaim.pre_eq_preRow]; exact lifted os started H enc F)

theorem plain (f : FuncId) (fn : Func) (hf : Tryd.pinned.checked.prog.funcNamed "muniment/munimentlaw09.LogCrashes" = some f) (hfn : Tryd.pinned.checked.prog.funcs[f]? = some fn) :
    Rows.logCrashesCard.stood.looks = Tryd.pinned.checked.prog.looks [] ∧ ∀ (j : Nat) t, fn.params[j]? = some t → Tryd.pinned.checked.prog.wantsStandIn t = false := by
  obtain rfl : f = 3 := Option.some.inj ((show Tryd.prog.funcNamed "muniment/munimentlaw09.LogCrashes" = some 3 by kernel_rfl).symm.trans hf) |>.symm
  obtain rfl : fn = Tryd.f3 := (Option.some.inj (Tryd.func3.symm.trans hfn)).symm
  refine ⟨by kernel_rfl, fun j t ht => ?_⟩
  have h := (show (Tryd.f3.params.toList.all fun t => !Tryd.prog.wantsStandIn t) = true by kernel_rfl)
  have h2 := List.all_eq_true.1 h t (by simpa using Array.mem_of_getElem? ht)
  have h3 : Tryd.prog.wantsStandIn t = false := by simpa using h2
  exact h3

/-- The card. -/
theorem card : Rows.LogCrashesCardSaid :=
  Claim7.holds_tied_plain_at .later [] _ _ _ _ said (fun _ h => by cases h) (by kernel_rfl) (fun _ h => by cases h) logCrashes_row_tie rfl ⟨rfl, rfl⟩ (by kernel_rfl) rfl plain (by kernel_rfl)
end Go.Proofs.YtdifpbicdicggaaDoor.lawLogCrashes
namespace Go.Proofs.YtdifpbicdicggaaDoor
open Go.RowKit

section
variable {w0 w : World} {X : Bk} {D : Dk} {L : Lg}
theorem spend_nil (P : Option Addr) (n c : Nat) : Calls Tryd.prog 24 #[.pointer none, .slice P n c] w (Same w (.tuple #[.int .u64 0, .int .i64 6])) := by
  go_enter Tryd.func24, Tryd.ntmps24
  go_wp2
  go_ret2
  exact ⟨rfl, rfl⟩
theorem flush_nil : Calls Tryd.prog 12 #[.pointer none] w (Same w (.int .i64 6)) := by
  go_enter Tryd.func12, Tryd.ntmps12
  go_wp2
  go_ret
  exact ⟨rfl, rfl⟩
theorem mark_nil (a b : Int) : Calls Tryd.prog 14 #[.pointer none, .int .u64 a, .int .u64 b] w (Same w (.int .i64 6)) := by
  go_enter Tryd.func14, Tryd.ntmps14
  go_wp2
  go_ret
  exact ⟨rfl, rfl⟩
theorem release_nil (a : Int) : Calls Tryd.prog 22 #[.pointer none, .int .i64 a] w (Same w (.int .i64 6)) := by
  go_enter Tryd.func22, Tryd.ntmps22
  go_wp2
  go_ret
  exact ⟨rfl, rfl⟩
theorem sure_nil : Calls Tryd.prog 26 #[.pointer none] w (Same w (.int .u64 0)) := by
  go_enter Tryd.func26, Tryd.ntmps26
  go_wp2
  go_ret
  exact ⟨rfl, rfl⟩
theorem start_nil : Calls Tryd.prog 27 #[.pointer none] w (Same w (.int .u64 0)) := by
  go_enter Tryd.func27, Tryd.ntmps27
  go_wp2
  go_ret
  exact ⟨rfl, rfl⟩
theorem check_nil : Calls Tryd.prog 28 #[.pointer none] w (Same w (.int .u64 0)) := by
  go_enter Tryd.func28, Tryd.ntmps28
  go_wp2
  go_ret
  exact ⟨rfl, rfl⟩
theorem held_nil : Calls Tryd.prog 30 #[.pointer none] w (Same w (.int .i64 0)) := by
  go_enter Tryd.func30, Tryd.ntmps30
  go_wp2
  go_ret
  exact ⟨rfl, rfl⟩
theorem format_nil (at_ count : Int) : Calls Tryd.prog 20 #[.pointer none, .int .i64 at_, .int .i64 count] w (Same w (.int .i64 6)) := by
  have KF := hide (fits_nil (w := w) at_ count)
  go_enter Tryd.func20, Tryd.ntmps20
  go_wp2_with (go_at_call 42; (with_reducible refine KF.out.mono ?_); rintro e w2 ⟨rfl, rfl⟩)
  go_ret
  exact ⟨rfl, rfl⟩
theorem release_bad (h : LgAt w0 w X D L) (k : Int) (hk : (L.held : Int) < k) : Calls Tryd.prog 22 #[.pointer (some ⟨X.q, 0, none⟩), .int .i64 k] w (Same w (.int .i64 1)) := by
  have c10 := h.blk.cell (i := 10) rfl
  have hk0 : ¬ k < 0 := by omega
  clear h
  go_enter Tryd.func22, Tryd.ntmps22
  go_wp2
  go_ret
  exact ⟨rfl, rfl⟩
end
end Go.Proofs.YtdifpbicdicggaaDoor
namespace Go.Proofs.YtdifpbicdicggaaDoor
open Go.RowKit

theorem unsE_zero2 : unsE 1 (List.replicate 512 0) = 3 ∨ unsE 1 (List.replicate 512 0) = 15 := by
  unfold unsE
  split
  · exact .inl rfl
  · exact .inr rfl
section
variable {w0 w : World} {X : Bk} {D : Dk} {L : Lg}
/-- What the calls before leave where there can't be a log. -/
theorem none_log (n : Nat) (hn1 : 1 ≤ n) (hn2 : n ≤ 4096) (at_ count : Int) (h1 : -9223372036854775808 ≤ at_ ∧ at_ < 9223372036854775808) (h2 : -9223372036854775808 ≤ count ∧ count < 9223372036854775808) (hf : fitsE n at_ count = 1) (hT : Tab w) :
    Hid (∀ w1 w2 g gd gn, Ext w w1 → Ext w1 w2 → DiskAt w1.heap.size w2 g gd gn none 0 (D0 n) → Calls Tryd.prog 20 #[.pointer (some ⟨g, 0, none⟩), .int .i64 at_, .int .i64 count] w2 (DPost w1.heap.size g gd gn w2 none (.int .i64 1) (D0 n))) ∧
    Hid (∀ w1 w2 g gd gn A c, Ext w w1 → Ext w1 w2 → DiskAt w1.heap.size w2 g gd gn A c (D0 n) → Calls Tryd.prog 17 #[.pointer (some ⟨g, 0, none⟩), .int .i64 at_, .int .i64 count] w2 (DPost w1.heap.size g gd gn w2 A (.tuple #[.pointer none, .int .i64 1]) (D0 n))) := by
  have hl : (D0 n).dur.length = n := D0_len n
  refine ⟨hide fun w1 w2 g gd gn hx hx2 hd => ?_, hide fun w1 w2 g gd gn A c hx hx2 hd => ?_⟩
  · have k := format_any hx2 hd (D0_bd hn1 hn2) (by show (0 : Nat) < _; decide) (by show (0 : Nat) < _; decide) (hT.ext hx) at_ count h1 h2
    rw [show fmtE (D0 n) at_ count = 1 by unfold fmtE; rw [hl, hf]; rfl, show fmtD (D0 n) at_ count = D0 n by unfold fmtD; rw [hl, hf]; rfl] at k
    exact k
  · have hh : rhE (D0 n) at_ ≠ 0 := by
      unfold rhE
      split
      · rename_i h; exact h
      · rename_i h
        have hg : gE (D0 n) at_ = 0 := by simpa using h
        have hin : 0 ≤ at_ ∧ at_ < (n : Int) := by
          unfold gE at hg
          split at hg
          · cases hg
          · rw [hl] at *; omega
        obtain ⟨a, rfl⟩ : ∃ a : Nat, at_ = (a : Int) := ⟨at_.toNat, by omega⟩
        have e0 : D0 n = ⟨zS n, [], 0, 0, false⟩ := rfl
        rw [e0, gB_still (by rw [zS_len]; omega), zS_get (by omega)]
        exact unsE_zero 1 (by decide)
    have hH : rhH (D0 n) at_ = hd0 := by unfold rhH; rw [if_neg hh]
    have k := open_any hx2 hd (D0_bd hn1 hn2) (by show (0 : Nat) < _; decide) (by show (0 : Nat) < _; decide) (hT.ext hx) at_ count h1 h2 (by rw [hH]; decide) (by rw [hH]; decide)
    rw [show opE (D0 n) at_ count = 1 by unfold opE; rw [hl, hf]; rfl, show opD (D0 n) at_ count = D0 n by unfold opD; rw [hl, hf]; rfl] at k
    exact k.mono fun e w' hp => hp.2 (by decide)
set_option maxRecDepth 20000 in
set_option maxHeartbeats 3200000 in
theorem errs_a (n : Nat) (hn1 : 1 ≤ n) (hn2 : n ≤ 100) (at_ count : Int) (h1 : -9223372036854775808 ≤ at_ ∧ at_ < 9223372036854775808) (h2 : -9223372036854775808 ≤ count ∧ count < 9223372036854775808) (ha : at_ < 0) (P : Option Addr) (np cp : Nat) (hT : Tab w) :
    Calls Tryd.prog 4 #[.int .i64 (n : Int), .int .i64 at_, .int .i64 count, .slice P np cp] w (Ret w (Is (.bool true))) := by
  obtain ⟨KF, KO⟩ := none_log (w := w) n hn1 (by omega) at_ count h1 h2 (by unfold fitsE; rw [if_pos (by omega)]) hT
  have KA := hide (fun (W : World) (hW : Ext w W) => awake_any W (hT.ext hW))
  have KN := hide (fun (W : World) => new_any n hn1 (by omega) W)
  have hni1 : ¬ (n : Int) < 1 := by omega
  have hni2 : ¬ (100 : Int) < (n : Int) := by omega
  clear hn1 hn2 h1 h2 hT
  go_enter Tryd.func4, Tryd.ntmps4
  go_wp2_with (first
    | (go_at_call 7; (with_reducible refine (KA.out w (Ext.refl w)).mono ?_); rintro e w1 ⟨rfl, hx1⟩; have HX1 := hide hx1; clear hx1)
    | (go_at_call 19; (with_reducible refine (KN.out w1).mono ?_); rintro e w2 ⟨g, gd, gn, rfl, hd2, hx2⟩; have HD2 := hide hd2; have HX2 : Hid (Ext w1 w2) := hide hx2; clear hd2 hx2)
    | (go_at_call 20; (with_reducible refine (KF.out w1 w2 g gd gn HX1.out HX2.out HD2.out).mono ?_); rintro e w3 ⟨A3, c3, rfl, hd3, hf3, hn3⟩; have HD3 := hide hd3; have HX3 : Hid (Ext w1 w3) := hide (Dfr.grown HX2.out HD2.out hf3); clear hd3 hf3 hn3)
    | (go_at_call 17; (with_reducible refine (KO.out w1 w3 g gd gn A3 c3 HX1.out HX3.out HD3.out).mono ?_); rintro e w4 ⟨A4, c4, rfl, hd4, hf4, hn4⟩; have HX4 : Hid (Ext w1 w4) := hide (Dfr.grown HX3.out HD3.out hf4); clear hd4 hf4 hn4)
    | (go_at_call 23; (with_reducible refine (append_nil _ _ _ _).mono ?_); rintro e wz ⟨rfl, rfl⟩)
    | (go_at_call 24; (with_reducible refine (spend_nil _ _ _).mono ?_); rintro e wz ⟨rfl, rfl⟩)
    | (go_at_call 25; (with_reducible refine (read_nil_log _).mono ?_); rintro e wz ⟨rfl, rfl⟩)
    | (go_at_call 17; (with_reducible refine (open_nil _ _).mono ?_); rintro e wz ⟨rfl, rfl⟩)
    | (go_at_call 20; (with_reducible refine (format_nil _ _).mono ?_); rintro e wz ⟨rfl, rfl⟩)
    | (go_at_call 12; (with_reducible refine flush_nil.mono ?_); rintro e wz ⟨rfl, rfl⟩)
    | (go_at_call 14; (with_reducible refine (mark_nil _ _).mono ?_); rintro e wz ⟨rfl, rfl⟩)
    | (go_at_call 22; (with_reducible refine (release_nil _).mono ?_); rintro e wz ⟨rfl, rfl⟩)
    | (go_at_call 15; (with_reducible refine end_nil.mono ?_); rintro e wz ⟨rfl, rfl⟩)
    | (go_at_call 26; (with_reducible refine sure_nil.mono ?_); rintro e wz ⟨rfl, rfl⟩)
    | (go_at_call 27; (with_reducible refine start_nil.mono ?_); rintro e wz ⟨rfl, rfl⟩)
    | (go_at_call 28; (with_reducible refine check_nil.mono ?_); rintro e wz ⟨rfl, rfl⟩)
    | (go_at_call 29; (with_reducible refine room_nil.mono ?_); rintro e wz ⟨rfl, rfl⟩)
    | (go_at_call 30; (with_reducible refine held_nil.mono ?_); rintro e wz ⟨rfl, rfl⟩))
  go_ret
  exact Ret.mk (HX1.out.trans HX4.out) rfl
set_option maxRecDepth 20000 in
set_option maxHeartbeats 3200000 in
theorem errs_b (n : Nat) (hn1 : 1 ≤ n) (hn2 : n ≤ 100) (at_ count : Int) (h1 : -9223372036854775808 ≤ at_ ∧ at_ < 9223372036854775808) (h2 : -9223372036854775808 ≤ count ∧ count < 9223372036854775808) (ha : ¬ at_ < 0) (hb : count < 4) (P : Option Addr) (np cp : Nat) (hT : Tab w) :
    Calls Tryd.prog 4 #[.int .i64 (n : Int), .int .i64 at_, .int .i64 count, .slice P np cp] w (Ret w (Is (.bool true))) := by
  obtain ⟨KF, KO⟩ := none_log (w := w) n hn1 (by omega) at_ count h1 h2 (by unfold fitsE; rw [if_pos (by omega)]) hT
  have KA := hide (fun (W : World) (hW : Ext w W) => awake_any W (hT.ext hW))
  have KN := hide (fun (W : World) => new_any n hn1 (by omega) W)
  have hni1 : ¬ (n : Int) < 1 := by omega
  have hni2 : ¬ (100 : Int) < (n : Int) := by omega
  clear hn1 hn2 h1 h2 hT
  go_enter Tryd.func4, Tryd.ntmps4
  go_wp2_with (first
    | (go_at_call 7; (with_reducible refine (KA.out w (Ext.refl w)).mono ?_); rintro e w1 ⟨rfl, hx1⟩; have HX1 := hide hx1; clear hx1)
    | (go_at_call 19; (with_reducible refine (KN.out w1).mono ?_); rintro e w2 ⟨g, gd, gn, rfl, hd2, hx2⟩; have HD2 := hide hd2; have HX2 : Hid (Ext w1 w2) := hide hx2; clear hd2 hx2)
    | (go_at_call 20; (with_reducible refine (KF.out w1 w2 g gd gn HX1.out HX2.out HD2.out).mono ?_); rintro e w3 ⟨A3, c3, rfl, hd3, hf3, hn3⟩; have HD3 := hide hd3; have HX3 : Hid (Ext w1 w3) := hide (Dfr.grown HX2.out HD2.out hf3); clear hd3 hf3 hn3)
    | (go_at_call 17; (with_reducible refine (KO.out w1 w3 g gd gn A3 c3 HX1.out HX3.out HD3.out).mono ?_); rintro e w4 ⟨A4, c4, rfl, hd4, hf4, hn4⟩; have HX4 : Hid (Ext w1 w4) := hide (Dfr.grown HX3.out HD3.out hf4); clear hd4 hf4 hn4)
    | (go_at_call 23; (with_reducible refine (append_nil _ _ _ _).mono ?_); rintro e wz ⟨rfl, rfl⟩)
    | (go_at_call 24; (with_reducible refine (spend_nil _ _ _).mono ?_); rintro e wz ⟨rfl, rfl⟩)
    | (go_at_call 25; (with_reducible refine (read_nil_log _).mono ?_); rintro e wz ⟨rfl, rfl⟩)
    | (go_at_call 17; (with_reducible refine (open_nil _ _).mono ?_); rintro e wz ⟨rfl, rfl⟩)
    | (go_at_call 20; (with_reducible refine (format_nil _ _).mono ?_); rintro e wz ⟨rfl, rfl⟩)
    | (go_at_call 12; (with_reducible refine flush_nil.mono ?_); rintro e wz ⟨rfl, rfl⟩)
    | (go_at_call 14; (with_reducible refine (mark_nil _ _).mono ?_); rintro e wz ⟨rfl, rfl⟩)
    | (go_at_call 22; (with_reducible refine (release_nil _).mono ?_); rintro e wz ⟨rfl, rfl⟩)
    | (go_at_call 15; (with_reducible refine end_nil.mono ?_); rintro e wz ⟨rfl, rfl⟩)
    | (go_at_call 26; (with_reducible refine sure_nil.mono ?_); rintro e wz ⟨rfl, rfl⟩)
    | (go_at_call 27; (with_reducible refine start_nil.mono ?_); rintro e wz ⟨rfl, rfl⟩)
    | (go_at_call 28; (with_reducible refine check_nil.mono ?_); rintro e wz ⟨rfl, rfl⟩)
    | (go_at_call 29; (with_reducible refine room_nil.mono ?_); rintro e wz ⟨rfl, rfl⟩)
    | (go_at_call 30; (with_reducible refine held_nil.mono ?_); rintro e wz ⟨rfl, rfl⟩))
  go_ret
  exact Ret.mk (HX1.out.trans HX4.out) rfl
set_option maxRecDepth 20000 in
set_option maxHeartbeats 3200000 in
theorem errs_c (n : Nat) (hn1 : 1 ≤ n) (hn2 : n ≤ 100) (at_ count : Int) (h1 : -9223372036854775808 ≤ at_ ∧ at_ < 9223372036854775808) (h2 : -9223372036854775808 ≤ count ∧ count < 9223372036854775808) (ha : ¬ at_ < 0) (hb : ¬ count < 4) (hc : 4096 < count) (P : Option Addr) (np cp : Nat) (hT : Tab w) :
    Calls Tryd.prog 4 #[.int .i64 (n : Int), .int .i64 at_, .int .i64 count, .slice P np cp] w (Ret w (Is (.bool true))) := by
  obtain ⟨KF, KO⟩ := none_log (w := w) n hn1 (by omega) at_ count h1 h2 (by unfold fitsE; rw [if_pos (by omega)]) hT
  have KA := hide (fun (W : World) (hW : Ext w W) => awake_any W (hT.ext hW))
  have KN := hide (fun (W : World) => new_any n hn1 (by omega) W)
  have hni1 : ¬ (n : Int) < 1 := by omega
  have hni2 : ¬ (100 : Int) < (n : Int) := by omega
  clear hn1 hn2 h1 h2 hT
  go_enter Tryd.func4, Tryd.ntmps4
  go_wp2_with (first
    | (go_at_call 7; (with_reducible refine (KA.out w (Ext.refl w)).mono ?_); rintro e w1 ⟨rfl, hx1⟩; have HX1 := hide hx1; clear hx1)
    | (go_at_call 19; (with_reducible refine (KN.out w1).mono ?_); rintro e w2 ⟨g, gd, gn, rfl, hd2, hx2⟩; have HD2 := hide hd2; have HX2 : Hid (Ext w1 w2) := hide hx2; clear hd2 hx2)
    | (go_at_call 20; (with_reducible refine (KF.out w1 w2 g gd gn HX1.out HX2.out HD2.out).mono ?_); rintro e w3 ⟨A3, c3, rfl, hd3, hf3, hn3⟩; have HD3 := hide hd3; have HX3 : Hid (Ext w1 w3) := hide (Dfr.grown HX2.out HD2.out hf3); clear hd3 hf3 hn3)
    | (go_at_call 17; (with_reducible refine (KO.out w1 w3 g gd gn A3 c3 HX1.out HX3.out HD3.out).mono ?_); rintro e w4 ⟨A4, c4, rfl, hd4, hf4, hn4⟩; have HX4 : Hid (Ext w1 w4) := hide (Dfr.grown HX3.out HD3.out hf4); clear hd4 hf4 hn4)
    | (go_at_call 23; (with_reducible refine (append_nil _ _ _ _).mono ?_); rintro e wz ⟨rfl, rfl⟩)
    | (go_at_call 24; (with_reducible refine (spend_nil _ _ _).mono ?_); rintro e wz ⟨rfl, rfl⟩)
    | (go_at_call 25; (with_reducible refine (read_nil_log _).mono ?_); rintro e wz ⟨rfl, rfl⟩)
    | (go_at_call 17; (with_reducible refine (open_nil _ _).mono ?_); rintro e wz ⟨rfl, rfl⟩)
    | (go_at_call 20; (with_reducible refine (format_nil _ _).mono ?_); rintro e wz ⟨rfl, rfl⟩)
    | (go_at_call 12; (with_reducible refine flush_nil.mono ?_); rintro e wz ⟨rfl, rfl⟩)
    | (go_at_call 14; (with_reducible refine (mark_nil _ _).mono ?_); rintro e wz ⟨rfl, rfl⟩)
    | (go_at_call 22; (with_reducible refine (release_nil _).mono ?_); rintro e wz ⟨rfl, rfl⟩)
    | (go_at_call 15; (with_reducible refine end_nil.mono ?_); rintro e wz ⟨rfl, rfl⟩)
    | (go_at_call 26; (with_reducible refine sure_nil.mono ?_); rintro e wz ⟨rfl, rfl⟩)
    | (go_at_call 27; (with_reducible refine start_nil.mono ?_); rintro e wz ⟨rfl, rfl⟩)
    | (go_at_call 28; (with_reducible refine check_nil.mono ?_); rintro e wz ⟨rfl, rfl⟩)
    | (go_at_call 29; (with_reducible refine room_nil.mono ?_); rintro e wz ⟨rfl, rfl⟩)
    | (go_at_call 30; (with_reducible refine held_nil.mono ?_); rintro e wz ⟨rfl, rfl⟩))
  go_ret
  exact Ret.mk (HX1.out.trans HX4.out) rfl
set_option maxRecDepth 20000 in
set_option maxHeartbeats 3200000 in
theorem errs_d (n : Nat) (hn1 : 1 ≤ n) (hn2 : n ≤ 100) (at_ count : Int) (h1 : -9223372036854775808 ≤ at_ ∧ at_ < 9223372036854775808) (h2 : -9223372036854775808 ≤ count ∧ count < 9223372036854775808) (ha : ¬ at_ < 0) (hb : ¬ count < 4) (hc : ¬ 4096 < count) (hd : (n : Int) - 1 - count < at_) (P : Option Addr) (np cp : Nat) (hT : Tab w) :
    Calls Tryd.prog 4 #[.int .i64 (n : Int), .int .i64 at_, .int .i64 count, .slice P np cp] w (Ret w (Is (.bool true))) := by
  obtain ⟨KF, KO⟩ := none_log (w := w) n hn1 (by omega) at_ count h1 h2 (by unfold fitsE; rw [if_pos (by omega)]) hT
  have KA := hide (fun (W : World) (hW : Ext w W) => awake_any W (hT.ext hW))
  have KN := hide (fun (W : World) => new_any n hn1 (by omega) W)
  have hni1 : ¬ (n : Int) < 1 := by omega
  have hni2 : ¬ (100 : Int) < (n : Int) := by omega
  have hw1 : IntKind.i64.wrap ((n : Int) - 1) = (n : Int) - 1 := by rw [IntKind.wrap_i64]; omega
  have hw2 : IntKind.i64.wrap ((n : Int) - 1 - count) = (n : Int) - 1 - count := by rw [IntKind.wrap_i64]; omega
  clear hn1 hn2 h1 h2 hT
  go_enter Tryd.func4, Tryd.ntmps4
  go_wp2_with (first
    | (go_at_call 7; (with_reducible refine (KA.out w (Ext.refl w)).mono ?_); rintro e w1 ⟨rfl, hx1⟩; have HX1 := hide hx1; clear hx1)
    | (go_at_call 19; (with_reducible refine (KN.out w1).mono ?_); rintro e w2 ⟨g, gd, gn, rfl, hd2, hx2⟩; have HD2 := hide hd2; have HX2 : Hid (Ext w1 w2) := hide hx2; clear hd2 hx2)
    | (go_at_call 20; (with_reducible refine (KF.out w1 w2 g gd gn HX1.out HX2.out HD2.out).mono ?_); rintro e w3 ⟨A3, c3, rfl, hd3, hf3, hn3⟩; have HD3 := hide hd3; have HX3 : Hid (Ext w1 w3) := hide (Dfr.grown HX2.out HD2.out hf3); clear hd3 hf3 hn3)
    | (go_at_call 17; (with_reducible refine (KO.out w1 w3 g gd gn A3 c3 HX1.out HX3.out HD3.out).mono ?_); rintro e w4 ⟨A4, c4, rfl, hd4, hf4, hn4⟩; have HX4 : Hid (Ext w1 w4) := hide (Dfr.grown HX3.out HD3.out hf4); clear hd4 hf4 hn4)
    | (go_at_call 23; (with_reducible refine (append_nil _ _ _ _).mono ?_); rintro e wz ⟨rfl, rfl⟩)
    | (go_at_call 24; (with_reducible refine (spend_nil _ _ _).mono ?_); rintro e wz ⟨rfl, rfl⟩)
    | (go_at_call 25; (with_reducible refine (read_nil_log _).mono ?_); rintro e wz ⟨rfl, rfl⟩)
    | (go_at_call 17; (with_reducible refine (open_nil _ _).mono ?_); rintro e wz ⟨rfl, rfl⟩)
    | (go_at_call 20; (with_reducible refine (format_nil _ _).mono ?_); rintro e wz ⟨rfl, rfl⟩)
    | (go_at_call 12; (with_reducible refine flush_nil.mono ?_); rintro e wz ⟨rfl, rfl⟩)
    | (go_at_call 14; (with_reducible refine (mark_nil _ _).mono ?_); rintro e wz ⟨rfl, rfl⟩)
    | (go_at_call 22; (with_reducible refine (release_nil _).mono ?_); rintro e wz ⟨rfl, rfl⟩)
    | (go_at_call 15; (with_reducible refine end_nil.mono ?_); rintro e wz ⟨rfl, rfl⟩)
    | (go_at_call 26; (with_reducible refine sure_nil.mono ?_); rintro e wz ⟨rfl, rfl⟩)
    | (go_at_call 27; (with_reducible refine start_nil.mono ?_); rintro e wz ⟨rfl, rfl⟩)
    | (go_at_call 28; (with_reducible refine check_nil.mono ?_); rintro e wz ⟨rfl, rfl⟩)
    | (go_at_call 29; (with_reducible refine room_nil.mono ?_); rintro e wz ⟨rfl, rfl⟩)
    | (go_at_call 30; (with_reducible refine held_nil.mono ?_); rintro e wz ⟨rfl, rfl⟩))
  go_ret
  exact Ret.mk (HX1.out.trans HX4.out) rfl
end
end Go.Proofs.YtdifpbicdicggaaDoor
