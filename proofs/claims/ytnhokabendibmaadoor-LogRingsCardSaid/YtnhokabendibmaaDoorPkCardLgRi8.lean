/-
  A log and the laws' model of it, beside one another in memory; each step of LogRings (plain).
  The walk of LogHeld, for every input.
  The walk of LogRings, for every input.
  An argument that is a slice of numbers of two bytes.
-/
import Derived.Test.YtnhokabendibmaaDoorPkCardLgRi0
import Derived.Test.YtnhokabendibmaaDoorPkCardLgRi6
import Derived.Test.YtnhokabendibmaaDoorPkCardLgRi7
set_option linter.unusedVariables false
set_option linter.unusedSimpArgs false

namespace Go.Proofs.YtnhokabendibmaaDoor
open Go.RowKit

section
variable {w0 w w' w1 : World} {X X' : Bk} {D D' : Dk} {L L' : Lg} {B gm : Nat} {vl : Value} {M : Md} {H : List UInt8} {rs : List (List UInt8)}
/-- A block of another kind is none of the log's. -/
theorem LgAt.not_has (h : LgAt w0 w X D L) {k : Nat} {t : TypeId} {vs : List Value} (hr : Rw w k t vs) (h1 : t ≠ 75) (h2 : t ≠ 71) (h3 : t ≠ 86) (h4 : t ≠ 3) (h5 : t ≠ 88) (h6 : t ≠ 5) : ¬ X.has k := fun hh => by
  rcases hh with e | e | e | e | ⟨a, ha, e⟩ | hk
  · exact hr.apart h.blk h1 e
  · exact hr.apart h.disk.blk h2 e
  · exact hr.apart h.disk.dur h3 e
  · exact hr.apart h.disk.new h4 e
  · exact hr.apart_own h.disk.pen h5 a ha e
  · exact own_apartR hr h6 h.tail hk.symm
theorem LgAt.not_model (h : LgAt w0 w X D L) (hm : MdAt w B gm vl M) : ∀ k, k = gm ∨ vl.ownBlock = some k → ¬ X.has k := fun k hk => by
  rcases hk with rfl | hk
  · exact h.not_has hm.blk (by decide) (by decide) (by decide) (by decide) (by decide) (by decide)
  · obtain ⟨vs, hr⟩ := hm.recs.row k hk
    exact h.not_has hr (by decide) (by decide) (by decide) (by decide) (by decide) (by decide)
/-- The model stays where the log turns. -/
theorem MdAt.lfr (hm : MdAt w B gm vl M) (h : LgAt w0 w X D L) (hf : Lfr X w w') : MdAt w' B gm vl M := hm.keep fun k hk => by
  refine hf.other k ?_ (h.not_model hm k hk)
  rcases hk with rfl | hk
  · exact hm.blk.lt
  · exact (hm.recs.lt k hk).2
/-- The log stays where its blocks do. -/
theorem LgAt.keepAll (h : LgAt w0 w X D L) (hx : Ext w0 w') (hk : ∀ k, X.has k → w'.heap[k]? = w.heap[k]?) : LgAt w0 w' X D L :=
  ⟨hx, h.disk.keep1 fun k hh => hk k (by
      rcases hh with e | e | e | ⟨a, ha, e⟩
      · exact .inr (.inl e)
      · exact .inr (.inr (.inl e))
      · exact .inr (.inr (.inr (.inl e)))
      · exact .inr (.inr (.inr (.inr (.inl ⟨a, ha, e⟩))))),
    (hk X.q (.inl rfl)).trans h.blk, h.tail.keep1 fun k hh => hk k (.inr (.inr (.inr (.inr (.inr hh))))), h.base⟩
theorem Mfr.extend {w0 : World} (hx : Ext w0 w) (hf : Mfr gm vl w w') (hm : MdAt w w0.heap.size gm vl M) : Ext w0 w' :=
  ⟨hf.os.trans hx.os, hf.tape.trans hx.tape, hf.output.trans hx.output, Nat.le_trans hx.size hf.size, fun k hk => (hf.other k (Nat.lt_of_lt_of_le hk hx.size) (fun e => by have := hm.base; omega) (fun e => by have := (hm.recs.lt k e).1; omega)).trans (Below.block hx k hk)⟩
theorem LgAt.mfr (h : LgAt w0 w X D L) (hm : MdAt w w0.heap.size gm vl M) (hf : Mfr gm vl w w') : LgAt w0 w' X D L :=
  h.keepAll (hf.extend h.ext hm) fun k hk => hf.other k (h.has_lt hk) (fun e => h.not_model hm k (.inl e) hk) (fun e => h.not_model hm k (.inr e) hk)
/-- The records from one on. -/
theorem RecS.drop {g off n c : Nat} {l : List (Nat × List UInt8)} (h : RecS w B (.slice (some ⟨g, off, none⟩) n c) l) (k : Nat) (hk : k ≤ n) (hc : k < c) : RecS w B (.slice (some ⟨g, off + k * 2, none⟩) (n - k) (c - k)) (l.drop k) := by
  rcases h with ⟨h, -⟩ | ⟨g', off', c', cur, hv, h1, h2, h3, h4, h5, h6, h7⟩
  · cases h
  · injection hv with e1 e2 e3
    injection e1 with e1
    injection e1 with e4 e5
    subst e4 e5 e3 e2
    refine .inr ⟨g, off + k * 2, c - k, cur, by rw [List.length_drop], h1, h2, by rw [List.length_drop]; omega, by omega, by omega, by omega, fun j u hu => ?_⟩
    rw [Nat.add_assoc]
    exact h7 _ u (recV_drop l k j u hu)
theorem MdAt.dfr {g gd gn : Nat} {A : Option Addr} (hm : MdAt w B gm vl M) (h : LgAt w0 w X D L) (hg : X.g = g) (hgd : X.gd = gd) (hgn : X.gn = gn) (hA : X.A = A) (hf : Dfr g gd gn A w w') : MdAt w' B gm vl M := hm.keep fun k hk => by
  have hn := h.not_model hm k hk
  refine hf.other k ?_ (fun e => hn (.inr (.inl (by rw [hg]; exact e)))) (fun e => hn (.inr (.inr (.inl (by rw [hgd]; exact e))))) (fun e => hn (.inr (.inr (.inr (.inl (by rw [hgn]; exact e)))))) (fun a ha e => hn (.inr (.inr (.inr (.inr (.inl ⟨a, by rw [hA]; exact ha, e⟩))))))
  rcases hk with rfl | hk
  · exact hm.blk.lt
  · exact (hm.recs.lt k hk).2
/-! ### the steps -/
theorem recsB_small : ∀ (rs : List (List UInt8)), (∀ p ∈ rs, p.length ≤ 400) → (recsB rs).length ≤ 402 * rs.length
  | [], _ => Nat.zero_le _
  | p :: rs, h => by
    have h1 := recsB_small rs (fun q hq => h q (by simp [hq]))
    have h2 := h p (by simp)
    rw [recsB_cons, List.length_append, frm_len, List.length_cons]
    omega
def appM (M : Md) (p : List UInt8) : Md := { M with l := M.l ++ [(M.en, p)], en := M.en + (p.length + 2) }
def sureM (M : Md) : Md := { M with su := M.en }
theorem Mir.app (mi : Mir D L H M rs) (hs : L.sure = H.length) (p : List UInt8) (hp : RecOk p) (hf : H.length + 2 + p.length ≤ (L.hd.st / 480 + L.hd.cn) * 480) (hb : H.length + 2 + p.length < 1000000000000) (ho : D.ops < 400000) :
    apE L p.length 0 = 0 ∧ Rg D (apL L p 0) (H ++ frm p) ∧ flE D (apL L p 0) = 0 ∧ Mir (flD D (apL L p 0)) (flL D (apL L p 0)) (H ++ frm p) (sureM (appM M p)) (rs ++ [p]) ∧ (flL D (apL L p 0)).sure = (H ++ frm p).length ∧ (flL D (apL L p 0)).hd = L.hd ∧ (flL D (apL L p 0)).at_ = L.at_ ∧ (flD D (apL L p 0)).ops ≤ D.ops + L.hd.cn + 2 ∧ (flD D (apL L p 0)).dur.length = D.dur.length := by
  obtain ⟨a1, a2, a3, a4, a5⟩ := mi.rg.app p hp hf hb
  obtain ⟨f1, f2, f3, f4, f5, f6, f7⟩ := a2.flush ho
  have ht := a2.tail_len
  rw [a3] at ht f4
  rw [a5] at f5
  have hst := mi.rg.st
  have hlen : (recsB rs).length = H.length - L.hd.fi := by rw [← mi.recs, List.length_drop]
  have hH : (H ++ frm p).length = H.length + 2 + p.length := by rw [List.length_append, frm_len]; omega
  refine ⟨a1, a2, f1, ⟨f2, ?_, ?_, by rw [f4]; exact mi.st, by rw [f4]; exact mi.fi, by rw [f4]; exact mi.ck, mi.hl, by rw [f4]; exact mi.cn, ?_, ?_, ?_⟩, f3, f4, f5, by omega, f7⟩
  · show M.en + (p.length + 2) = _
    rw [mi.en, hH]
    omega
  · show M.en + (p.length + 2) = _
    rw [f3, mi.en, hH]
    omega
  · show M.l ++ [(M.en, p)] = _
    rw [f4, plc_app, mi.l, mi.en, hlen]
    have e : L.hd.fi + (H.length - L.hd.fi) = H.length := by omega
    rw [e]
  · rw [f4, List.drop_append_of_le_length (by omega), mi.recs, recsB_app, recsB_cons, recsB_nil, List.append_nil]
  · intro q hq
    rcases List.mem_append.1 hq with h | h
    · exact mi.ok q h
    · rw [List.mem_singleton.1 h]; exact hp
def markM (M : Md) (l : List (Nat × List UInt8)) (pl : Nat) : Md := { M with l := l, st := pl }
theorem Mir.mark {a : List UInt8} (mi : Mir D L H M (a :: rs)) (hs : L.sure = H.length) (hck : L.hd.ck = 0) (ho : D.ops < 400000) (pl : Nat) (hpl : pl = L.hd.fi + (2 + a.length)) :
    mkE D L 0 pl = 0 ∧ Mir (mkD D L 0 pl) (mkL D L 0 pl) H (markM M (plc pl rs) pl) rs ∧ (mkL D L 0 pl).sure = L.sure ∧ (mkL D L 0 pl).hd.cn = L.hd.cn ∧ (mkL D L 0 pl).hd.ck = 0 ∧ (mkL D L 0 pl).hd.ep = L.hd.ep ∧ (mkL D L 0 pl).at_ = L.at_ ∧ (mkD D L 0 pl).ops ≤ D.ops + 2 ∧ (mkD D L 0 pl).dur.length = D.dur.length := by
  have hlen : (recsB (a :: rs)).length = H.length - L.hd.fi := by rw [← mi.recs, List.length_drop]
  rw [recsB_cons, List.length_append, frm_len] at hlen
  have hst := mi.rg.st
  have hsu := mi.rg.sure
  obtain ⟨m1, m2, m3, m4, m5, m6, m7⟩ := mi.rg.mark ho [a] rs pl (fun p hp => mi.ok p (by rw [List.mem_singleton.1 hp]; simp)) mi.recs (by rw [recsB_cons, recsB_nil, List.append_nil, frm_len]; exact hpl) (by omega)
  have e2 : (mkL D L 0 pl).hd.st = pl := by rw [m3]
  have e3 : (mkL D L 0 pl).hd.fi = pl := by rw [m3]
  have e4 : (mkL D L 0 pl).hd.ck = 0 := by rw [m3]
  have e5 : (mkL D L 0 pl).hd.cn = L.hd.cn := by rw [m3]
  have e6 : (mkL D L 0 pl).hd.ep = L.hd.ep := by rw [m3]
  refine ⟨m1, ⟨m2, mi.en, by rw [m4]; exact mi.su, by rw [e2]; rfl, by rw [e2, e3], ?_, mi.hl, by rw [e5]; exact mi.cn, by rw [e3]; rfl, ?_, fun p hp => mi.ok p (by simp [hp])⟩, m4, e5, e4, e6, m5, m6, m7⟩
  · rw [e4]
    show M.ck = 0
    rw [mi.ck, hck]
  · rw [e3, hpl, ← List.drop_drop, mi.recs, recsB_cons]
    exact List.drop_left' (frm_len a)
theorem Mir.opened (mi : Mir D L H M rs) (hs : L.sure = H.length) (ho : D.ops < 400000) (he : L.hd.ep + 1 < 1000000000000) :
    D.fallen [] = D ∧ opE D (L.at_ : Int) (L.hd.cn : Int) = 0 ∧ Mir (opD D (L.at_ : Int) (L.hd.cn : Int)) (opL D (L.at_ : Int)) H M rs ∧ (opL D (L.at_ : Int)).sure = L.sure ∧ (opL D (L.at_ : Int)).at_ = L.at_ ∧ (opL D (L.at_ : Int)).hd.cn = L.hd.cn ∧ (opL D (L.at_ : Int)).hd.ck = L.hd.ck ∧ (opL D (L.at_ : Int)).hd.ep = L.hd.ep + 1 ∧ (opD D (L.at_ : Int) (L.hd.cn : Int)).ops ≤ D.ops + 3 ∧ (opD D (L.at_ : Int) (L.hd.cn : Int)).dur.length = D.dur.length := by
  obtain ⟨o1, o2, o3, o4, o5⟩ := mi.rg.open_ ho he rs mi.ok mi.recs hs
  have hn := mi.rg.next
  have e1 : (nextL L).hd.st = L.hd.st := by rw [hn]
  have e2 : (nextL L).hd.fi = L.hd.fi := by rw [hn]
  have e3 : (nextL L).hd.ck = L.hd.ck := by rw [hn]
  have e4 : (nextL L).hd.cn = L.hd.cn := by rw [hn]
  have e5 : (nextL L).hd.ep = L.hd.ep + 1 := by rw [hn]
  rw [o3] at o2 ⊢
  exact ⟨fallen_still mi.rg.awk mi.rg.pen, o1, ⟨o2, mi.en, mi.su, by rw [e1]; exact mi.st, by rw [e1, e2]; exact mi.fi, by rw [e3]; exact mi.ck, mi.hl, by rw [e4]; exact mi.cn, by rw [e2]; exact mi.l, by rw [e2]; exact mi.recs, mi.ok⟩, rfl, rfl, e4, e3, e5, o4, o5⟩
/-- A new log. -/
theorem rg_new {c : Nat} (h4 : 4 ≤ c) (h5 : c ≤ 4000) : Rg (dk2 (c + 3) 1 c) (lgN 1 c) (List.replicate 480 0) := by
  have hl : (dk2 (c + 3) 1 c).dur.length = c + 3 := dk2_len
  have hat : ∀ s, (dk2 (c + 3) 1 c).at s = ((((zS (c + 3)).set 1 (b1S c)).set 1 (b2S c)).set 3 bpS).getD s [] := fun s => rfl
  have hok := lgN_ok (a := 1) (n := c + 3) h4 (by omega) (by omega)
  refine ⟨awk_dk2, rfl, dk2_bd (by omega) (by omega), hok.hd, hok.cn, hok.at_, ?_, ?_, ⟨Nat.le_refl _, Nat.le_refl _, Nat.le_refl _⟩, Nat.zero_le _, rfl, ?_, ?_, ?_, ?_, fun _ => 1, ?_⟩
  · show ([] : List UInt8) = (List.replicate 480 0).drop (flo 480)
    rw [flo480]
    rfl
  · rw [List.length_replicate]
    exact Nat.le_refl _
  · rw [List.length_replicate]
    show 480 ≤ (480 / 480 + c) * 480
    omega
  · rw [List.length_replicate]; decide
  · show (1 : Nat) < _
    decide
  · show (dk2 (c + 3) 1 c).at 1 = b2S c
    rw [hat, set_far _ _ _ _ _ (by decide), set_get _ _ _ _ (by rw [List.length_set, zS_len]; omega)]
  · have hS : (List.replicate 480 (0 : UInt8)).take (lgN 1 c).sure = List.replicate 480 0 := List.take_of_length_le (by rw [List.length_replicate]; exact Nat.le_refl _)
    rw [hS]
    refine ⟨fun j k1 k2 => ?_, fun _ _ _ => Nat.le_refl _, fun _ => ⟨by show 0 ≤ 1; decide, Nat.le_refl _⟩, fun j k1 k2 => ?_⟩
    · rw [List.length_replicate] at k2
      have k1 : 480 / 480 ≤ j := k1
      omega
    · rw [List.length_replicate] at k1
      have hcn : (lgN 1 c).hd.cn = c := rfl
      have hsec : secOf (lgN 1 c) (480 * j) = 2 + j % c := by rw [sec_part]; rfl
      have hlt := Nat.mod_lt j (show 0 < c by omega)
      by_cases h3 : 2 + j % c = 3
      · have hb : (dk2 (c + 3) 1 c).at 3 = sealB 2 (ptNs 1 1 ([] : List UInt8).length) [] := by
          rw [hat, set_get _ _ _ _ (by rw [List.length_set, List.length_set, zS_len]; omega)]
          rfl
        obtain ⟨p1, p2⟩ := ptAt_seal (D := dk2 (c + 3) 1 c) rfl (i := 3) (by rw [hl]; omega) 1 1 [] hb (by decide) (by decide) (by decide)
        unfold ptThere at k2
        rw [hsec, h3] at k2 ⊢
        rw [p1, p2] at k2
        simp only [Bool.true_and, decide_eq_true_eq] at k2
        rw [p2, List.length_replicate]
        refine ⟨by omega, rfl⟩
      · exfalso
        have hz : (dk2 (c + 3) 1 c).at (2 + j % c) = List.replicate 512 0 := by
          rw [hat, set_far _ _ _ _ _ (by omega), set_far _ _ _ _ _ (by omega), set_far _ _ _ _ _ (by omega), zS_get (by omega)]
        have hp : ptIs (dk2 (c + 3) 1 c) ((2 + j % c : Nat) : Int) = false := by
          unfold ptIs
          rw [gB_on rfl (by rw [hl]; omega), hz]
          simp only [decide_eq_false_iff_not]
          intro h2
          exact unsE_zero 2 (by decide) h2.2
        unfold ptThere at k2
        rw [hsec, hp] at k2
        simp at k2
end
end Go.Proofs.YtnhokabendibmaaDoor
namespace Go.Proofs.YtnhokabendibmaaDoor
open Go.RowKit

def lenAt (q : Nat) (w : World) : Nat := match w.cell? ⟨q, 9, none⟩ with
  | some (.slice _ n _) => n
  | _ => 0
section
variable {w0 w : World} {X : Bk} {D : Dk} {L : Lg}
theorem lenAt_is (h : LgAt w0 w X D L) : lenAt X.q w = L.tail.length := by
  obtain ⟨A, c, htv, -, -⟩ := h.tail.bytes
  have c9 := h.blk.cell (i := 9) rfl
  unfold lenAt
  rw [c9, htv]
set_option maxRecDepth 20000 in
set_option maxHeartbeats 3200000 in
theorem logHeld_walk (cn ho nn : Nat) (h1 : cn < 256) (h2 : ho < 65536) (h3 : nn < 256) (hT : Tab w) :
    Calls Tryd.prog 6 #[.int .u8 (cn : Int), .int .u16 (ho : Int), .int .u8 (nn : Int)] w (Ret w (Is (.bool true))) := by
  have KA := hide (fun (W : World) (hW : Ext w W) => awake_any W (hT.ext hW))
  obtain ⟨c, HC⟩ : ∃ c, Hid (4 + cn % 6 = c) := ⟨_, hide rfl⟩
  obtain ⟨hh, HH⟩ : ∃ hh, Hid (3 + ho % 1000 = hh) := ⟨_, hide rfl⟩
  obtain ⟨sz, HS⟩ : ∃ sz, Hid (1 + nn % 200 = sz) := ⟨_, hide rfl⟩
  have HCB : Hid (4 ≤ c ∧ c ≤ 9) := hide (by have := HC.out; omega)
  have HHB : Hid (3 ≤ hh ∧ hh ≤ 1002) := hide (by have := HH.out; omega)
  have HSB : Hid (1 ≤ sz ∧ sz ≤ 200) := hide (by have := HS.out; omega)
  have KF : Hid (∀ W, Ext w W → Calls Tryd.prog 8 #[.int .i64 (c : Int)] W (FrPost c W)) := hide (fun W hW => fresh_any HCB.out.1 (by have := HCB.out.2; omega) (hT.ext hW))
  have hc1 : (4 : Int) + (cn : Int) % 6 = (c : Int) := by have := HC.out; omega
  have hh1 : (3 : Int) + (ho : Int) % 1000 = (hh : Int) := by have := HH.out; omega
  have hs1 : (1 : Int) + (nn : Int) % 200 = (sz : Int) := by have := HS.out; omega
  have hcw : IntKind.i64.wrap (c : Int) = (c : Int) := by rw [IntKind.wrap_i64]; have := HCB.out; omega
  have hhw : IntKind.i64.wrap (hh : Int) = (hh : Int) := by rw [IntKind.wrap_i64]; have := HHB.out; omega
  have hsw : IntKind.i64.wrap (sz : Int) = (sz : Int) := by rw [IntKind.wrap_i64]; have := HSB.out; omega
  have hn1 : IntKind.i64.wrap (cn : Int) = (cn : Int) := by rw [IntKind.wrap_i64]; omega
  have hn2 : IntKind.i64.wrap (ho : Int) = (ho : Int) := by rw [IntKind.wrap_i64]; omega
  have hn3 : IntKind.i64.wrap (nn : Int) = (nn : Int) := by rw [IntKind.wrap_i64]; omega
  have HM50 : Hid (∀ W : World, (Instr.makeSlice 33 (.int .i64 50) (.int .i64 50)).run Tryd.prog W = .ok (.slice (some ⟨W.heap.size, 0, none⟩) 50 50) (mkW 50 W)) := hide (fun W => mkW_run 50 (by decide) W)
  have HT := hide hT
  have HM1 := hide mk1_run
  clear hT h1 h2 h3
  go_enter Tryd.func6, Tryd.ntmps6
  go_upto_region 8 with (first
    | (go_at_call 7; (with_reducible refine (KA.out w (Ext.refl w)).mono ?_); rintro e w1 ⟨rfl, hx1⟩; have HX1 := hide hx1; clear hx1)
    | (go_at_call 8; (with_reducible refine (KF.out w1 HX1.out).mono ?_); rintro e w2 ⟨X1, rfl, hl1⟩; have HL1 := hide hl1; clear hl1))
  obtain ⟨q, HQ⟩ : ∃ q, Hid (X1.q = q) := ⟨_, hide rfl⟩
  rw [HQ.out]
  rw [hL_new] at HL1
  clear hc1 hh1 hcw hhw hn1 hn2
  go_loopw [10] (fun x wr => ∃ (k H : Nat) (T : List UInt8) (X : Bk), x = .int .i64 (k : Int) ∧ Hid (X.q = q) ∧ Hid (LgAt w1 wr X (dk2 (c + 3) 1 c) (hL c T H)) ∧ Hid (T.length + H ≤ 480 * c) ∧ Hid (52 * k ≤ T.length) ∧ Hid (H = 0 ∨ 0 < k)) (fun x _ => 100 - (intOf x).toNat)
  case atStart => exact ⟨0, 0, [], X1, rfl, HQ, HL1, hide (by show 0 + 0 ≤ _; omega), hide (by show 52 * 0 ≤ 0; omega), hide (.inl rfl)⟩
  case round =>
    obtain ⟨k, H, T, X2, rfl, HQ2, HL2, HS2, HK2, HH2⟩ := hrel
    have HKB : Hid (k ≤ 90) := hide (by have h1 := HK2.out; have h2 := HS2.out; have h3 := HCB.out.2; omega)
    have HL2b : Hid (LgAt w1 (mkW 50 wr) X2 (dk2 (c + 3) 1 c) (hL c T H)) := hide (HL2.out.ext_ (mkW_ext 50 wr))
    have hkw : IntKind.i64.wrap ((k : Int) + 1) = ((k + 1 : Nat) : Int) := by rw [IntKind.wrap_i64]; have := HKB.out; omega
    by_cases hfit : T.length + H + 2 + 50 + hh ≤ 480 * c
    · have KAP := hide (held_app HCB.out.1 HCB.out.2 HL2b.out (some ⟨wr.heap.size, 0, none⟩) 50 (List.replicate 50 0) (n := 50) (List.length_replicate ..) hh (mkW_rd 50 wr) (mkW_not HL2.out 50) (by decide) (by decide) hfit)
      rw [HQ2.out] at KAP
      have HFIT := hide hfit
      obtain ⟨v0, HV0⟩ : ∃ v0 : Int, Hid (((480 + T.length : Nat) : Int) = v0) := ⟨_, hide rfl⟩
      rw [HV0.out] at KAP
      have HMS : Hid (100 - (k + 1) < 100 - k) := hide (by have := HKB.out; omega)
      obtain ⟨k1, HK1⟩ : ∃ k1, Hid (k + 1 = k1) := ⟨_, hide rfl⟩
      rw [HK1.out] at hkw
      clear hfit
      go_wp2_with (first
        | ((with_reducible show wpList _ _ _ (⟨some 39, _, _, _, _, _⟩ :: _) _ _); refine wpList_gives (gives_make rfl rfl rfl (HM50.out _) ⟨rfl, rfl⟩) rfl ?_)
        | (go_at_call 23; (with_reducible refine KAP.out.mono ?_); rintro e w3 ⟨X3, rfl, hl3, hf3, hn3⟩; have HL3 := hide hl3; have HQ3 : Hid (X3.q = q) := hide (hn3.q.trans HQ2.out); clear hl3 hf3 hn3))
      refine ⟨⟨k1, H + hh, mT T (List.replicate 50 0), X3, rfl, HQ3, HL3, hide ?_, hide ?_, hide (.inr (by have := HK1.out; omega))⟩, ?_⟩
      · rw [mT_len, List.length_replicate]
        have := HFIT.out
        omega
      · rw [mT_len, List.length_replicate]
        have := HK2.out
        have := HK1.out
        omega
      · show 100 - ((k1 : Int)).toNat < 100 - ((k : Int)).toNat
        have h1 := HMS.out
        rw [HK1.out] at h1
        omega
    · have KAP := hide (held_full HCB.out.1 HCB.out.2 HL2b.out (some ⟨wr.heap.size, 0, none⟩) 50 (List.replicate 50 0) (n := 50) (List.length_replicate ..) hh (mkW_rd 50 wr) (mkW_not HL2.out 50) (by decide) (by decide) (by have := HHB.out; omega) HS2.out hfit)
      rw [HQ2.out] at KAP
      clear hfit hkw
      go_upto_region 13 with (first
        | ((with_reducible show wpList _ _ _ (⟨some 39, _, _, _, _, _⟩ :: _) _ _); refine wpList_gives (gives_make rfl rfl rfl (HM50.out _) ⟨rfl, rfl⟩) rfl ?_)
        | (go_at_call 23; (with_reducible refine KAP.out.mono ?_); rintro e w3 ⟨X3, rfl, hl3, hf3, hn3⟩; have HL3 := hide hl3; have HQ3 : Hid (X3.q = q) := hide (hn3.q.trans HQ2.out); clear hl3 hf3 hn3))
      clear KAP HL2b HL2 HQ2 HK2
      have HW13 : Hid (Ext w3 w3) := hide (Ext.refl _)
      clear HM50 KA KF
      go_loopw [] (fun wr => ∃ (T : List UInt8) (X : Bk), Hid (X.q = q) ∧ Hid (LgAt w1 wr X (dk2 (c + 3) 1 c) (hL c T H)) ∧ Hid (T.length + H ≤ 480 * c)) (fun wr => 5000 - lenAt q wr)
      case atStart => exact ⟨T, X3, HQ3, HL3, HS2⟩
      case round =>
        obtain ⟨T2, X4, HQ4, HL4, HS4⟩ := hrel
        clear HL3 HQ3 HS2 HW13
        have KRM := hide (held_room HCB.out.1 HCB.out.2 HS4.out HL4.out)
        rw [HQ4.out] at KRM
        obtain ⟨rm, HRM⟩ : ∃ rm, Hid (480 * c - T2.length - H = rm) := ⟨_, hide rfl⟩
        rw [HRM.out] at KRM
        by_cases hrm : 3 ≤ rm
        · have hri : (3 : Int) ≤ (rm : Int) := by omega
          have HFIT : Hid (T2.length + H + 2 + 1 + 0 ≤ 480 * c) := hide (by have := HRM.out; have := HS4.out; omega)
          have KAP : Hid (∀ W, LgAt w1 W X4 (dk2 (c + 3) 1 c) (hL c T2 H) → Calls Tryd.prog 23 #[.pointer (some ⟨q, 0, none⟩), .slice (some ⟨W.heap.size, 0, none⟩) 1 1, .int .i64 0] (mk1 W) (LPost w1 (mk1 W) X4 (.tuple #[.int .u64 ((480 + T2.length : Nat) : Int), .int .i64 0]) (dk2 (c + 3) 1 c) (hL c (mT T2 [1]) H))) := hide (fun W hW => by
            have k1 := held_app HCB.out.1 HCB.out.2 (hW.ext_ (mk1_ext _)) (some ⟨W.heap.size, 0, none⟩) 1 [1] (n := 1) rfl 0 (mk1_rd _) (mk1_not hW) (by decide) (by decide) HFIT.out
            rw [HQ4.out] at k1
            exact k1)
          obtain ⟨v0, HV0⟩ : ∃ v0 : Int, Hid (((480 + T2.length : Nat) : Int) = v0) := ⟨_, hide rfl⟩
          rw [HV0.out] at KAP
          clear hrm
          go_wp2_with (first
            | (go_at_call 29; (with_reducible refine KRM.out.mono ?_); rintro e w4 ⟨rfl, m4, hw4⟩; have HLR : Hid (LgAt w1 w4 X4 (dk2 (c + 3) 1 c) (hL c T2 H)) := hide (by rw [hw4]; exact HL4.out.ext_ ((Ext.refl _).drewN m4)); clear hw4)
            | ((with_reducible show wpList _ _ _ (⟨some 55, _, _, _, _, _⟩ :: _) _ _); refine wpList_gives (gives_buildSlice rfl [(0, .int .u8 1)] rfl (HM1.out _) ⟨rfl, rfl⟩) rfl ?_)
            | (go_at_call 23; (with_reducible refine (KAP.out w4 HLR.out).mono ?_); rintro e w5 ⟨X5, rfl, hl5, hf5, hn5⟩; have HL5 := hide hl5; have HQ5 : Hid (X5.q = q) := hide (hn5.q.trans HQ4.out); clear hl5 hf5 hn5))
          refine ⟨⟨mT T2 [1], X5, HQ5, HL5, hide ?_⟩, ?_⟩
          · rw [mT_len]
            have := HFIT.out
            show T2.length + 2 + 1 + H ≤ _
            omega
          · have e1 := lenAt_is HL5.out
            have e2 := lenAt_is HL4.out
            rw [HQ5.out] at e1
            rw [HQ4.out] at e2
            show 5000 - lenAt q w5 < 5000 - lenAt q wr
            rw [e1, e2]
            show 5000 - (mT T2 [1]).length < 5000 - T2.length
            rw [mT_len]
            have h1 := HFIT.out
            have h2 := HCB.out.2
            show 5000 - (T2.length + 2 + 1) < _
            omega
        · have hri : ¬ (3 : Int) ≤ (rm : Int) := by omega
          have HMS : Hid (∀ W : World, (Instr.makeSlice 33 (.int .i64 (sz : Int)) (.int .i64 (sz : Int))).run Tryd.prog W = .ok (.slice (some ⟨W.heap.size, 0, none⟩) sz sz) (mkW sz W)) := hide (fun W => mkW_run sz (by have := HSB.out; omega) W)
          clear hrm HM1
          go_upto_region 18 with (first
            | (go_at_call 29; (with_reducible refine KRM.out.mono ?_); rintro e w4 ⟨rfl, m4, rfl⟩))
          have HL5 : Hid (LgAt w1 (wr.drewN m4) X4 (dk2 (c + 3) 1 c) (hL c T2 H)) := hide (HL4.out.ext_ ((Ext.refl _).drewN m4))
          obtain ⟨w5, hw5⟩ : ∃ w5, wr.drewN m4 = w5 := ⟨_, rfl⟩
          rw [hw5] at HL5 ⊢
          clear hw5 KRM HL4 HRM hri hs1 hsw hn3
          have HH0 : Hid (H = 0 ∨ 0 < k) := HH2
          go_loopw [] (fun wr => ∃ (T : List UInt8) (H : Nat) (X : Bk), Hid (X.q = q) ∧ Hid (LgAt w1 wr X (dk2 (c + 3) 1 c) (hL c T H)) ∧ Hid (T.length + H ≤ 480 * c) ∧ Hid (H = 0 ∨ 0 < k)) (fun wr => 5000 - lenAt q wr)
          case atStart => exact ⟨T2, H, X4, HQ4, HL5, HS4, HH2⟩
          case round =>
            obtain ⟨T5, H5, X5, HQ5, HL6, HS6, HH6⟩ := hrel
            clear HL5 HQ4 HS4 HH0 HH2
            have HHB5 : Hid (H5 ≤ 4320 ∧ T5.length ≤ 4320) := hide (by have h1 := HS6.out; have h2 := HCB.out.2; omega)
            have KHD := hide (held_any HL6.out)
            rw [HQ5.out] at KHD
            have KHD : Hid (Calls Tryd.prog 30 #[.pointer (some ⟨q, 0, none⟩)] wr (Same wr (.int .i64 (H5 : Int)))) := KHD
            have hz2 : IntKind.i64.wrap ((sz : Int) + 2) = (sz : Int) + 2 := by rw [IntKind.wrap_i64]; have := HSB.out; omega
            have HLM : Hid (LgAt w1 (mkW sz wr) X5 (dk2 (c + 3) 1 c) (hL c T5 H5)) := hide (HL6.out.ext_ (mkW_ext sz wr))
            by_cases hge : 2 + sz ≤ H5
            · have hgi : (sz : Int) + 2 ≤ (H5 : Int) := by omega
              have KSP := hide (held_spend HCB.out.1 HCB.out.2 HLM.out (some ⟨wr.heap.size, 0, none⟩) sz (List.replicate sz 0) (n := sz) (List.length_replicate ..) (mkW_rd sz wr) (mkW_not HL6.out sz) (by have := HSB.out; omega) (by have := HSB.out; omega) HS6.out hge)
              rw [HQ5.out] at KSP
              obtain ⟨H7, HH7⟩ : ∃ H7, Hid (H5 - (2 + sz) = H7) := ⟨_, hide rfl⟩
              rw [HH7.out] at KSP
              obtain ⟨v0, HV0⟩ : ∃ v0 : Int, Hid (((480 + T5.length : Nat) : Int) = v0) := ⟨_, hide rfl⟩
              rw [HV0.out] at KSP
              obtain ⟨y0, HY0⟩ : ∃ y0 : Int, Hid ((H5 : Int) - (sz : Int) = y0) := ⟨_, hide rfl⟩
              have hy1 : IntKind.i64.wrap ((H5 : Int) - (sz : Int)) = y0 := by rw [IntKind.wrap_i64]; have := HY0.out; have := HHB5.out; have := HSB.out; omega
              have hy2 : IntKind.i64.wrap (y0 - 2) = (H7 : Int) := by rw [IntKind.wrap_i64]; have := HY0.out; have := HH7.out; have := HHB5.out; have := HSB.out; omega
              have HGE := hide hge
              clear hge
              go_wp2_with (first
                | (go_at_call 30; (with_reducible refine KHD.out.mono ?_); rintro e w6 ⟨rfl, hw6⟩; have hw6 := hw6.symm; subst hw6)
                | ((with_reducible show wpList _ _ _ (⟨some 75, _, _, _, _, _⟩ :: _) _ _); refine wpList_gives (gives_make rfl rfl rfl (HMS.out _) ⟨rfl, rfl⟩) rfl ?_)
                | (go_at_call 24; (with_reducible refine KSP.out.mono ?_); rintro e w7 ⟨X7, rfl, hl7, hf7, hn7⟩; have HL7 := hide hl7; have HQ7 : Hid (X7.q = q) := hide (hn7.q.trans HQ5.out); have KH7 : Hid (Calls Tryd.prog 30 #[.pointer (some ⟨X7.q, 0, none⟩)] w7 (Same w7 (.int .i64 (H7 : Int)))) := hide (held_any hl7); rw [HQ7.out] at KH7; clear hl7 hf7 hn7)
                | (go_at_call 30; (with_reducible refine KH7.out.mono ?_); rintro e w8 ⟨rfl, hw8⟩; have hw8 := hw8.symm; subst hw8))
              refine ⟨⟨mT T5 (List.replicate sz 0), H7, X7, HQ7, HL7, hide ?_, hide ?_⟩, ?_⟩
              · rw [mT_len, List.length_replicate]
                have h1 := HS6.out
                have h2 := HH7.out
                have h3 := HGE.out
                omega
              · rcases HH6.out with h1 | h1
                · have h2 := HH7.out
                  have h3 := HGE.out
                  exact .inl (by omega)
                · exact .inr h1
              · have e1 := lenAt_is HL7.out
                have e2 := lenAt_is HL6.out
                rw [HQ7.out] at e1
                rw [HQ5.out] at e2
                rw [e1, e2]
                show 5000 - (mT T5 (List.replicate sz 0)).length < 5000 - T5.length
                rw [mT_len]
                have h1 := HHB5.out.2
                have h2 := HSB.out
                omega
            · have hgi : ¬ (sz : Int) + 2 ≤ (H5 : Int) := by omega
              have KSP := hide (held_spent HCB.out.1 HCB.out.2 HLM.out (some ⟨wr.heap.size, 0, none⟩) sz (List.replicate sz 0) (n := sz) (List.length_replicate ..) (mkW_rd sz wr) (mkW_not HL6.out sz) (by have := HSB.out; omega) (by have := HSB.out; omega) HS6.out hge)
              rw [HQ5.out] at KSP
              have KFL : Hid (∀ W X, LgAt w1 W X (dk2 (c + 3) 1 c) (hL c T5 H5) → X.q = q → Calls Tryd.prog 12 #[.pointer (some ⟨q, 0, none⟩)] W (LPost w1 W X (.int .i64 0) (flD (dk2 (c + 3) 1 c) (hL c T5 H5)) (flL (dk2 (c + 3) 1 c) (hL c T5 H5)))) := hide (fun W X hW hX => by
                have k1 := held_flush HCB.out.1 HCB.out.2 hW HS6.out (HT.out.ext HX1.out)
                rw [hX] at k1
                exact k1)
              have KRM : Hid (∀ W X, LgAt w1 W X (flD (dk2 (c + 3) 1 c) (hL c T5 H5)) (flL (dk2 (c + 3) 1 c) (hL c T5 H5)) → X.q = q → Calls Tryd.prog 29 #[.pointer (some ⟨q, 0, none⟩)] W (fun e w' => e = .returned (.int .i64 ((480 * c - T5.length - H5 : Nat) : Int)) ∧ ∃ m, w' = W.drewN m)) := hide (fun W X hW hX => by
                have k1 := held_flroom HCB.out.1 HCB.out.2 HS6.out hW
                rw [hX] at k1
                exact k1)
              obtain ⟨rm, HRM⟩ : ∃ rm, Hid (480 * c - T5.length - H5 = rm) := ⟨_, hide rfl⟩
              rw [HRM.out] at KRM
              have KH8 : Hid (∀ W X, LgAt w1 W X (flD (dk2 (c + 3) 1 c) (hL c T5 H5)) (flL (dk2 (c + 3) 1 c) (hL c T5 H5)) → X.q = q → Calls Tryd.prog 30 #[.pointer (some ⟨q, 0, none⟩)] W (Same W (.int .i64 (H5 : Int)))) := hide (fun W X hW hX => by
                have k1 := held_any hW
                rw [hX, (held_flL (c := c) (T := T5) (H := H5) HCB.out.1 HS6.out).2.1] at k1
                exact k1)
              obtain ⟨D9, HD9⟩ : ∃ D9, Hid (flD (dk2 (c + 3) 1 c) (hL c T5 H5) = D9) := ⟨_, hide rfl⟩
              obtain ⟨L9, HL9⟩ : ∃ L9, Hid (flL (dk2 (c + 3) 1 c) (hL c T5 H5) = L9) := ⟨_, hide rfl⟩
              rw [HD9.out, HL9.out] at KFL KRM KH8
              have HHK := HH6
              clear hge
              rcases Nat.eq_zero_or_pos k with hk0 | hk0
              · have hH5 : H5 = 0 := by rcases HHK.out with h1 | h1; exact h1; omega
                subst hH5
                subst hk0
                go_wp2_with (first
                  | (go_at_call 30; (with_reducible refine KHD.out.mono ?_); rintro e w6 ⟨rfl, hw6⟩; have hw6 := hw6.symm; subst hw6)
                  | ((with_reducible show wpList _ _ _ (⟨some 93, _, _, _, _, _⟩ :: _) _ _); refine wpList_gives (gives_make rfl rfl rfl (HMS.out _) ⟨rfl, rfl⟩) rfl ?_)
                  | (go_at_call 24; (with_reducible refine KSP.out.mono ?_); rintro e w7 ⟨X7, rfl, hl7, hf7, hn7⟩; have HL7 := hide hl7; have HQ7 : Hid (X7.q = q) := hide (hn7.q.trans HQ5.out); clear hl7 hf7 hn7)
                  | (go_at_call 12; (with_reducible refine (KFL.out w7 X7 HL7.out HQ7.out).mono ?_); rintro e w8 ⟨X8, rfl, hl8, hf8, hn8⟩; have HL8 := hide hl8; have HQ8 : Hid (X8.q = q) := hide (hn8.q.trans HQ7.out); clear hl8 hf8 hn8)
                  | (go_at_call 29; (with_reducible refine (KRM.out w8 X8 HL8.out HQ8.out).mono ?_); rintro e w9 ⟨rfl, m9, hw9⟩; have HL9 : Hid (LgAt w1 w9 X8 D9 L9) := hide (by rw [hw9]; exact HL8.out.ext_ ((Ext.refl _).drewN m9)); clear hw9)
                  | (go_at_call 30; (with_reducible refine (KH8.out w9 X8 HL9.out HQ8.out).mono ?_); rintro e w10 ⟨rfl, hw10⟩; have hw10 := hw10.symm; subst hw10))
                go_ret
                exact Ret.mk (HX1.out.trans HL9.out.ext) rfl
              · have hki : (0 : Int) < (k : Int) := by omega
                go_wp2_with (first
                  | (go_at_call 30; (with_reducible refine KHD.out.mono ?_); rintro e w6 ⟨rfl, hw6⟩; have hw6 := hw6.symm; subst hw6)
                  | ((with_reducible show wpList _ _ _ (⟨some 93, _, _, _, _, _⟩ :: _) _ _); refine wpList_gives (gives_make rfl rfl rfl (HMS.out _) ⟨rfl, rfl⟩) rfl ?_)
                  | (go_at_call 24; (with_reducible refine KSP.out.mono ?_); rintro e w7 ⟨X7, rfl, hl7, hf7, hn7⟩; have HL7 := hide hl7; have HQ7 : Hid (X7.q = q) := hide (hn7.q.trans HQ5.out); clear hl7 hf7 hn7)
                  | (go_at_call 12; (with_reducible refine (KFL.out w7 X7 HL7.out HQ7.out).mono ?_); rintro e w8 ⟨X8, rfl, hl8, hf8, hn8⟩; have HL8 := hide hl8; have HQ8 : Hid (X8.q = q) := hide (hn8.q.trans HQ7.out); clear hl8 hf8 hn8)
                  | (go_at_call 29; (with_reducible refine (KRM.out w8 X8 HL8.out HQ8.out).mono ?_); rintro e w9 ⟨rfl, m9, hw9⟩; have HL9 : Hid (LgAt w1 w9 X8 D9 L9) := hide (by rw [hw9]; exact HL8.out.ext_ ((Ext.refl _).drewN m9)); clear hw9))
                go_ret
                exact Ret.mk (HX1.out.trans HL9.out.ext) rfl
theorem held_int (a b d : Int) (hT : Tab w) (h1 : 0 ≤ a ∧ a ≤ 255) (h2 : 0 ≤ b ∧ b ≤ 65535) (h3 : 0 ≤ d ∧ d ≤ 255) :
    Calls Tryd.prog 6 #[.int .u8 a, .int .u16 b, .int .u8 d] w (Ret w (Is (.bool true))) := by
  obtain ⟨x, rfl⟩ : ∃ x : Nat, a = (x : Int) := ⟨a.toNat, by omega⟩
  obtain ⟨y, rfl⟩ : ∃ y : Nat, b = (y : Int) := ⟨b.toNat, by omega⟩
  obtain ⟨z, rfl⟩ : ∃ z : Nat, d = (z : Int) := ⟨d.toNat, by omega⟩
  exact logHeld_walk x y z (by omega) (by omega) (by omega) hT
end
end Go.Proofs.YtnhokabendibmaaDoor
namespace Go.Proofs.YtnhokabendibmaaDoor
open Go.RowKit

/-- The slice at A reads as these numbers of two bytes. -/
def RdU (w : World) (A : Option Addr) (l : List Nat) : Prop := l ≠ [] → ∃ b off, A = some ⟨b, off, none⟩ ∧ ∀ (j v : Nat), l[j]? = some v → w.cell? ⟨b, off + j, none⟩ = some (.int .u16 (v : Int))
structure Rl (w1 wr : World) (gm dg c : Nat) (X : Bk) (D : Dk) (L : Lg) (H : List UInt8) (M : Md) (vl : Value) (rs : List (List UInt8)) (o e : Nat) : Prop where
  log : LgAt w1 wr X D L
  mod : MdAt wr w1.heap.size gm vl M
  mir : Mir D L H M rs
  small : ∀ p ∈ rs, p.length ≤ 400
  su : L.sure = H.length
  at1 : L.at_ = 1
  cn : L.hd.cn = c
  ck : L.hd.ck = 0
  ops : D.ops ≤ o
  len : H.length ≤ e
  epo : L.hd.ep ≤ e
  dur : D.dur.length = c + 3
  g : X.g = dg
section
variable {w0 w : World} {X : Bk} {D : Dk} {L : Lg}
set_option maxRecDepth 20000 in
set_option maxHeartbeats 6400000 in
theorem logRings_walk (cn ev : Nat) (A : Option Addr) (l : List Nat) (n cc : Nat) (h1 : cn < 256) (h2 : ev < 256) (hr : RdU w A l) (hn : l.length = n) (hl : n ≤ 140737488355328) (hu : ∀ v ∈ l, v < 65536) (hT : Tab w) :
    Calls Tryd.prog 5 #[.int .u8 (cn : Int), .slice A n cc, .int .u8 (ev : Int)] w (Ret w (Is (.bool true))) := by
  have KA := hide (fun (W : World) (hW : Ext w W) => awake_any W (hT.ext hW))
  obtain ⟨c, HC⟩ : ∃ c, Hid (4 + cn % 6 = c) := ⟨_, hide rfl⟩
  have HCB : Hid (4 ≤ c ∧ c ≤ 9) := hide (by have := HC.out; omega)
  have KF : Hid (∀ W, Ext w W → Calls Tryd.prog 8 #[.int .i64 (c : Int)] W (FrPost c W)) := hide (fun W hW => fresh_any HCB.out.1 (by have := HCB.out.2; omega) (hT.ext hW))
  have hc1 : (4 : Int) + (cn : Int) % 6 = (c : Int) := by have := HC.out; omega
  have hcw : IntKind.i64.wrap (c : Int) = (c : Int) := by rw [IntKind.wrap_i64]; have := HCB.out; omega
  have hn1 : IntKind.i64.wrap (cn : Int) = (cn : Int) := by rw [IntKind.wrap_i64]; omega
  have HT := hide hT
  have HR := hide hr
  have HN := hide hn
  have HLB := hide hl
  have HU := hide hu
  have HEV := hide h2
  clear hT h1 h2 hr hn hl hu
  go_enter Tryd.func5, Tryd.ntmps5
  go_upto_region 9 with (first
    | (go_at_call 7; (with_reducible refine (KA.out w (Ext.refl w)).mono ?_); rintro e w1 ⟨rfl, hx1⟩; have HX1 := hide hx1; clear hx1)
    | (go_at_call 8; (with_reducible refine (KF.out w1 HX1.out).mono ?_); rintro e w2 ⟨X1, rfl, hl1⟩; have HL1 := hide hl1; clear hl1))
  clear hc1 hcw hn1 KA KF
  obtain ⟨gm, hgm⟩ : ∃ gm, w2.heap.size = gm := ⟨_, rfl⟩
  have HR0 : Hid (Rl w1 (w2.alloc (.cells #[.slice none 0 0, .int .u64 480, .int .u64 480, .int .u64 480, .int .u64 0, .int .i64 0, .int .i64 (c : Int)] 32)) gm X1.g c X1 (dk2 (c + 3) 1 c) (lgN 1 c) (List.replicate 480 0) ⟨[], 480, 480, 480, 0, 0, c⟩ (.slice none 0 0) [] (10 + 20 * 0) (482 + 403 * 0)) := hide (by
    have hx := Ext.alloc w2 (.cells #[.slice none 0 0, .int .u64 480, .int .u64 480, .int .u64 480, .int .u64 0, .int .i64 0, .int .i64 (c : Int)] 32)
    have hb := Rw.new w2 32 [.slice none 0 0, .int .u64 480, .int .u64 480, .int .u64 480, .int .u64 0, .int .i64 0, .int .i64 (c : Int)]
    rw [hgm] at hb
    have hl : (List.replicate 480 (0 : UInt8)).length = 480 := List.length_replicate ..
    refine ⟨HL1.out.ext_ hx, ⟨hb, .inl ⟨rfl, rfl⟩, by rw [← hgm]; exact HL1.out.ext.size⟩, ⟨rg_new HCB.out.1 (by have := HCB.out.2; omega), hl.symm, rfl, rfl, rfl, rfl, rfl, rfl, rfl, ?_, (fun p hp => by cases hp)⟩, (fun p hp => by cases hp), hl.symm, rfl, rfl, rfl, ?_, ?_, ?_, dk2_len, rfl⟩
    · show (List.replicate 480 (0 : UInt8)).drop 480 = []
      rfl
    · show 5 ≤ _
      omega
    · rw [hl]; omega
    · show 1 ≤ _
      omega)
  obtain ⟨dg, HDG⟩ : ∃ dg, Hid (X1.g = dg) := ⟨_, hide rfl⟩
  rw [HDG.out] at HR0 ⊢
  rw [hgm]
  go_loopw [9, 11] (fun gv iv wr => ∃ (i : Nat) (X : Bk) (D : Dk) (L : Lg) (H : List UInt8) (M : Md) (vl : Value) (rs : List (List UInt8)), gv = .pointer (some ⟨X.q, 0, none⟩) ∧ iv = .int .i64 (i : Int) ∧ Hid (i ≤ 80) ∧ Hid (rs.length ≤ 2) ∧ Hid (Rl w1 wr gm dg c X D L H M vl rs (10 + 20 * i) (482 + 403 * i))) (fun _ iv _ => 80 - (intOf iv).toNat)
  case atStart => exact ⟨0, X1, _, _, _, _, _, [], rfl, rfl, hide (by decide), hide (by decide), HR0⟩
  case round =>
    obtain ⟨i, X, D, L, H, M, vl, rs, rfl, rfl, HI, HRL, HRR⟩ := hrel
    clear HR0 HL1 HDG hgm
    have HSZ : Hid (w.heap.size ≤ wr.heap.size) := hide (by have h1 := HX1.out.size; have h2 := HRR.out.log.ext.size; omega)
    have HXR : Hid (Ext w wr) := hide (HX1.out.trans HRR.out.log.ext)
    by_cases hgo : i < n ∧ i < 80
    · obtain ⟨hin, hi8⟩ := hgo
      have hini : (i : Int) < (n : Int) := by omega
      have hi8i : (i : Int) < 80 := by omega
      obtain ⟨v, hv⟩ : ∃ v, l[i]? = some v := ⟨_, List.getElem?_eq_getElem (by rw [HN.out]; exact hin)⟩
      obtain ⟨ab, ao, hA, hcA⟩ := HR.out (by intro e; rw [e] at hv; cases hv)
      subst hA
      have cA : wr.cell? ⟨ab, ao + i, none⟩ = some (.int .u16 (v : Int)) := (World.cell?_of_block (Below.block HXR.out ab (World.block_lt_of_cell? w _ (hcA i v hv)))).trans (hcA i v hv)
      have HV : Hid (v < 65536) := hide (HU.out v (List.mem_of_getElem? hv))
      obtain ⟨sz, HSE⟩ : ∃ sz, Hid (1 + v % 400 = sz) := ⟨_, hide rfl⟩
      have HSB : Hid (1 ≤ sz ∧ sz ≤ 400) := hide (by have := HSE.out; omega)
      have hs1 : (1 : Int) + (v : Int) % 400 = (sz : Int) := by have := HSE.out; omega
      have hs0 : IntKind.i64.wrap (v : Int) = (v : Int) := by rw [IntKind.wrap_i64]; have := HV.out; omega
      have hs2 : IntKind.i64.wrap (sz : Int) = (sz : Int) := by rw [IntKind.wrap_i64]; have := HSB.out; omega
      have HM : Hid (∀ W : World, (Instr.makeSlice 33 (.int .i64 (sz : Int)) (.int .i64 (sz : Int))).run Tryd.prog W = .ok (.slice (some ⟨W.heap.size, 0, none⟩) sz sz) (mkW sz W)) := hide (fun W => mkW_run sz (by have := HSB.out; omega) W)
      have hb8 : IntKind.u8.wrap (i : Int) = (i : Int) := by rw [IntKind.wrap_u8]; omega
      obtain ⟨bp, HBP⟩ : ∃ bp, Hid (wr.heap.size = bp) := ⟨_, hide rfl⟩
      have RM : Rw (mkW sz wr) bp 5 (bs (List.replicate sz 0)) := by
        rw [← HBP.out]
        exact Blk.made wr sz
      have cM := RM.cell (i := 0) (v := .int .u8 0) (by
        obtain ⟨k, hk⟩ : ∃ k, sz = k + 1 := ⟨sz - 1, by have := HSB.out; omega⟩
        rw [hk]
        rfl)
      have fM := RM.frozen 0
      obtain ⟨p, HP⟩ : ∃ p, Hid ((List.replicate sz 0).set 0 (b8 (i : Int)) = p) := ⟨_, hide rfl⟩
      have HPL : Hid (p.length = sz) := hide (by rw [← HP.out, List.length_set, List.length_replicate])
      have HRP : Hid (Rd ((mkW sz wr).setCell ⟨bp, 0, none⟩ (.int .u8 (i : Int))) (some ⟨bp, 0, none⟩) p) := hide (by
        have h1 := RM.set 0 (.int .u8 (i : Int))
        have h2 : (bs (List.replicate sz 0)).set 0 (.int .u8 (i : Int)) = bs p := by
          have h3 : ((b8 (i : Int)).toNat : Int) = (i : Int) := by
            unfold b8
            rw [UInt8.toNat_ofNat']
            omega
          rw [← HP.out]
          unfold bs
          rw [List.map_set, h3]
        rw [h2] at h1
        exact Rd.of_rw h1)
      have HXP : Hid (Ext wr ((mkW sz wr).setCell ⟨bp, 0, none⟩ (.int .u8 (i : Int)))) := hide (Below.setCell (p := ⟨bp, 0, none⟩) (mkW_ext sz wr) (by rw [← HBP.out]; exact Nat.le_refl _) _)
      have HNP : Hid (∀ a, some (⟨bp, 0, none⟩ : Addr) = some a → ¬ X.has a.block ∧ a.block < ((mkW sz wr).setCell ⟨bp, 0, none⟩ (.int .u8 (i : Int))).heap.size) := hide (fun a ha => by
        have h1 := mkW_not HRR.out.log sz a (by rw [HBP.out]; exact ha)
        exact ⟨h1.1, by simpa using h1.2⟩)
      have hin2 : (0 : Int) < (sz : Int) := by have := HSB.out; omega
      have HIN := hide hin
      have HI8 := hide hi8
      clear hv hcA hin hi8
      go_upto_region 13 with ((with_reducible show wpList _ _ _ (⟨some 50, _, _, _, _, _⟩ :: _) _ _); refine wpList_gives (gives_make rfl rfl rfl (HM.out _) ⟨rfl, rfl⟩) rfl ?_; rw [HBP.out])
      clear cM fM RM cA hs0 hs1 hs2 hb8 hin2 HM hini hi8i
      obtain ⟨wp, hwp⟩ : ∃ wp, (mkW sz wr).setCell ⟨bp, 0, none⟩ (.int .u8 (i : Int)) = wp := ⟨_, rfl⟩
      rw [hwp] at HRP HXP HNP ⊢
      clear hwp
      have HMI := hide HRR.out.mir
      obtain ⟨en, HEN⟩ : ∃ en, Hid (H.length = en) := ⟨_, hide rfl⟩
      have HRO : Hid (RecOk p) := hide ⟨by rw [HPL.out]; have := HSB.out; omega, by rw [HPL.out]; have := HSB.out; omega⟩
      have HENB : Hid (en ≤ 482 + 403 * i ∧ en < 40000) := hide (by have h1 := HRR.out.len; have h2 := HEN.out; have h3 := HI.out; omega)
      have HFIT : Hid (H.length + 2 + p.length ≤ (L.hd.st / 480 + L.hd.cn) * 480) := hide (by
        have h1 := recsB_small rs HRR.out.small
        have h2 : (recsB rs).length = H.length - L.hd.fi := by rw [← HMI.out.recs, List.length_drop]
        have h3 := HMI.out.fi
        have h4 := HMI.out.rg.st
        have h5 := HMI.out.rg.cn
        have h6 := HPL.out
        have h7 := HSB.out
        have h8 := HRL.out
        omega)
      have HST := hide (HMI.out.app HRR.out.su p HRO.out HFIT.out (by rw [HEN.out, HPL.out]; have := HENB.out; have := HSB.out; omega) (by have := HRR.out.ops; have := HI.out; omega))
      obtain ⟨L1, HL1⟩ : ∃ L1, Hid (apL L p 0 = L1) := ⟨_, hide rfl⟩
      obtain ⟨L2, HL2⟩ : ∃ L2, Hid (flL D L1 = L2) := ⟨_, hide rfl⟩
      obtain ⟨D2, HD2⟩ : ∃ D2, Hid (flD D L1 = D2) := ⟨_, hide rfl⟩
      rw [HL1.out, HL2.out, HD2.out] at HST
      have HLP := hide (HRR.out.log.ext_ HXP.out)
      have KAP : Hid (Calls Tryd.prog 23 #[.pointer (some ⟨X.q, 0, none⟩), .slice (some ⟨bp, 0, none⟩) sz sz, .int .i64 0] wp (LPost w1 wp X (.tuple #[.int .u64 (en : Int), .int .i64 0]) D L1)) := hide (by
        have k := append_any HLP.out HMI.out.rg.ok (by have := HMI.out.rg.st; have := HMI.out.rg.sure; have := HMI.out.rg.big; omega) (some ⟨bp, 0, none⟩) sz sz p 0 HRP.out HPL.out (by have := HSB.out; omega) HNP.out (by have := HMI.out.rg.tail_len; have := HMI.out.rg.cn; omega) (by decide)
        unfold apR at k
        rw [HST.out.1, if_pos rfl, HMI.out.rg.end_, HEN.out, HL1.out] at k
        exact k)
      have KPU : Hid (∀ W, MdAt W w1.heap.size gm vl M → Rd W (some ⟨bp, 0, none⟩) p → w1.heap.size ≤ W.heap.size → Calls Tryd.prog 31 #[.pointer (some ⟨gm, 0, none⟩), .slice (some ⟨bp, 0, none⟩) sz sz] W (fun e w' => ∃ vl', e = .returned (.int .u64 (en : Int)) ∧ MdAt w' w1.heap.size gm vl' (appM M p) ∧ Mfr gm vl W w')) := hide (fun W h1 h2 h3 => by
        have k := put_any h1 (some ⟨bp, 0, none⟩) sz sz p h2 HPL.out (by have := HSB.out; omega) (by rw [HMI.out.l, plc_len]; have := HRL.out; omega) (by rw [HMI.out.en, HEN.out]; have := HENB.out; omega) h3
        refine k.mono fun e w' hh => ?_
        obtain ⟨v', e1, e2, e3, -⟩ := hh
        refine ⟨v', by rw [e1, HMI.out.en, HEN.out], ?_, e3⟩
        unfold appM
        rw [HPL.out]
        exact e2)
      have KFL : Hid (∀ W X', LgAt w1 W X' D L1 → X'.q = X.q → Calls Tryd.prog 12 #[.pointer (some ⟨X.q, 0, none⟩)] W (LPost w1 W X' (.int .i64 0) D2 L2)) := hide (fun W X' h1 h2 => by
        have r1 := HST.out.2.1
        have k := flush_any h1 r1.ok r1.bd (by rw [r1.pen]; decide) (by have := HRR.out.ops; have := HI.out; omega) (by have := r1.tail_len; have := r1.cn; omega) (HT.out.ext HX1.out)
        rw [HST.out.2.2.1, HL2.out, HD2.out, h2] at k
        exact k)
      go_upto_region 16 with (first
        | (go_at_call 23; (with_reducible refine KAP.out.mono ?_); rintro e w4 ⟨X4, rfl, hl4, hf4, hn4⟩; have HL4 := hide hl4; have HM4 : Hid (MdAt w4 w1.heap.size gm vl M) := hide ((HRR.out.mod.ext HXP.out).lfr HLP.out hf4); have HR4 : Hid (Rd w4 (some ⟨bp, 0, none⟩) p) := hide (HRP.out.lfr hf4 (fun a ha => (HNP.out a ha).1)); have HN4 := hide hn4; clear hl4 hf4 hn4)
        | (go_at_call 31; (with_reducible refine (KPU.out w4 HM4.out HR4.out HL4.out.ext.size).mono ?_); rintro e w5 ⟨vl5, rfl, hm5, hf5⟩; have HM5 := hide hm5; have HL5 : Hid (LgAt w1 w5 X4 D L1) := hide (HL4.out.mfr HM4.out hf5); clear hm5 hf5)
        | (go_at_call 12; (with_reducible refine (KFL.out w5 X4 HL5.out HN4.out.q).mono ?_); rintro e w6 ⟨X6, rfl, hl6, hf6, hn6⟩; have HL6 := hide hl6; have HM6 : Hid (MdAt w6 w1.heap.size gm vl5 (appM M p)) := hide (HM5.out.lfr HL5.out hf6); have HQ6 : Hid (X6.q = X.q ∧ X6.g = X.g) := hide ⟨hn6.q.trans HN4.out.q, hn6.g.trans HN4.out.g⟩; clear hl6 hf6 hn6))
      have c1 := HM6.out.cells.2.1
      have f2 := HM6.out.blk.frozen 2
      have c2 := HM6.out.cells.2.2.1
      have HW7 : Hid (MdAt (w6.setCell ⟨gm, 2, none⟩ (.int .u64 ((appM M p).en : Int))) w1.heap.size gm vl5 (sureM (appM M p))) := hide (HM6.out.put 2 _ _ rfl rfl)
      have HL7 : Hid (LgAt w1 (w6.setCell ⟨gm, 2, none⟩ (.int .u64 ((appM M p).en : Int))) X6 D2 L2) := hide (HL6.out.mfr HM6.out (Mfr.cell 2 _))
      go_upto_region 17 with fail
      obtain ⟨w7, hw7⟩ : ∃ w7, w6.setCell ⟨gm, 2, none⟩ (.int .u64 ((appM M p).en : Int)) = w7 := ⟨_, rfl⟩
      rw [hw7] at HW7 HL7 ⊢
      clear hw7 c1 f2 c2
      obtain ⟨H9, HH9⟩ : ∃ H9, Hid (H ++ frm p = H9) := ⟨_, hide rfl⟩
      obtain ⟨M7, HM7⟩ : ∃ M7, Hid (sureM (appM M p) = M7) := ⟨_, hide rfl⟩
      obtain ⟨rs7, HS7⟩ : ∃ rs7, Hid (rs ++ [p] = rs7) := ⟨_, hide rfl⟩
      have HR7 : Hid (Rl w1 w7 gm dg c X6 D2 L2 H9 M7 vl5 rs7 (10 + 20 * i + 12) (482 + 403 * i + 402)) := hide (by
        obtain ⟨s1, s2, s3, s4, s5, s6, s7, s8, s9⟩ := HST.out
        have r := HRR.out
        have h1 := r.ops
        have h2 := r.len
        have h3 := r.epo
        have h4 := HPL.out
        have h5 := HSB.out
        have h6 := HCB.out
        have h7 := r.cn
        rw [← HH9.out, ← HM7.out, ← HS7.out]
        refine ⟨HL7.out, HW7.out, s4, fun q hq => ?_, s5, by rw [s7]; exact r.at1, by rw [s6]; exact r.cn, by rw [s6]; exact r.ck, by omega, by rw [List.length_append, frm_len]; omega, by rw [s6]; omega, by rw [s9]; exact r.dur, HQ6.out.2.trans r.g⟩
        rcases List.mem_append.1 hq with h | h
        · exact r.small q h
        · rw [List.mem_singleton.1 h]; omega)
      have HS7L : Hid (rs7.length = rs.length + 1) := hide (by rw [← HS7.out, List.length_append]; rfl)
      have HQ7 : Hid (X6.q = X.q) := hide HQ6.out.1
      clear HW7 HL7 HM6 HL6 HST KAP KPU KFL HLP HFIT HRO HMI HM5 HL5 HM4 HL4 HR4 HN4 HRP HXP HNP HRR HXR HSZ HR HENB HEN HL1 HL2 HD2 HP HPL HH9 HM7 HS7
      obtain ⟨nl, HNL⟩ : ∃ nl, Hid (M7.l.length = nl) := ⟨_, hide rfl⟩
      have HNLE : Hid (nl = rs7.length) := hide (by rw [← HNL.out, HR7.out.mir.l, plc_len])
      obtain ⟨A7, d7, hv7⟩ := HR7.out.mod.recs.slice
      rw [HNL.out] at hv7
      have c0 := HR7.out.mod.cells.1
      rw [hv7] at c0
      by_cases hmany : 2 < nl
      · have h3 : nl = 3 := by have := HNLE.out; have := HS7L.out; have := HRL.out; omega
        subst h3
        obtain ⟨a, rs8, hrs⟩ : ∃ a rs8, rs7 = a :: rs8 := by
          cases rs7 with
          | nil => exact absurd HNLE.out (by decide)
          | cons a rs8 => exact ⟨a, rs8, rfl⟩
        subst hrs
        obtain ⟨g7, o7, e7, hv8, hnc7, hcell7⟩ := HR7.out.mod.recs.at (by intro e; rw [e] at HNL; exact absurd HNL.out (by decide))
        rw [HNL.out] at hv8 hnc7
        rw [hv8] at hv7
        obtain ⟨fi, HFI⟩ : ∃ fi, Hid (L2.hd.fi = fi) := ⟨_, hide rfl⟩
        obtain ⟨pl, HPLC⟩ : ∃ pl, Hid (fi + (2 + a.length) = pl) := ⟨_, hide rfl⟩
        have HLE : Hid (M7.l = (fi, a) :: plc pl rs8) := hide (by rw [HR7.out.mir.l, HFI.out, ← HPLC.out]; rfl)
        have hcc : ¬ e7 = 1 := by omega
        have hcc1 : 1 ≤ e7 := by omega
        have hcc2 : (1 : Int) ≤ (e7 : Int) := by omega
        injection hv7 with q1 q2 q3
        subst q1 q3
        have f0 := HR7.out.mod.blk.frozen 0
        have hg2 : (2 : Int) < ((3 : Nat) : Int) := by decide
        clear hmany
        go_upto_region 18 with fail
        go_cut [] from 88 to 101 (fun wx => Hid (wx = (w7.setCell ⟨gm, 0, none⟩ (.slice (some ⟨g7, o7 + 2, none⟩) 2 (e7 - 1))).drew))
        case first =>
          go_region
          all_goals (go_wp2_with fail; go_meet)
          all_goals exact hide rfl
        case rest =>
        obtain ⟨w8, hw8⟩ : ∃ w8, w8 = wc := ⟨_, rfl⟩
        subst hw8
        have HD1 : Hid (RecS w7 w1.heap.size (.slice (some ⟨g7, o7 + 2, none⟩) 2 (e7 - 1)) (plc pl rs8)) := hide (by
          have h1 := HR7.out.mod.recs
          rw [hv8] at h1
          have h2 := RecS.drop h1 1 (by decide) (by omega)
          rw [HLE.out] at h2
          exact h2)
        have HM8 : Hid (MdAt w8 w1.heap.size gm (.slice (some ⟨g7, o7 + 2, none⟩) 2 (e7 - 1)) { M7 with l := plc pl rs8 }) := hide (by
          rw [hcut.out]
          refine (HR7.out.mod.putL _ _ HD1.out (fun e => ?_)).ext (Ext.drew _)
          have e : g7 = gm := by simpa [Value.ownBlock] using e
          exact HR7.out.mod.ne g7 (by rw [hv8]; rfl) e)
        have HL8 : Hid (LgAt w1 w8 X6 D2 L2) := hide (by
          rw [hcut.out]
          exact (HR7.out.log.mfr HR7.out.mod (Mfr.cell 0 _)).ext_ (Ext.drew _))
        have HPF : Hid (pl < 1000000 ∧ 480 ≤ fi) := hide (by
          have h1 := HR7.out.mir.rg.st
          have h2 := HR7.out.len
          have h3 := HR7.out.mir.rg.sure
          have h4 := HI8.out
          have h5 := HR7.out.small a (by simp)
          have h6 := HFI.out
          have h7 := HPLC.out
          omega)
        have HMK := hide (HR7.out.mir.mark HR7.out.su HR7.out.ck (by have := HR7.out.ops; have := HI8.out; omega) pl (by rw [HFI.out]; exact HPLC.out.symm))
        obtain ⟨L9, HL9⟩ : ∃ L9, Hid (mkL D2 L2 0 pl = L9) := ⟨_, hide rfl⟩
        obtain ⟨D9, HD9⟩ : ∃ D9, Hid (mkD D2 L2 0 pl = D9) := ⟨_, hide rfl⟩
        rw [HL9.out, HD9.out] at HMK
        have KMK : Hid (Calls Tryd.prog 14 #[.pointer (some ⟨X.q, 0, none⟩), .int .u64 0, .int .u64 (pl : Int)] w8 (LPost w1 w8 X6 (.int .i64 0) D9 L9)) := hide (by
          have r1 := HR7.out.mir.rg
          have k := mark_any HL8.out r1.ok r1.bd (by rw [r1.pen]; decide) (by have := HR7.out.ops; have := HI8.out; omega) 0 pl (by decide) (by have := HPF.out; omega) (by have := r1.st; have := r1.sure; have := r1.big; omega) (by rw [r1.end_]; exact r1.sure) (HT.out.ext HX1.out)
          rw [HMK.out.1, HL9.out, HD9.out, HQ7.out] at k
          exact k)
        have c0 := HM8.out.cells.1
        have hne8 : plc pl rs8 ≠ [] := by
          intro e
          have h1 := plc_len rs8 pl
          rw [e] at h1
          have h2 : (a :: rs8).length = 3 := HNLE.out.symm
          have h3 : rs8.length = 0 := h1.symm
          rw [List.length_cons, h3] at h2
          omega
        have HAT : Hid (∀ W, MdAt W w1.heap.size gm (.slice (some ⟨g7, o7 + 2, none⟩) 2 (e7 - 1)) { M7 with l := plc pl rs8 } → W.cell? ⟨g7, o7 + 2, none⟩ = some (.int .u64 (pl : Int))) := hide (fun W hW => by
          obtain ⟨g8, o8, e8, hv9, -, hc8⟩ := hW.recs.at hne8
          injection hv9 with q1 q2 q3
          injection q1 with q1
          injection q1 with q4 q5
          subst q4 q5
          cases rs8 with
          | nil => exact absurd rfl hne8
          | cons b rs9 =>
            have h1 := (hc8 0 (pl, b) rfl).1
            rw [Nat.zero_mul, Nat.add_zero] at h1
            exact h1)
        have cp := HAT.out w8 HM8.out
        have he7 : (2 : Nat) ≤ e7 - 1 := by omega
        clear hcut f0 hcc hcc1 hcc2 hv8 hg2 hcell7 hne8
        go_upto_region 21 with (go_at_call 14; (with_reducible refine KMK.out.mono ?_); rintro e w9 ⟨X9, rfl, hl9, hf9, hn9⟩; have HL9W := hide hl9; have HM9 : Hid (MdAt w9 w1.heap.size gm (.slice (some ⟨g7, o7 + 2, none⟩) 2 (e7 - 1)) { M7 with l := plc pl rs8 }) := hide (HM8.out.lfr HL8.out hf9); have HQG9 : Hid (X9.q = X.q ∧ X9.g = X6.g) := hide ⟨hn9.q.trans HQ7.out, hn9.g⟩; clear hl9 hf9 hn9 c0 cp)
        have c0 := HM9.out.cells.1
        have cp := HAT.out w9 HM9.out
        have f3 := HM9.out.blk.frozen 3
        have c3 := HM9.out.cells.2.2.2.1
        have HW9 : Hid (MdAt (w9.setCell ⟨gm, 3, none⟩ (.int .u64 (pl : Int))) w1.heap.size gm (.slice (some ⟨g7, o7 + 2, none⟩) 2 (e7 - 1)) (markM M7 (plc pl rs8) pl)) := hide (HM9.out.put 3 _ _ rfl rfl)
        have HV9 : Hid (LgAt w1 (w9.setCell ⟨gm, 3, none⟩ (.int .u64 (pl : Int))) X9 D9 L9) := hide (HL9W.out.mfr HM9.out (Mfr.cell 3 _))
        go_upto_region 22 with fail
        obtain ⟨wz, hwz⟩ : ∃ wz, w9.setCell ⟨gm, 3, none⟩ (.int .u64 (pl : Int)) = wz := ⟨_, rfl⟩
        rw [hwz] at HW9 HV9 ⊢
        obtain ⟨Mz, HMZ⟩ : ∃ Mz, Hid (markM M7 (plc pl rs8) pl = Mz) := ⟨_, hide rfl⟩
        obtain ⟨vz, HVZ⟩ : ∃ vz, Hid (Value.slice (some ⟨g7, o7 + 2, none⟩) 2 (e7 - 1) = vz) := ⟨_, hide rfl⟩
        have HR9 : Hid (Rl w1 wz gm dg c X9 D9 L9 H9 Mz vz rs8 (10 + 20 * i + 14) (482 + 403 * i + 402)) := hide (by
          obtain ⟨o1, o2, o3, o4, o5, o6, o7, o8, o9⟩ := HMK.out
          have r := HR7.out
          have h1 := r.ops
          rw [← HMZ.out, ← HVZ.out]
          exact ⟨HV9.out, HW9.out, o2, fun q hq => r.small q (by simp [hq]), by rw [o3]; exact r.su, by rw [o7]; exact r.at1, by rw [o4]; exact r.cn, o5, by omega, r.len, by rw [o6]; exact r.epo, by rw [o9]; exact r.dur, by rw [HQG9.out.2]; exact r.g⟩)
        have HQ9 : Hid (X9.q = X.q) := hide HQG9.out.1
        have HRL9 : Hid (rs8.length ≤ 2) := hide (by
          have h2 : (a :: rs8).length = 3 := HNLE.out.symm
          rw [List.length_cons] at h2
          omega)
        clear hwz c0 cp f3 c3 he7 HMZ HVZ HV9 HW9 HM9 HL9W HQG9 HM8 HL8
        clear HR7 HL9 HD9 HMK KMK HAT HD1
        have HEK : Hid (i % (1 + ev % 9) = i % (1 + ev % 9)) := hide rfl
        obtain ⟨kk, HKK⟩ : ∃ kk, Hid (1 + ev % 9 = kk) := ⟨_, hide rfl⟩
        have hk1 : (1 : Int) + (ev : Int) % 9 = (kk : Int) := by have := HKK.out; omega
        have hk0 : IntKind.i64.wrap (ev : Int) = (ev : Int) := by rw [IntKind.wrap_i64]; have := HEV.out; omega
        have hk2 : IntKind.i64.wrap (kk : Int) = (kk : Int) := by rw [IntKind.wrap_i64]; have := HKK.out; omega
        have hk3 : ¬ (kk : Int) = 0 := by have := HKK.out; omega
        have hk4 : ((kk : Int) == 0) = false := by simpa using hk3
        have hk5 : IntKind.i64.wrap ((i : Int) % (kk : Int)) = (i : Int) % (kk : Int) := by
          have h1 := Int.emod_nonneg (i : Int) hk3
          have h2 := Int.emod_lt_of_pos (i : Int) (show 0 < (kk : Int) by have := HKK.out; omega)
          rw [IntKind.wrap_i64]
          have := HKK.out
          omega
        have hi1 : IntKind.i64.wrap ((i : Int) + 1) = ((i + 1 : Nat) : Int) := by rw [IntKind.wrap_i64]; have := HI.out; omega
        obtain ⟨i1, HI1⟩ : ∃ i1, Hid (i + 1 = i1) := ⟨_, hide rfl⟩
        rw [HI1.out] at hi1
        have hki0 : (0 : Int) ≤ (i : Int) := by omega
        by_cases hev : (i : Int) % (kk : Int) = 0
        · have hev2 : ((i : Int) % (kk : Int) == 0) = true := by simpa using hev
          have HOPN := hide (HR9.out.mir.opened HR9.out.su (by have := HR9.out.ops; have := HI.out; omega) (by have := HR9.out.epo; have := HI.out; omega))
          have hat1 := HR9.out.at1
          have hcn1 := HR9.out.cn
          rw [hat1, hcn1] at HOPN
          obtain ⟨D11, HD11⟩ : ∃ D11, Hid (opD D9 ((1 : Nat) : Int) (c : Int) = D11) := ⟨_, hide rfl⟩
          obtain ⟨L11, HL11⟩ : ∃ L11, Hid (opL D9 ((1 : Nat) : Int) = L11) := ⟨_, hide rfl⟩
          rw [HD11.out, HL11.out] at HOPN
          have KRS : Hid (Calls Tryd.prog 16 #[.pointer (some ⟨dg, 0, none⟩), .slice none 0 0] wz (LPost w1 wz X9 (.int .i64 0) D9 L9)) := hide (by
            have k := restart_any (ck := 0) (P := none) HR9.out.log.disk HR9.out.mir.rg.bd.ok (by rw [HR9.out.mir.rg.pen]; decide) HR9.out.log.ext.size [] (fun W hW hn => absurd rfl hn)
            rw [HOPN.out.1, HR9.out.g] at k
            refine k.mono fun e w' hh => ?_
            rw [← HR9.out.g] at hh
            exact LPost.of_disk HR9.out.log hh)
          have KOP : Hid (∀ W X', LgAt w1 W X' D9 L9 → X'.g = dg → Calls Tryd.prog 17 #[.pointer (some ⟨dg, 0, none⟩), .int .i64 1, .int .i64 (c : Int)] W (fun e w' => ∃ X'', e = .returned (.tuple #[.pointer (some ⟨X''.q, 0, none⟩), .int .i64 0]) ∧ LgAt w1 w' X'' D11 L11 ∧ X''.g = dg ∧ Dfr X'.g X'.gd X'.gn X'.A W w')) := hide (fun W X' h1 h2 => by
            have rg := HR9.out.mir.rg
            have hh := rg.rhE
            rw [hat1] at hh
            have hb1 := rg.st
            have hb2 := rg.sure
            have hb3 := rg.big
            have k := open_any h1.ext h1.disk rg.bd (by rw [rg.pen]; decide) (by have := HR9.out.ops; have := HI.out; omega) (HT.out.ext HX1.out) ((1 : Nat) : Int) (c : Int) (by decide) (by have := HCB.out; omega) (by rw [hh.2]; omega) (by rw [hh.2]; omega)
            rw [HOPN.out.2.1, HD11.out, HL11.out, h2] at k
            refine k.mono fun e w' hp => ?_
            obtain ⟨X'', e1, e2, e3, e4, e5, e6, -⟩ := hp.1 rfl
            rw [← h2] at e6
            exact ⟨X'', e1, e2, e3, e6⟩)
          clear hat1 hcn1
          go_upto_region 28 with (first
            | (go_at_call 16; (with_reducible refine KRS.out.mono ?_); rintro e w10 ⟨X10, rfl, hl10, hf10, hn10⟩; have HL10 := hide hl10; have HM10 : Hid (MdAt w10 w1.heap.size gm vz Mz) := hide (HR9.out.mod.lfr HR9.out.log hf10); have HG10 : Hid (X10.g = dg) := hide (hn10.g.trans HR9.out.g); clear hl10 hf10 hn10)
            | (go_at_call 17; (with_reducible refine (KOP.out w10 X10 HL10.out HG10.out).mono ?_); rintro e w11 ⟨X11, rfl, hl11, hg11, hf11⟩; have HL11A := hide hl11; have HM11 : Hid (MdAt w11 w1.heap.size gm vz Mz) := hide (HM10.out.dfr HL10.out rfl rfl rfl rfl hf11); have HG11 := hide hg11; clear hl11 hf11 hg11))
          have HR11 : Hid (Rl w1 w11 gm dg c X11 D11 L11 H9 Mz vz rs8 (10 + 20 * i1) (482 + 403 * i1)) := hide (by
            obtain ⟨o1, o2, o3, o4, o5, o6, o7, o8, o9, o10⟩ := HOPN.out
            have h1 := HR9.out.ops
            have h2 := HR9.out.len
            have h3 := HR9.out.epo
            have h4 := HI1.out
            have h5 := HR9.out.su
            have h6 := HR9.out.cn
            have h7 := HR9.out.ck
            have h8 := HR9.out.dur
            exact ⟨HL11A.out, HM11.out, o3, HR9.out.small, by rw [o4]; exact h5, o5, o6, by rw [o7]; exact h7, by omega, by omega, by omega, by rw [o10]; exact h8, HG11.out⟩)
          have KSM := hide (same_any HR11.out.log HR11.out.mod HR11.out.mir)
          have KAL : Hid (∀ W, Ext w11 W → Calls Tryd.prog 33 #[.pointer (some ⟨gm, 0, none⟩), .pointer (some ⟨X11.q, 0, none⟩)] W (fun e w' => e = .returned (.bool true) ∧ Ext W w')) := hide (fun W hW => all_any (HR11.out.log.ext_ hW) (HR11.out.mod.ext hW) HR11.out.mir (HT.out.ext HX1.out))
          go_wp2_with (first
            | (go_at_call 32; (with_reducible refine KSM.out.mono ?_); rintro e w12 ⟨rfl, m12, hw12⟩; have HX12 : Hid (Ext w11 w12) := hide (by rw [hw12]; exact (Ext.refl _).drewN _); clear hw12)
            | (go_at_call 33; (with_reducible refine (KAL.out w12 HX12.out).mono ?_); rintro e w13 ⟨rfl, hx13⟩; have HX13 : Hid (Ext w11 w13) := hide (HX12.out.trans hx13); clear hx13))
          refine ⟨⟨i1, X11, D11, L11, H9, Mz, vz, rs8, rfl, rfl, hide (by have := HI1.out; have := HI8.out; omega), HRL9, hide ?_⟩, ?_⟩
          · have r := HR11.out
            exact ⟨r.log.ext_ HX13.out, r.mod.ext HX13.out, r.mir, r.small, r.su, r.at1, r.cn, r.ck, r.ops, r.len, r.epo, r.dur, r.g⟩
          · show 80 - ((i1 : Nat) : Int).toNat < 80 - ((i : Nat) : Int).toNat
            have := HI1.out
            have := HI8.out
            omega
        · have hev2 : ((i : Int) % (kk : Int) == 0) = false := by simpa using hev
          go_upto_region 28 with fail
          have HR11 : Hid (Rl w1 wz gm dg c X9 D9 L9 H9 Mz vz rs8 (10 + 20 * i1) (482 + 403 * i1)) := hide (by
            have r := HR9.out
            have h1 := r.ops
            have h2 := r.len
            have h3 := r.epo
            have h4 := HI1.out
            exact ⟨r.log, r.mod, r.mir, r.small, r.su, r.at1, r.cn, r.ck, by omega, by omega, by omega, r.dur, r.g⟩)
          have KSM := hide (same_any HR11.out.log HR11.out.mod HR11.out.mir)
          have KAL : Hid (∀ W, Ext wz W → Calls Tryd.prog 33 #[.pointer (some ⟨gm, 0, none⟩), .pointer (some ⟨X9.q, 0, none⟩)] W (fun e w' => e = .returned (.bool true) ∧ Ext W w')) := hide (fun W hW => all_any (HR11.out.log.ext_ hW) (HR11.out.mod.ext hW) HR11.out.mir (HT.out.ext HX1.out))
          rw [HQ9.out] at KSM KAL
          go_wp2_with (first
            | (go_at_call 32; (with_reducible refine KSM.out.mono ?_); rintro e w12 ⟨rfl, m12, hw12⟩; have HX12 : Hid (Ext wz w12) := hide (by rw [hw12]; exact (Ext.refl _).drewN _); clear hw12)
            | (go_at_call 33; (with_reducible refine (KAL.out w12 HX12.out).mono ?_); rintro e w13 ⟨rfl, hx13⟩; have HX13 : Hid (Ext wz w13) := hide (HX12.out.trans hx13); clear hx13))
          refine ⟨⟨i1, X9, D9, L9, H9, Mz, vz, rs8, by rw [HQ9.out], rfl, hide (by have := HI1.out; have := HI8.out; omega), HRL9, hide ?_⟩, ?_⟩
          · have r := HR11.out
            exact ⟨r.log.ext_ HX13.out, r.mod.ext HX13.out, r.mir, r.small, r.su, r.at1, r.cn, r.ck, r.ops, r.len, r.epo, r.dur, r.g⟩
          · show 80 - ((i1 : Nat) : Int).toNat < 80 - ((i : Nat) : Int).toNat
            have := HI1.out
            have := HI8.out
            omega
      · have hmi : ¬ (2 : Int) < (nl : Int) := by omega
        have HRL9 : Hid (rs7.length ≤ 2) := hide (by have := HNLE.out; omega)
        have HR9 : Hid (Rl w1 w7 gm dg c X6 D2 L2 H9 M7 vl5 rs7 (10 + 20 * i + 14) (482 + 403 * i + 402)) := hide (by
          have r := HR7.out
          have h1 := r.ops
          exact ⟨r.log, r.mod, r.mir, r.small, r.su, r.at1, r.cn, r.ck, by omega, r.len, r.epo, r.dur, r.g⟩)
        have HQ9 := HQ7
        clear hmany hv7
        go_upto_region 22 with fail
        clear c0 hmi
        clear HR7
        have HEK : Hid (i % (1 + ev % 9) = i % (1 + ev % 9)) := hide rfl
        obtain ⟨kk, HKK⟩ : ∃ kk, Hid (1 + ev % 9 = kk) := ⟨_, hide rfl⟩
        have hk1 : (1 : Int) + (ev : Int) % 9 = (kk : Int) := by have := HKK.out; omega
        have hk0 : IntKind.i64.wrap (ev : Int) = (ev : Int) := by rw [IntKind.wrap_i64]; have := HEV.out; omega
        have hk2 : IntKind.i64.wrap (kk : Int) = (kk : Int) := by rw [IntKind.wrap_i64]; have := HKK.out; omega
        have hk3 : ¬ (kk : Int) = 0 := by have := HKK.out; omega
        have hk4 : ((kk : Int) == 0) = false := by simpa using hk3
        have hk5 : IntKind.i64.wrap ((i : Int) % (kk : Int)) = (i : Int) % (kk : Int) := by
          have h1 := Int.emod_nonneg (i : Int) hk3
          have h2 := Int.emod_lt_of_pos (i : Int) (show 0 < (kk : Int) by have := HKK.out; omega)
          rw [IntKind.wrap_i64]
          have := HKK.out
          omega
        have hi1 : IntKind.i64.wrap ((i : Int) + 1) = ((i + 1 : Nat) : Int) := by rw [IntKind.wrap_i64]; have := HI.out; omega
        obtain ⟨i1, HI1⟩ : ∃ i1, Hid (i + 1 = i1) := ⟨_, hide rfl⟩
        rw [HI1.out] at hi1
        have hki0 : (0 : Int) ≤ (i : Int) := by omega
        by_cases hev : (i : Int) % (kk : Int) = 0
        · have hev2 : ((i : Int) % (kk : Int) == 0) = true := by simpa using hev
          have HOPN := hide (HR9.out.mir.opened HR9.out.su (by have := HR9.out.ops; have := HI.out; omega) (by have := HR9.out.epo; have := HI.out; omega))
          have hat1 := HR9.out.at1
          have hcn1 := HR9.out.cn
          rw [hat1, hcn1] at HOPN
          obtain ⟨D11, HD11⟩ : ∃ D11, Hid (opD D2 ((1 : Nat) : Int) (c : Int) = D11) := ⟨_, hide rfl⟩
          obtain ⟨L11, HL11⟩ : ∃ L11, Hid (opL D2 ((1 : Nat) : Int) = L11) := ⟨_, hide rfl⟩
          rw [HD11.out, HL11.out] at HOPN
          have KRS : Hid (Calls Tryd.prog 16 #[.pointer (some ⟨dg, 0, none⟩), .slice none 0 0] w7 (LPost w1 w7 X6 (.int .i64 0) D2 L2)) := hide (by
            have k := restart_any (ck := 0) (P := none) HR9.out.log.disk HR9.out.mir.rg.bd.ok (by rw [HR9.out.mir.rg.pen]; decide) HR9.out.log.ext.size [] (fun W hW hn => absurd rfl hn)
            rw [HOPN.out.1, HR9.out.g] at k
            refine k.mono fun e w' hh => ?_
            rw [← HR9.out.g] at hh
            exact LPost.of_disk HR9.out.log hh)
          have KOP : Hid (∀ W X', LgAt w1 W X' D2 L2 → X'.g = dg → Calls Tryd.prog 17 #[.pointer (some ⟨dg, 0, none⟩), .int .i64 1, .int .i64 (c : Int)] W (fun e w' => ∃ X'', e = .returned (.tuple #[.pointer (some ⟨X''.q, 0, none⟩), .int .i64 0]) ∧ LgAt w1 w' X'' D11 L11 ∧ X''.g = dg ∧ Dfr X'.g X'.gd X'.gn X'.A W w')) := hide (fun W X' h1 h2 => by
            have rg := HR9.out.mir.rg
            have hh := rg.rhE
            rw [hat1] at hh
            have hb1 := rg.st
            have hb2 := rg.sure
            have hb3 := rg.big
            have k := open_any h1.ext h1.disk rg.bd (by rw [rg.pen]; decide) (by have := HR9.out.ops; have := HI.out; omega) (HT.out.ext HX1.out) ((1 : Nat) : Int) (c : Int) (by decide) (by have := HCB.out; omega) (by rw [hh.2]; omega) (by rw [hh.2]; omega)
            rw [HOPN.out.2.1, HD11.out, HL11.out, h2] at k
            refine k.mono fun e w' hp => ?_
            obtain ⟨X'', e1, e2, e3, e4, e5, e6, -⟩ := hp.1 rfl
            rw [← h2] at e6
            exact ⟨X'', e1, e2, e3, e6⟩)
          clear hat1 hcn1
          go_upto_region 28 with (first
            | (go_at_call 16; (with_reducible refine KRS.out.mono ?_); rintro e w10 ⟨X10, rfl, hl10, hf10, hn10⟩; have HL10 := hide hl10; have HM10 : Hid (MdAt w10 w1.heap.size gm vl5 M7) := hide (HR9.out.mod.lfr HR9.out.log hf10); have HG10 : Hid (X10.g = dg) := hide (hn10.g.trans HR9.out.g); clear hl10 hf10 hn10)
            | (go_at_call 17; (with_reducible refine (KOP.out w10 X10 HL10.out HG10.out).mono ?_); rintro e w11 ⟨X11, rfl, hl11, hg11, hf11⟩; have HL11A := hide hl11; have HM11 : Hid (MdAt w11 w1.heap.size gm vl5 M7) := hide (HM10.out.dfr HL10.out rfl rfl rfl rfl hf11); have HG11 := hide hg11; clear hl11 hf11 hg11))
          have HR11 : Hid (Rl w1 w11 gm dg c X11 D11 L11 H9 M7 vl5 rs7 (10 + 20 * i1) (482 + 403 * i1)) := hide (by
            obtain ⟨o1, o2, o3, o4, o5, o6, o7, o8, o9, o10⟩ := HOPN.out
            have h1 := HR9.out.ops
            have h2 := HR9.out.len
            have h3 := HR9.out.epo
            have h4 := HI1.out
            have h5 := HR9.out.su
            have h6 := HR9.out.cn
            have h7 := HR9.out.ck
            have h8 := HR9.out.dur
            exact ⟨HL11A.out, HM11.out, o3, HR9.out.small, by rw [o4]; exact h5, o5, o6, by rw [o7]; exact h7, by omega, by omega, by omega, by rw [o10]; exact h8, HG11.out⟩)
          have KSM := hide (same_any HR11.out.log HR11.out.mod HR11.out.mir)
          have KAL : Hid (∀ W, Ext w11 W → Calls Tryd.prog 33 #[.pointer (some ⟨gm, 0, none⟩), .pointer (some ⟨X11.q, 0, none⟩)] W (fun e w' => e = .returned (.bool true) ∧ Ext W w')) := hide (fun W hW => all_any (HR11.out.log.ext_ hW) (HR11.out.mod.ext hW) HR11.out.mir (HT.out.ext HX1.out))
          go_wp2_with (first
            | (go_at_call 32; (with_reducible refine KSM.out.mono ?_); rintro e w12 ⟨rfl, m12, hw12⟩; have HX12 : Hid (Ext w11 w12) := hide (by rw [hw12]; exact (Ext.refl _).drewN _); clear hw12)
            | (go_at_call 33; (with_reducible refine (KAL.out w12 HX12.out).mono ?_); rintro e w13 ⟨rfl, hx13⟩; have HX13 : Hid (Ext w11 w13) := hide (HX12.out.trans hx13); clear hx13))
          refine ⟨⟨i1, X11, D11, L11, H9, M7, vl5, rs7, rfl, rfl, hide (by have := HI1.out; have := HI8.out; omega), HRL9, hide ?_⟩, ?_⟩
          · have r := HR11.out
            exact ⟨r.log.ext_ HX13.out, r.mod.ext HX13.out, r.mir, r.small, r.su, r.at1, r.cn, r.ck, r.ops, r.len, r.epo, r.dur, r.g⟩
          · show 80 - ((i1 : Nat) : Int).toNat < 80 - ((i : Nat) : Int).toNat
            have := HI1.out
            have := HI8.out
            omega
        · have hev2 : ((i : Int) % (kk : Int) == 0) = false := by simpa using hev
          go_upto_region 28 with fail
          have HR11 : Hid (Rl w1 w7 gm dg c X6 D2 L2 H9 M7 vl5 rs7 (10 + 20 * i1) (482 + 403 * i1)) := hide (by
            have r := HR9.out
            have h1 := r.ops
            have h2 := r.len
            have h3 := r.epo
            have h4 := HI1.out
            exact ⟨r.log, r.mod, r.mir, r.small, r.su, r.at1, r.cn, r.ck, by omega, by omega, by omega, r.dur, r.g⟩)
          have KSM := hide (same_any HR11.out.log HR11.out.mod HR11.out.mir)
          have KAL : Hid (∀ W, Ext w7 W → Calls Tryd.prog 33 #[.pointer (some ⟨gm, 0, none⟩), .pointer (some ⟨X6.q, 0, none⟩)] W (fun e w' => e = .returned (.bool true) ∧ Ext W w')) := hide (fun W hW => all_any (HR11.out.log.ext_ hW) (HR11.out.mod.ext hW) HR11.out.mir (HT.out.ext HX1.out))
          rw [HQ9.out] at KSM KAL
          go_wp2_with (first
            | (go_at_call 32; (with_reducible refine KSM.out.mono ?_); rintro e w12 ⟨rfl, m12, hw12⟩; have HX12 : Hid (Ext w7 w12) := hide (by rw [hw12]; exact (Ext.refl _).drewN _); clear hw12)
            | (go_at_call 33; (with_reducible refine (KAL.out w12 HX12.out).mono ?_); rintro e w13 ⟨rfl, hx13⟩; have HX13 : Hid (Ext w7 w13) := hide (HX12.out.trans hx13); clear hx13))
          refine ⟨⟨i1, X6, D2, L2, H9, M7, vl5, rs7, by rw [HQ9.out], rfl, hide (by have := HI1.out; have := HI8.out; omega), HRL9, hide ?_⟩, ?_⟩
          · have r := HR11.out
            exact ⟨r.log.ext_ HX13.out, r.mod.ext HX13.out, r.mir, r.small, r.su, r.at1, r.cn, r.ck, r.ops, r.len, r.epo, r.dur, r.g⟩
          · show 80 - ((i1 : Nat) : Int).toNat < 80 - ((i : Nat) : Int).toNat
            have := HI1.out
            have := HI8.out
            omega
    · have hex : ¬ ((i : Int) < (n : Int)) ∨ ¬ ((i : Int) < 80) := by omega
      by_cases h1 : i < n
      · have h1i : (i : Int) < (n : Int) := by omega
        have h2i : ¬ (i : Int) < 80 := by omega
        clear hgo hex
        go_wp2
        go_ret
        exact Ret.mk HXR.out rfl
      · have h1i : ¬ (i : Int) < (n : Int) := by omega
        clear hgo hex
        go_wp2
        go_ret
        exact Ret.mk HXR.out rfl
end
end Go.Proofs.YtnhokabendibmaaDoor
namespace Go.Proofs.YtnhokabendibmaaDoor
open Go.ChangeShapes Go.WideShapes Go.ChangeAt Go.RowKit

set_option maxRecDepth 100000 in
theorem open_u16s {H : Type} {enc : TypeId × Value → H} {W : World} {base : Nat} {v : Value} {d : DataW H} {ps : List MemPlace} (hval : Value.okWide Tryd.prog W .any base 59 v)
    (h : DataW.Trod enc Tryd.prog W 0 (fun _ => true) true 59 v d ps) :
    ∃ A c l, v = .slice A l.length c ∧ RdU W A l ∧ (∀ x ∈ l, x < 65536) ∧ ((d = .nil ∧ l = []) ∨ ∃ elems spare, d = .slice elems spare ∧ elems.length = l.length ∧ elems.length + spare.length = c) := by
  obtain ⟨a0, len, cap, rfl⟩ := okWide_slice Tryd.underlying59 hval
  obtain ⟨n, hn⟩ := h
  rcases open_ints Tryd.underlying59 Tryd.underlying60 (by kernel_rfl) hn with ⟨hc, hx⟩ | ⟨a, len', cap', zs, hc, _, hlc, _, hz, hx, hcell, hwf⟩
  · simp [Value.cells] at hc
    obtain ⟨rfl, rfl, rfl⟩ := hc
    simp only [Prod.mk.injEq] at hx
    exact ⟨none, 0, [], rfl, (fun h => absurd rfl h), (fun x h => by cases h), .inl ⟨hx.1, rfl⟩⟩
  · simp [Value.cells] at hc
    obtain ⟨rfl, rfl, rfl⟩ := hc
    simp only [Prod.mk.injEq] at hx
    simp only [if_true] at hz
    have hlen : ((zs.take len).map Int.toNat).length = len := by simp; omega
    refine ⟨some a, cap, (zs.take len).map Int.toNat, by rw [hlen], fun hn0 => ?_, fun x hx => ?_, .inr ⟨_, _, hx.1, ?_, ?_⟩⟩
    · have hp : 0 < zs.length := by
        have : len ≠ 0 := by intro e; apply hn0; apply List.length_eq_zero_iff.1; rw [hlen, e]
        omega
      obtain ⟨b, off, rfl, hcl⟩ := ints_at hcell hp
      refine ⟨b, off, rfl, fun j u hu => ?_⟩
      have hj : j < len := by
        rcases Nat.lt_or_ge j len with h' | h'
        · exact h'
        · rw [List.getElem?_eq_none (by rw [hlen]; exact h')] at hu; cases hu
      rw [hcl j (by omega)]
      rw [List.getElem?_map, List.getElem?_take_of_lt hj, List.getElem?_eq_getElem (by omega)] at hu
      have hu' : zs[j].toNat = u := by simpa using hu
      have hw := bounds_u16 (hwf zs[j] (List.getElem_mem _))
      rw [← hu', Int.toNat_of_nonneg hw.1, List.getD_eq_getElem?_getD, List.getElem?_eq_getElem (by omega)]
      rfl
    · obtain ⟨z, hz2, rfl⟩ := List.mem_map.1 hx
      have hw := bounds_u16 (hwf z (List.mem_of_mem_take hz2))
      omega
    · rw [hlen]; simp [lits]; omega
    · simp [lits]; omega
theorem reach_u16s {H : Type} {P : Program} {ts : List TypeId} {ds : List (DataW H)} {t e : TypeId} {j : Nat} {l : List Nat} {c : Nat} {d : DataW H} (hz : (DataW.weightsEach P ts ds).all (· ≤ reachBytes) = true) (ht : ts[j]? = some t) (hd : ds[j]? = some d)
    (hu : P.underlying t = some (.slice e)) (he : P.bytesOf e = 2) (h : (d = .nil ∧ l = []) ∨ ∃ elems spare, d = .slice elems spare ∧ elems.length = l.length ∧ elems.length + spare.length = c) : l.length ≤ 140737488355328 := by
  rcases h with ⟨_, rfl⟩ | ⟨elems, spare, rfl, hl, hc⟩
  · simp
  · have := sized_slice hz ht hd hu
    rw [he] at this
    unfold reachBytes at this
    omega
theorem rings_int {w : World} (a b : Int) (A : Option Addr) (l : List Nat) (c : Nat) (hT : Tab w) (h1 : 0 ≤ a ∧ a ≤ 255) (h2 : 0 ≤ b ∧ b ≤ 255) (hr : RdU w A l) (hl : l.length ≤ 140737488355328) (hu : ∀ v ∈ l, v < 65536) :
    Calls Tryd.prog 5 #[.int .u8 a, .slice A l.length c, .int .u8 b] w (Ret w (Is (.bool true))) := by
  obtain ⟨x, rfl⟩ : ∃ x : Nat, a = (x : Int) := ⟨a.toNat, by omega⟩
  obtain ⟨y, rfl⟩ : ∃ y : Nat, b = (y : Int) := ⟨b.toNat, by omega⟩
  exact logRings_walk x y A l l.length c (by omega) (by omega) hr rfl hl hu hT
end Go.Proofs.YtnhokabendibmaaDoor
