/-
  Behind a fall in an opening the next opening finds the same (plain).
  The laws' model of a log, in memory: its records, its numbers.
  The laws' model of a log: put, room, same.
  The laws' model of a log: same, all.
  The laws' model of a log: all its records are read.
  A log and the laws' model of it, beside one another in memory; each step of LogRings (plain).
  The rounds of LogCrashes (plain).
  The laws' model of a log with elder records: all that are needed are read.
-/
import Derived.ArgAppend
import Derived.Test.YtdifpbicdicggaaDoorPkLgAl7
set_option linter.unusedVariables false
set_option linter.unusedSimpArgs false

namespace Go.Proofs.YtdifpbicdicggaaDoor
open Go.RowKit

/-- The log with another epoch. -/
def epL (L : Lg) (e : Nat) : Lg := { L with hd := { L.hd with ep := e } }
section
variable {D D2 : Dk} {L L2 : Lg} {H S : List UInt8} {ep : Nat → Nat} {n : Nat}
set_option maxHeartbeats 1600000 in
theorem Fal.mix (h : Fal D L S) (he : L.hd.ep + 1 < 1000000000000) (awk : Awk D2) (pen : D2.pen = []) (bd : Bd D2) (hl : D2.dur.length = D.dur.length) (hmix : ∀ s, s < D.dur.length → D2.at s = D.at s ∨ (s, D2.at s) ∈ bgWs L) :
    ∃ e', (e' = L.hd.ep ∨ e' = L.hd.ep + 1) ∧ Fal D2 (epL L e') S := by
  have hcn := h.cn
  have hat_ := h.at_
  have hs := h.sure
  have hhd := nextL_hd h.epo
  have hcnn : (nextL L).hd.cn = L.hd.cn := by rw [hhd]
  have hst := h.st
  have hri := h.ring
  have hbg := h.big
  have hroom := h.room
  have hlt : L.at_ < D.dur.length := by omega
  have hfs : flo L.sure = 480 * (S.length / 480) := by rw [hs]; unfold flo; omega
  obtain ⟨T, hT⟩ : ∃ T, S.length / 480 = T := ⟨_, rfl⟩
  rw [hT] at hfs
  have hsecT : secOf (nextL L) (flo L.sure) = secOf L (480 * T) := by rw [sec_log (L := L) (L2 := nextL L) rfl hcnn, hfs]
  obtain ⟨s, hse⟩ : ∃ s, secOf L (480 * T) = s := ⟨_, rfl⟩
  have hsne : s ≠ L.at_ := by rw [← hse]; exact (h.sec _).2
  have hslt : s < D.dur.length := by rw [← hse]; exact (h.sec _).1
  -- the head
  obtain ⟨e', he', hh⟩ : ∃ e', (e' = L.hd.ep ∨ e' = L.hd.ep + 1) ∧ D2.at L.at_ = sealB 1 ({ L.hd with ep := e' } : Hd).ns [] := by
    rcases hmix L.at_ hlt with h1 | h1
    · exact ⟨L.hd.ep, .inl rfl, by rw [h1, h.head]⟩
    · unfold bgWs at h1
      rcases List.mem_cons.1 h1 with h2 | h2
      · refine ⟨L.hd.ep + 1, .inr rfl, ?_⟩
        rw [(Prod.mk.inj h2).2]
        unfold bgB
        rw [hhd]
      · split at h2
        · have h3 := List.mem_singleton.1 h2
          have h4 := (Prod.mk.inj h3).1
          rw [hsecT, hse] at h4
          exact absurd h4.symm hsne
        · cases h2
  have hle : L.hd.ep ≤ e' ∧ e' ≤ L.hd.ep + 1 := by rcases he' with h1 | h1 <;> omega
  refine ⟨e', he', ?_⟩
  obtain ⟨ep, hd⟩ := h.dur
  have hsame : ∀ a, secOf L a ≠ s → D2.at (secOf L a) = D.at (secOf L a) := fun a ha => by
    rcases hmix (secOf L a) (h.sec a).1 with h1 | h1
    · exact h1
    · unfold bgWs at h1
      rcases List.mem_cons.1 h1 with h2 | h2
      · exact absurd (Prod.mk.inj h2).1 (h.sec a).2
      · split at h2
        · have h3 := List.mem_singleton.1 h2
          have h4 := (Prod.mk.inj h3).1
          rw [hsecT, hse] at h4
          exact absurd h4 ha
        · cases h2
  have hTs : D2.at s = D.at s ∨ (S.length < (L.hd.st / 480 + L.hd.cn) * 480 ∧ D2.at s = bgP L) := by
    rcases hmix s hslt with h1 | h1
    · exact .inl h1
    · right
      unfold bgWs at h1
      rcases List.mem_cons.1 h1 with h2 | h2
      · exact absurd (Prod.mk.inj h2).1 hsne
      · split at h2
        · rename_i h5
          have h3 := List.mem_singleton.1 h2
          exact ⟨by rw [hroom] at h5; omega, (Prod.mk.inj h3).2⟩
        · cases h2
  have hbase : ∀ d, FDur D2 (epL L e') S d → Fal D2 (epL L e') S := fun d hd2 => ⟨awk, pen, bd, ⟨by show e' < _; omega, h.hd.old, h.hd.st, h.hd.fi, h.hd.ck, h.hd.cn⟩, h.cn, by rw [hl]; exact h.at_, h.tail, h.sure, h.st, h.ck, h.held, h.ring, h.big, by show e' < _; omega, hh, h.recs, d, hd2⟩
  have hon2 := awk.1
  rcases hTs with hTo | ⟨hrm, hTn⟩
  · have hall : ∀ a, D2.at (secOf L a) = D.at (secOf L a) := fun a => by
      by_cases ha : secOf L a = s
      · rw [ha]; exact hTo
      · exact hsame a ha
    refine hbase ep ⟨fun j k1 k2 => ?_, hd.mono, fun j => ⟨(hd.old j).1, Nat.le_trans (hd.old j).2 hle.1⟩, ?_, fun j k1 k2 => ?_⟩
    · exact (hd.full j k1 k2).same (L := L) (L2 := epL L e') h.on hon2 hl rfl rfl (h.sec _).1 (hall _)
    · obtain ⟨J, hJ, hJ0⟩ := hd.found
      exact ⟨J, (thP_log (L := L) (L2 := epL L e') rfl rfl h.on hon2 hl (fun a => (h.sec a).1) hall _ _ _).trans hJ, hJ0⟩
    · obtain ⟨q1, q2⟩ := there_same (L := L) (L2 := epL L e') h.on hon2 hl rfl rfl (h.sec (480 * j)).1 (hall _)
      rw [q1] at k2
      rw [q2]
      show _ ≤ (e' : Int) ∨ (_ = ((e' + 1 : Nat) : Int) ∧ j = S.length / 480)
      rcases hd.stale j k1 k2 with q3 | ⟨q3, q4⟩
      · left; omega
      · rcases he' with rfl | rfl
        · exact .inr ⟨q3, q4⟩
        · left; omega
  · have htl : L.tail = S.drop (480 * T) := by rw [h.tail, hfs]
    have htll : L.tail.length < 480 := by rw [htl, List.length_drop]; omega
    have hbp : bgP L = sealB 2 (ptNs T (L.hd.ep + 1) L.tail.length) L.tail := by
      unfold bgP partB
      rw [hhd, hfs, show 480 * T / 480 = T by omega]
    have hpT : Prt D2 (epL L e') T (L.hd.ep + 1) L.tail := by
      refine Prt.of_seal (L := epL L e') hon2 (by rw [hl]; exact (h.sec _).1) ?_ (by omega) (by omega) (by omega)
      show D2.at (secOf L (480 * T)) = _
      rw [hse, hTn, hbp]
    have hfar : ∀ j, L.hd.fi / 480 ≤ j → j < T → secOf L (480 * j) ≠ s := fun j h1 h2 => by
      rw [← hse]
      exact sec_far (by omega) (by omega) (by rw [hst.2.1] at h1; omega)
    have hfull : ∀ j, L.hd.fi / 480 ≤ j → 480 * j + 480 ≤ S.length → Prt D2 (epL L e') j (ep j) ((S.drop (480 * j)).take 480) := fun j k1 k2 =>
      (hd.full j k1 k2).same (L := L) (L2 := epL L e') h.on hon2 hl rfl rfl (h.sec _).1 (hsame _ (hfar j k1 (by omega)))
    have hj0 : L.hd.fi / 480 ≤ T := by rw [← hT]; exact Nat.div_le_div_right hst.2.2
    refine hbase ep ⟨hfull, hd.mono, fun j => ⟨(hd.old j).1, Nat.le_trans (hd.old j).2 hle.1⟩, ⟨[], ?_, rfl⟩, fun j k1 k2 => ?_⟩
    · have k := thP_full (L := epL L e') (S := S) (a := L.hd.fi / 480) (T := T) (fun j k1 k2 => hfull j k1 (by omega)) hd.mono (by omega) (T - L.hd.fi / 480) (L.hd.fi / 480) (L.hd.cn + 1) (L.hd.old : Int) (Nat.le_refl _) (by omega) (by rw [hst.2.1]; omega) (.inr (Int.ofNat_le.2 (hd.old _).1))
      have hthr : (if T - L.hd.fi / 480 = 0 then (L.hd.old : Int) else (ep (T - 1) : Int)) ≤ (L.hd.ep : Int) := by
        split
        · exact Int.ofNat_le.2 (Nat.le_trans (hd.old 0).1 (hd.old 0).2)
        · exact Int.ofNat_le.2 (hd.old _).2
      obtain ⟨f, hf⟩ : ∃ f, L.hd.cn + 1 - (T - L.hd.fi / 480) = f + 1 := ⟨L.hd.cn - (T - L.hd.fi / 480), by rw [hst.2.1]; omega⟩
      generalize (if T - L.hd.fi / 480 = 0 then (L.hd.old : Int) else (ep (T - 1) : Int)) = th at k hthr
      have hlast : thP D2 (epL L e') (f + 1) (480 * T) th = L.tail := by
        show (if ptThere D2 (epL L e') (480 * T) = true ∧ ¬ (ptAt D2 (secOf (epL L e') (480 * T))).ep < th then (if (ptAt D2 (secOf (epL L e') (480 * T))).by_.length < 480 then (ptAt D2 (secOf (epL L e') (480 * T))).by_ else (ptAt D2 (secOf (epL L e') (480 * T))).by_ ++ thP D2 (epL L e') f (480 * T + 480) (ptAt D2 (secOf (epL L e') (480 * T))).ep) else []) = _
        rw [hpT.there, hpT.ep, hpT.by_, if_pos ⟨rfl, by omega⟩, if_pos htll]
      rw [hf, hlast, htl] at k
      show thP D2 (epL L e') (L.hd.cn + 1) (480 * (L.hd.fi / 480)) (L.hd.old : Int) = _
      rw [k, List.append_nil, show (epL L e').hd.fi = L.hd.fi from rfl]
      have e1 : S.drop (480 * T) = (S.drop (480 * (L.hd.fi / 480))).drop (480 * (T - L.hd.fi / 480)) := by rw [List.drop_drop]; congr 1; omega
      rw [e1, List.take_append_drop]
    · show (ptAt D2 (secOf L (480 * j))).ep ≤ (e' : Int) ∨ ((ptAt D2 (secOf L (480 * j))).ep = ((e' + 1 : Nat) : Int) ∧ j = S.length / 480)
      have k2 : ptThere D2 L (480 * j) = true := k2
      by_cases hjs : secOf L (480 * j) = s
      · obtain ⟨p1, p2⟩ := ptAt_seal (D := D2) hon2 (i := s) (by rw [hl]; exact hslt) T (L.hd.ep + 1) L.tail (hTn.trans hbp) (by omega) (by omega) (by omega)
        unfold ptThere at k2
        rw [hjs] at k2 ⊢
        rw [p1, p2] at k2
        simp only [Bool.true_and, decide_eq_true_eq] at k2
        rw [p2]
        show ((L.hd.ep + 1 : Nat) : Int) ≤ (e' : Int) ∨ (((L.hd.ep + 1 : Nat) : Int) = ((e' + 1 : Nat) : Int) ∧ j = S.length / 480)
        rcases he' with rfl | rfl
        · exact .inr ⟨rfl, by omega⟩
        · exact .inl (Int.le_refl _)
      · obtain ⟨q1, q2⟩ := there_same (L := L) (L2 := L) h.on hon2 hl rfl rfl (h.sec (480 * j)).1 (hsame _ hjs)
        rw [q1] at k2
        rw [q2]
        rcases hd.stale j k1 k2 with q3 | ⟨q3, q4⟩
        · left; omega
        · rw [q4, hT] at hjs
          exact absurd hse hjs
/-! ### a disk that is armed -/
theorem opF_arm (D : Dk) (a : Nat) (x : Int) : rhE (D.armed a) x = rhE D x ∧ rhH (D.armed a) x = rhH D x := ⟨rfl, rfl⟩
theorem thP_arm (D : Dk) (a : Nat) (L : Lg) : ∀ (f x : Nat) (e : Int), thP (D.armed a) L f x e = thP D L f x e
  | 0, _, _ => rfl
  | f + 1, x, e => by
    have e1 : ptThere (D.armed a) L x = ptThere D L x := rfl
    have e2 : ptAt (D.armed a) (secOf L x) = ptAt D (secOf L x) := rfl
    unfold thP
    rw [e1, e2, thP_arm D a L f]
theorem fn_arm (D : Dk) (a : Nat) (L : Lg) : fnE (D.armed a) L = fnE D L ∧ fnL (D.armed a) L = fnL D L := by
  have h1 : fnAll (D.armed a) L = fnAll D L := by unfold fnAll; rw [thP_arm]
  have h2 : fnEnd (D.armed a) L = fnEnd D L := by unfold fnEnd; rw [h1]
  have h3 : fnSure (D.armed a) L = fnSure D L := by unfold fnSure; rw [h2]
  have h4 : fnTail (D.armed a) L = fnTail D L := by unfold fnTail; rw [h1, h2, h3]
  refine ⟨?_, ?_⟩
  · unfold fnE
    rw [h1, h3]
    rfl
  · unfold fnL
    rw [h3, h4]
/-- Open there, armed: its writes. -/
theorem Fal.op_arm (h : Fal D L S) (a : Nat) : opE (D.armed a) (L.at_ : Int) (L.hd.cn : Int) = (wsE (D.armed a) (bgWs L)).1 ∧ opD (D.armed a) (L.at_ : Int) (L.hd.cn : Int) = (wsE (D.armed a) (bgWs L)).2 ∧ opL (D.armed a) (L.at_ : Int) = nextL L := by
  obtain ⟨e1, e2⟩ := h.rhE
  obtain ⟨f1, f2⟩ := h.find
  have hcn := h.cn
  have hat_ := h.at_
  have hfit : fitsE (D.armed a).dur.length (L.at_ : Int) (L.hd.cn : Int) = 0 := by unfold fitsE; rw [if_neg (by show ¬ ((L.at_ : Int) < 0 ∨ (L.hd.cn : Int) < 4 ∨ (L.at_ : Int) > (D.dur.length : Int) - 1 - (L.hd.cn : Int)); omega)]
  obtain ⟨r1, r2⟩ := opF_arm D a (L.at_ : Int)
  have o0 : op0 (D.armed a) (L.at_ : Int) = op0 D (L.at_ : Int) := by unfold op0; rw [r2]
  obtain ⟨n1, n2⟩ := fn_arm D a (op0 D (L.at_ : Int))
  have oF : opF (D.armed a) (L.at_ : Int) = L := by
    show fnL (D.armed a) (op0 (D.armed a) (L.at_ : Int)) = L
    rw [o0, n2]
    exact f2
  obtain ⟨b1, b2⟩ := bg_is (D.armed a) L
  refine ⟨?_, ?_, by unfold opL; rw [oF]⟩
  · unfold opE
    rw [hfit, r1, r2, e1, e2, o0, n1, f1, oF, if_neg (fun e => e rfl), if_neg (fun e => e rfl), if_neg (fun e => e rfl), if_neg (fun e => e rfl), b1]
  · unfold opD
    rw [hfit, r1, r2, e1, e2, o0, n1, f1, oF, if_neg (fun e => e rfl), if_neg (fun e => e rfl), if_neg (fun e => e rfl), if_neg (fun e => e rfl), b2]
end
end Go.Proofs.YtdifpbicdicggaaDoor
namespace Go.Proofs.YtdifpbicdicggaaDoor
open Go.RowKit

/-- Records as values. -/
def recV (l : List (Nat × List UInt8)) : List Value := (l.map fun r => [Value.int .u64 (r.1 : Int), .string ⟨r.2.toArray⟩]).flatten
theorem recV_len (l : List (Nat × List UInt8)) : (recV l).length = l.length * 2 := flat_len (m := 2) _ (fun s hs => by
  obtain ⟨r, -, rfl⟩ := List.mem_map.1 hs
  rfl) |>.trans (by rw [List.length_map])
theorem recV_app (l m : List (Nat × List UInt8)) : recV (l ++ m) = recV l ++ recV m := by simp [recV]
theorem recV_get (l : List (Nat × List UInt8)) (j : Nat) (r : Nat × List UInt8) (h : l[j]? = some r) : (recV l)[j * 2]? = some (.int .u64 (r.1 : Int)) ∧ (recV l)[j * 2 + 1]? = some (.string ⟨r.2.toArray⟩) := by
  have hl : ∀ s ∈ l.map (fun r : Nat × List UInt8 => [Value.int .u64 (r.1 : Int), .string ⟨r.2.toArray⟩]), s.length = 2 := fun s hs => by
    obtain ⟨r, -, rfl⟩ := List.mem_map.1 hs
    rfl
  have hi : (l.map (fun r : Nat × List UInt8 => [Value.int .u64 (r.1 : Int), .string ⟨r.2.toArray⟩]))[j]? = some [Value.int .u64 (r.1 : Int), .string ⟨r.2.toArray⟩] := by rw [List.getElem?_map, h]; rfl
  have h0 := flat_get hl hi (j := 0) (by decide)
  have h1 := flat_get hl hi (j := 1) (by decide)
  exact ⟨h0, h1⟩
theorem recV_drop (l : List (Nat × List UInt8)) (k j : Nat) (u : Value) (h : (recV (l.drop k))[j]? = some u) : (recV l)[k * 2 + j]? = some u := by
  have e : recV l = recV (l.take k) ++ recV (l.drop k) := by rw [← recV_app, List.take_append_drop]
  have hj := (List.getElem?_eq_some_iff.1 h).1
  rw [recV_len, List.length_drop] at hj
  rw [e, List.getElem?_append_right (by rw [recV_len, List.length_take]; omega), recV_len, List.length_take, show k * 2 + j - min k l.length * 2 = j by omega]
  exact h
/-- The slice v holds these records, and its spare is its own. -/
def RecS (w : World) (B : Nat) (v : Value) (l : List (Nat × List UInt8)) : Prop :=
  (v = .slice none 0 0 ∧ l = []) ∨ ∃ (g off c : Nat) (cur : Array Value), v = .slice (some ⟨g, off, none⟩) l.length c ∧ B ≤ g ∧ w.heap[g]? = some (.cells cur 63 (0, 0)) ∧ l.length ≤ c ∧ 0 < c ∧ c ≤ maxLen ∧ off + c * 2 ≤ cur.size ∧ ∀ j u, (recV l)[j]? = some u → cur[off + j]? = some u
theorem RecS.keep {w w' : World} {B : Nat} {v : Value} {l : List (Nat × List UInt8)} (h : RecS w B v l) (hk : ∀ k, v.ownBlock = some k → w'.heap[k]? = w.heap[k]?) : RecS w' B v l := by
  rcases h with h | ⟨g, off, c, cur, rfl, h1, h2, h3⟩
  · exact .inl h
  · exact .inr ⟨g, off, c, cur, rfl, h1, (hk g rfl).trans h2, h3⟩
theorem RecS.lt {w : World} {B : Nat} {v : Value} {l : List (Nat × List UInt8)} (h : RecS w B v l) : ∀ k, v.ownBlock = some k → B ≤ k ∧ k < w.heap.size := fun k hk => by
  rcases h with ⟨rfl, -⟩ | ⟨g, off, c, cur, rfl, h1, h2, h3⟩
  · cases hk
  · injection hk with hk
    subst hk
    exact ⟨h1, (Array.getElem?_eq_some_iff.1 h2).1⟩
theorem RecS.ext {w w' : World} {B : Nat} {v : Value} {l : List (Nat × List UInt8)} (h : RecS w B v l) (hx : Ext w w') : RecS w' B v l := h.keep fun k hk => Below.block hx k (h.lt k hk).2
theorem RecS.row {w : World} {B : Nat} {v : Value} {l : List (Nat × List UInt8)} (h : RecS w B v l) : ∀ k, v.ownBlock = some k → ∃ vs, Rw w k 63 vs := fun k hk => by
  rcases h with ⟨rfl, -⟩ | ⟨g, off, c, cur, rfl, h1, h2, h3⟩
  · cases hk
  · injection hk with hk
    subst hk
    exact ⟨cur.toList, by unfold Rw; rw [Array.toArray_toList]; exact h2⟩
/-- Where its records lie. -/
theorem RecS.at {w : World} {B : Nat} {v : Value} {l : List (Nat × List UInt8)} (h : RecS w B v l) (hn : l ≠ []) : ∃ g off c, v = .slice (some ⟨g, off, none⟩) l.length c ∧ l.length ≤ c ∧ ∀ j r, l[j]? = some r → w.cell? ⟨g, off + j * 2, none⟩ = some (.int .u64 (r.1 : Int)) ∧ w.cell? ⟨g, off + j * 2 + 1, none⟩ = some (.string ⟨r.2.toArray⟩) := by
  rcases h with ⟨-, h⟩ | ⟨g, off, c, cur, rfl, h1, h2, h3, h4, h5, h6, h7⟩
  · exact absurd h hn
  · refine ⟨g, off, c, rfl, h3, fun j r hj => ?_⟩
    obtain ⟨e0, e1⟩ := recV_get l j r hj
    have c0 := h7 _ _ e0
    have c1 := h7 _ _ e1
    rw [cell_of_row w g _ cur _ (0, 0) h2, cell_of_row w g _ cur _ (0, 0) h2]
    exact ⟨c0, by rw [Nat.add_assoc]; exact c1⟩
theorem RecS.slice {w : World} {B : Nat} {v : Value} {l : List (Nat × List UInt8)} (h : RecS w B v l) : ∃ A c, v = .slice A l.length c := by
  rcases h with ⟨rfl, rfl⟩ | ⟨g, off, c, cur, rfl, -⟩
  · exact ⟨none, 0, rfl⟩
  · exact ⟨_, _, rfl⟩
theorem info_rec : (Tryd.prog.info? 63).map (fun i => (i.zero, i.size, i.bytes)) = some (some (.agg #[.int .u64 0, .string ⟨#[]⟩]), 2, 24) := by kernel_rfl
theorem info_partsR : ∃ i0, Tryd.prog.info? 63 = some i0 ∧ i0.zero = some (.agg #[.int .u64 0, .string ⟨#[]⟩]) ∧ i0.size = 2 ∧ i0.bytes = 24 := by
  have h := info_rec
  cases hq : Tryd.prog.info? 63 with
  | none => rw [hq] at h; cases h
  | some i =>
    rw [hq] at h
    simp only [Option.map_some, Option.some.injEq, Prod.mk.injEq] at h
    exact ⟨i, rfl, h.1, h.2.1, h.2.2⟩
/-- An append where there is room, of any place in a block. -/
theorem run_room {P : Program} (w : World) (t ty e : TypeId) (i : TypeInfo) (ht : P.underlying t = some (.slice e)) (hi : P.info? e = some i) (b off n cap : Nat) (cur : Array Value) (hg : w.heap[b]? = some (.cells cur e (0, 0)))
    (a : Addr) (m c : Nat) (news : List Value) (hl : news.length = m * i.size) (hnews : ∀ j u, news[j]? = some u → w.cell? (a.add j) = some u) (h1 : ∀ u ∈ news, u.oneCell' = true) (hroom : n + m ≤ cap) (hfit : off + n * i.size + news.length ≤ cur.size) :
    (Builtin.append_ #[t, t] ty #[.slice (some ⟨b, off, none⟩) n cap, .slice (some a) m c]).run P w = .ok (.slice (some ⟨b, off, none⟩) (n + m) cap) (w.setRow b (cur.toList.take (off + n * i.size) ++ news ++ cur.toList.drop (off + n * i.size + news.length)).toArray) := by
  have hfc := run_firstCells_some (P := P) w i.size m a m c news hl hnews
  have hst := run_storeCells_at P b (off + n * i.size) e news 0 cur w hg (by omega) h1
  simp only [Nat.add_zero] at hst
  simp [Builtin.append_, run_underlying ht, sizeOf, typeInfo, hi, Builtin.lenOf, hroom, hfc, Addr.add_lit, hst]
/-- One record more. -/
theorem run_pushR (w0 : World) (ty : Nat) (B : Nat) (v : Value) (l : List (Nat × List UInt8)) (r : Nat × List UInt8) (h : RecS w0 B v l) (hB : B ≤ w0.heap.size) (hlen : l.length ≤ 100000) :
    ∃ v' w', (Builtin.append_ #[30, 30] ty #[v, .slice (some ⟨w0.heap.size, 0, none⟩) 1 1]).run Tryd.prog (w0.alloc (.cells #[.int .u64 (r.1 : Int), .string ⟨r.2.toArray⟩] 63)) = .ok v' w' ∧ RecS w' B v' (l ++ [r]) ∧ w0.grownBy w' v.ownBlock ∧ (v'.ownBlock = v.ownBlock ∨ ∀ k, v'.ownBlock = some k → w0.heap.size ≤ k) ∧ ∃ A c, v' = .slice A (l.length + 1) c := by
  obtain ⟨i0, hi, hz, hsz, hby⟩ := info_partsR
  have hX := Ext.alloc w0 (.cells #[.int .u64 (r.1 : Int), .string ⟨r.2.toArray⟩] 63)
  have R := Rw.new w0 63 [.int .u64 (r.1 : Int), .string ⟨r.2.toArray⟩]
  have hone : ∀ u ∈ [Value.int .u64 (r.1 : Int), .string ⟨r.2.toArray⟩], u.oneCell' = true := by
    intro u hu
    simp only [List.mem_cons, List.not_mem_nil, or_false] at hu
    rcases hu with rfl | rfl <;> rfl
  have hnews : ∀ j u, [Value.int .u64 (r.1 : Int), .string ⟨r.2.toArray⟩][j]? = some u → (w0.alloc (.cells #[.int .u64 (r.1 : Int), .string ⟨r.2.toArray⟩] 63)).cell? (Addr.add ⟨w0.heap.size, 0, none⟩ j) = some u := fun j u hu => by rw [add_flat, Nat.zero_add]; exact R.cell hu
  have hof : ∀ (v' : Value) (w' : World), w'.ownsRow w0.heap.size 63 2 v' (l.length + 1) (recV (l ++ [r])) → RecS w' B v' (l ++ [r]) ∧ (∀ k, v'.ownBlock = some k → w0.heap.size ≤ k) ∧ ∃ A c, v' = .slice A (l.length + 1) c := fun v' w' ho => by
    rcases ho.2 with ⟨-, h0⟩ | ⟨g, cap, cur, rfl, hb, hg, hnc, hcm, hcs, htk⟩
    · omega
    · refine ⟨.inr ⟨g, 0, cap, cur, by rw [List.length_append]; rfl, Nat.le_trans hB hb, hg, by rw [List.length_append]; exact hnc, by omega, hcm, by omega, fun j u hu => ?_⟩, fun k hk => by have e : g = k := (by simpa [Value.ownBlock] using hk); omega, _, _, rfl⟩
      rw [← htk] at hu
      have hj := (List.getElem?_eq_some_iff.1 hu).1
      rw [List.length_take] at hj
      rw [List.getElem?_take_of_lt (by omega)] at hu
      rw [Nat.zero_add]
      simpa using hu
  rcases h with ⟨rfl, rfl⟩ | ⟨g, off, c, cur, rfl, h1, h2, h3, h4, h5, h6, h7⟩
  · have ho0 : (w0.alloc (.cells #[.int .u64 (r.1 : Int), .string ⟨r.2.toArray⟩] 63)).ownsRow w0.heap.size 63 2 (.slice none 0 0) 0 [] := World.ownsRow_nil _ _ _ _
    obtain ⟨v', w', hr, h2, h3, -, -⟩ := run_append_own_at (P := Tryd.prog) _ w0.heap.size 30 ty 63 i0 _ 2 24 Tryd.underlying30 hi hz hsz hby rfl (by decide) (.slice none 0 0) 0 [] ho0 ⟨w0.heap.size, 0, none⟩ 1 1 _ rfl hnews hone (by decide) (by decide) hX.size
    obtain ⟨q1, q2, q3⟩ := hof v' w' h2
    exact ⟨v', w', hr, q1, ⟨h3.os.trans hX.os, h3.tape.trans hX.tape, h3.output.trans hX.output, Nat.le_trans hX.size h3.size, fun k hk hne => (h3.block k (Nat.lt_of_lt_of_le hk hX.size) hne).trans (hX.block k hk)⟩, .inr q2, q3⟩
  · have hgl : g < w0.heap.size := (Array.getElem?_eq_some_iff.1 h2).1
    have hg : (w0.alloc (.cells #[.int .u64 (r.1 : Int), .string ⟨r.2.toArray⟩] 63)).heap[g]? = some (.cells cur 63 (0, 0)) := (hX.block g hgl).trans h2
    by_cases hrm : l.length + 1 ≤ c
    · have hr := run_room (P := Tryd.prog) _ 30 ty 63 i0 Tryd.underlying30 hi g off l.length c cur hg ⟨w0.heap.size, 0, none⟩ 1 1 [.int .u64 (r.1 : Int), .string ⟨r.2.toArray⟩] (by rw [hsz]; rfl) hnews hone hrm (by rw [hsz]; show off + l.length * 2 + 2 ≤ _; omega)
      rw [hsz] at hr
      refine ⟨_, _, hr, .inr ⟨g, off, c, _, by rw [List.length_append]; rfl, h1, setRow_heap _ g cur _ _ _ hg, by rw [List.length_append]; exact hrm, h4, h5, ?_, fun j u hu => ?_⟩, ⟨rfl, rfl, rfl, by simp, fun k hk hne => (setRow_other _ g k _ (fun e => hne (by rw [e]; rfl))).trans (hX.block k hk)⟩, .inl rfl, _, _, rfl⟩
      · simp only [List.size_toArray, List.length_append, List.length_take, List.length_drop, Array.length_toList]
        show _ ≤ min (off + l.length * 2) cur.size + 2 + (cur.size - (off + l.length * 2 + 2))
        omega
      · have hj := (List.getElem?_eq_some_iff.1 hu).1
        rw [recV_len, List.length_append] at hj
        have hj : j < (l.length + 1) * 2 := hj
        rw [recV_app] at hu
        rw [List.getElem?_toArray]
        have htl : (cur.toList.take (off + l.length * 2)).length = off + l.length * 2 := by have e := Array.length_toList (xs := cur); rw [List.length_take, e]; omega
        by_cases hjl : j < l.length * 2
        · rw [List.getElem?_append_left (by rw [recV_len]; exact hjl)] at hu
          rw [List.append_assoc, List.getElem?_append_left (by rw [htl]; omega), List.getElem?_take_of_lt (by omega)]
          have h8 := h7 j u hu
          simpa using h8
        · rw [List.getElem?_append_right (by rw [recV_len]; omega), recV_len] at hu
          rw [List.append_assoc, List.getElem?_append_right (by rw [htl]; omega), htl, show off + j - (off + l.length * 2) = j - l.length * 2 by omega]
          have hjj := (List.getElem?_eq_some_iff.1 hu).1
          rw [recV_len] at hjj
          rw [List.getElem?_append_left (by show _ < 2; have : j - l.length * 2 < 1 * 2 := hjj; omega)]
          exact hu
    · obtain ⟨v', w', hr, q1, q2⟩ := run_append_arg_grows (P := Tryd.prog) (w0.alloc (.cells #[.int .u64 (r.1 : Int), .string ⟨r.2.toArray⟩] 63)) 30 ty 63 i0 _ 2 24 Tryd.underlying30 hi hz hsz hby rfl (by decide) ⟨g, off, none⟩ l.length c (recV l) (recV_len l) (fun j u hu => by rw [add_flat, cell_of_row _ g _ cur _ (0, 0) hg]; exact h7 j u hu) ⟨w0.heap.size, 0, none⟩ 1 1 _ rfl hnews (by omega) (by unfold maxLen; omega) (by omega)
      have q1' : w'.ownsRow w0.heap.size 63 2 v' (l.length + 1) (recV (l ++ [r])) := by
        rw [recV_app]
        exact ⟨q1.1, q1.2.imp id fun ⟨g, cap, cur, h1, h2, h3⟩ => ⟨g, cap, cur, h1, Nat.le_trans hX.size h2, h3⟩⟩
      obtain ⟨p1, p2, p3⟩ := hof v' w' q1'
      exact ⟨v', w', hr, p1, ⟨q2.os.trans hX.os, q2.tape.trans hX.tape, q2.output.trans hX.output, Nat.le_trans hX.size q2.size, fun k hk _ => (q2.block k (Nat.lt_of_lt_of_le hk hX.size) (fun e => by cases e)).trans (hX.block k hk)⟩, .inr p2, p3⟩
end Go.Proofs.YtdifpbicdicggaaDoor
namespace Go.Proofs.YtdifpbicdicggaaDoor
open Go.RowKit

/-- The model, plain. -/
structure Md where
  l : List (Nat × List UInt8)
  en : Nat
  su : Nat
  st : Nat
  ck : Nat
  hl : Nat
  cn : Nat
def mdC (vl : Value) (M : Md) : List Value := [vl, .int .u64 (M.en : Int), .int .u64 (M.su : Int), .int .u64 (M.st : Int), .int .u64 (M.ck : Int), .int .i64 (M.hl : Int), .int .i64 (M.cn : Int)]
structure MdAt (w : World) (B gm : Nat) (vl : Value) (M : Md) : Prop where
  blk : Rw w gm 32 (mdC vl M)
  recs : RecS w B vl M.l
  base : B ≤ gm
structure Mfr (gm : Nat) (vl : Value) (w w' : World) : Prop where
  os : w'.os = w.os
  tape : w'.tape = w.tape
  output : w'.output = w.output
  size : w.heap.size ≤ w'.heap.size
  other : ∀ k, k < w.heap.size → k ≠ gm → vl.ownBlock ≠ some k → w'.heap[k]? = w.heap[k]?
section
variable {w0 w w1 : World} {X : Bk} {D D' : Dk} {L L' : Lg} {B gm : Nat} {vl : Value} {M : Md}
theorem MdAt.keep {w' : World} (h : MdAt w B gm vl M) (hk : ∀ k, k = gm ∨ vl.ownBlock = some k → w'.heap[k]? = w.heap[k]?) : MdAt w' B gm vl M :=
  ⟨(hk gm (.inl rfl)).trans h.blk, h.recs.keep fun k hh => hk k (.inr hh), h.base⟩
theorem MdAt.ext {w' : World} (h : MdAt w B gm vl M) (hx : Ext w w') : MdAt w' B gm vl M := ⟨h.blk.ext hx, h.recs.ext hx, h.base⟩
theorem MdAt.ne (h : MdAt w B gm vl M) : ∀ k, vl.ownBlock = some k → k ≠ gm := fun k hk e => by
  obtain ⟨vs, hr⟩ := h.recs.row k hk
  exact (hr.apart h.blk (by decide)) e
theorem MdAt.cells (h : MdAt w B gm vl M) : w.cell? ⟨gm, 0, none⟩ = some vl ∧ w.cell? ⟨gm, 1, none⟩ = some (.int .u64 (M.en : Int)) ∧ w.cell? ⟨gm, 2, none⟩ = some (.int .u64 (M.su : Int)) ∧ w.cell? ⟨gm, 3, none⟩ = some (.int .u64 (M.st : Int)) ∧ w.cell? ⟨gm, 4, none⟩ = some (.int .u64 (M.ck : Int)) ∧ w.cell? ⟨gm, 5, none⟩ = some (.int .i64 (M.hl : Int)) ∧ w.cell? ⟨gm, 6, none⟩ = some (.int .i64 (M.cn : Int)) :=
  ⟨h.blk.cell (i := 0) rfl, h.blk.cell (i := 1) rfl, h.blk.cell (i := 2) rfl, h.blk.cell (i := 3) rfl, h.blk.cell (i := 4) rfl, h.blk.cell (i := 5) rfl, h.blk.cell (i := 6) rfl⟩
/-- A field of the model written. -/
theorem MdAt.put (h : MdAt w B gm vl M) (i : Nat) (v : Value) (M' : Md) (hl : M'.l = M.l) (hc : (mdC vl M).set i v = mdC vl M') : MdAt (w.setCell ⟨gm, i, none⟩ v) B gm vl M' := by
  refine ⟨?_, ?_, h.base⟩
  · rw [← hc]
    exact h.blk.set i v
  · rw [hl]
    exact h.recs.keep fun k hk => Below.heap_setCell w ⟨gm, i, none⟩ v k (h.ne k hk)
theorem MdAt.putL (h : MdAt w B gm vl M) (v : Value) (l : List (Nat × List UInt8)) (hv : RecS w B v l) (hn : v.ownBlock ≠ some gm) : MdAt (w.setCell ⟨gm, 0, none⟩ v) B gm v { M with l := l } :=
  ⟨h.blk.set 0 v, hv.keep fun k hk => Below.heap_setCell w ⟨gm, 0, none⟩ v k (fun e => hn (by rw [hk]; exact congrArg some e)), h.base⟩
theorem Mfr.ext {w' : World} (hx : Ext w w') : Mfr gm vl w w' := ⟨hx.os, hx.tape, hx.output, hx.size, fun k hk _ _ => Below.block hx k hk⟩
theorem Mfr.cell (i : Nat) (v : Value) : Mfr gm vl w (w.setCell ⟨gm, i, none⟩ v) := ⟨rfl, rfl, rfl, by simp, fun k _ hn _ => Below.heap_setCell w ⟨gm, i, none⟩ v k hn⟩
theorem Mfr.trans {vl' : Value} {w2 : World} (h : Mfr gm vl w w1) (k : Mfr gm vl' w1 w2) (hl : vl'.ownBlock = vl.ownBlock ∨ ∀ k, vl'.ownBlock = some k → w.heap.size ≤ k) : Mfr gm vl w w2 :=
  ⟨k.os.trans h.os, k.tape.trans h.tape, k.output.trans h.output, Nat.le_trans h.size k.size, fun j hj h1 h2 => (k.other j (Nat.lt_of_lt_of_le hj h.size) h1 (fun e => by
    rcases hl with hl | hl
    · exact h2 (hl ▸ e)
    · have := hl j e; omega)).trans (h.other j hj h1 h2)⟩
set_option maxRecDepth 20000 in
set_option maxHeartbeats 3200000 in
theorem put_any (h : MdAt w B gm vl M) (P : Option Addr) (c n : Nat) (p : List UInt8) (hr : Rd w P p) (hn : p.length = n) (hl : n ≤ 1200) (hle : M.l.length ≤ 1000) (hen : M.en < 1000000000000) (hB : B ≤ w.heap.size) :
    Calls Tryd.prog 31 #[.pointer (some ⟨gm, 0, none⟩), .slice P n c] w (fun e w' => ∃ vl', e = .returned (.int .u64 (M.en : Int)) ∧ MdAt w' B gm vl' { M with l := M.l ++ [(M.en, p)], en := M.en + (n + 2) } ∧ Mfr gm vl w w' ∧ (vl'.ownBlock = vl.ownBlock ∨ ∀ k, vl'.ownBlock = some k → w.heap.size ≤ k)) := by
  have H := hide h
  have HM0 : Hid (MdAt w.drew B gm vl M) := hide (h.ext (Ext.drew _))
  obtain ⟨c0, c1, -, -, -, -, -⟩ := h.cells
  have hs := str_any (hr.ext (Ext.drew w)) n c hn
  have hs2 := str_any hr n c hn
  obtain ⟨en, HEN⟩ : ∃ en, Hid (M.en = en) := ⟨_, hide rfl⟩
  rw [HEN.out] at c1 hen ⊢
  have hw1 : IntKind.u64.wrap (n : Int) = (n : Int) := by rw [IntKind.wrap_u64]; omega
  have hw2 : IntKind.u64.wrap ((n : Int) + 2) = (n : Int) + 2 := by rw [IntKind.wrap_u64]; omega
  have hw3 : IntKind.u64.wrap ((en : Int) + ((n : Int) + 2)) = ((en + (n + 2) : Nat) : Int) := by rw [IntKind.wrap_u64]; omega
  have HLE := hide hle
  have HB := hide hB
  obtain ⟨v2, w2, hrun, hrs, hg2, hn2, A2, d2, hv2⟩ := run_pushR w.drew 30 B vl M.l (en, p) HM0.out.recs HB.out (Nat.le_trans HLE.out (by decide))
  subst hv2
  have HRS := hide hrs
  have HBK : Hid (Rw w2 gm 32 (mdC vl M)) := hide ((hg2.block gm HM0.out.blk.lt (fun e => HM0.out.ne gm e.symm rfl)).trans HM0.out.blk)
  have HG2 := hide hg2
  have HN2 := hide hn2
  have e0 := HBK.out.cell (i := 0) rfl
  have f0 := HBK.out.frozen 0
  have HRUN := hide hrun
  have c0b := (h.ext (Ext.alloc w (.cells #[.int .u64 (en : Int), .string ⟨p.toArray⟩] 63))).cells.1
  obtain ⟨vn, HVN⟩ : ∃ vn, Hid (Value.slice A2 (M.l.length + 1) d2 = vn) := ⟨_, hide rfl⟩
  clear h hr hn hl hle hen hB hrun hrs hg2 hn2
  go_enter Tryd.func31, Tryd.ntmps31
  go_upto_region 2 with fail
  go_cut [] from 10 to 22 (fun wx => Hid (wx = w2.setCell ⟨gm, 0, none⟩ (.slice A2 (M.l.length + 1) d2)))
  case first =>
    go_region_law (first
      | (refine step_givesV (gives_append (s := .tmp 14) (x := .tmp 19) rfl (by rfl) (by rfl) HRUN.out ⟨rfl, rfl⟩) rfl ?_))
    all_goals (go_wp2_with fail; go_meet)
    all_goals exact hide rfl
  case rest =>
  obtain ⟨wx, HWXE⟩ : ∃ wx, wx = wc := ⟨_, rfl⟩
  subst HWXE
  have HWX := hcut
  clear hcut
  have HM3 : Hid (MdAt wx B gm (.slice A2 (M.l.length + 1) d2) { M with l := M.l ++ [(en, p)] }) := hide (by
    rw [HWX.out]
    refine ⟨HBK.out.set 0 _, HRS.out.keep fun k hk => ?_, HM0.out.base⟩
    refine Below.heap_setCell w2 ⟨gm, 0, none⟩ _ k (fun e => ?_)
    obtain ⟨vs, hr⟩ := HRS.out.row k hk
    exact (hr.apart HBK.out (by decide)) e)
  have HF3 : Hid (Mfr gm vl w wx) := hide (by
    rw [HWX.out]
    exact ⟨HG2.out.os, HG2.out.tape, HG2.out.output, by simpa using HG2.out.size, fun k hk h1 h2 => (Below.heap_setCell w2 ⟨gm, 0, none⟩ _ k h1).trans (HG2.out.block k hk (fun e => h2 e.symm))⟩)
  have d1 := HM3.out.cells.2.1
  have g1 := HM3.out.blk.frozen 1
  simp only at d1
  rw [HEN.out] at d1
  clear c0 c1 hs hs2 e0 f0 c0b
  go_wp2
  go_ret
  refine ⟨rfl, .slice A2 (M.l.length + 1) d2, HM3.out.put 1 _ _ rfl ?_, ?_, HN2.out⟩
  · rfl
  · exact ⟨HF3.out.os, HF3.out.tape, HF3.out.output, by simpa using HF3.out.size, fun k hk h1 h2 => (Below.heap_setCell wx ⟨gm, 1, none⟩ _ k h1).trans (HF3.out.other k hk h1 h2)⟩
/-- The model's room. -/
def mRoom (M : Md) : Int := (((M.st / 480 + M.cn) * 480 : Nat) : Int) - (M.en : Int) - (M.hl : Int)
set_option maxHeartbeats 1600000 in
theorem mroom_any (h : MdAt w B gm vl M) (hs : M.st < 1000000000000) (hc : M.cn < 5000) (he : M.en ≤ (M.st / 480 + M.cn) * 480) (hh : M.hl < 1000000000000) : Calls Tryd.prog 13 #[.pointer (some ⟨gm, 0, none⟩)] w (fun e w' => e = .returned (.int .i64 (mRoom M)) ∧ ∃ m, w' = w.drewN m) := by
  obtain ⟨-, c1, -, c3, -, c5, c6⟩ := h.cells
  obtain ⟨en, HEN⟩ : ∃ en, Hid (M.en = en) := ⟨_, hide rfl⟩
  obtain ⟨st, HST⟩ : ∃ st, Hid (M.st = st) := ⟨_, hide rfl⟩
  obtain ⟨cn, HCN⟩ : ∃ cn, Hid (M.cn = cn) := ⟨_, hide rfl⟩
  obtain ⟨hl, HHL⟩ : ∃ hl, Hid (M.hl = hl) := ⟨_, hide rfl⟩
  unfold mRoom
  rw [HEN.out] at c1 he ⊢
  rw [HST.out] at c3 hs he ⊢
  rw [HCN.out] at c6 hc he ⊢
  rw [HHL.out] at c5 hh ⊢
  have hw1 : IntKind.u64.wrap (cn : Int) = (cn : Int) := by rw [IntKind.wrap_u64]; omega
  have hw0 : IntKind.u64.wrap ((st : Int) / 480) = (st : Int) / 480 := by rw [IntKind.wrap_u64]; omega
  have hw2 : IntKind.u64.wrap ((st : Int) / 480 + (cn : Int)) = (st : Int) / 480 + (cn : Int) := by rw [IntKind.wrap_u64]; omega
  have hw3 : IntKind.u64.wrap (((st : Int) / 480 + (cn : Int)) * 480) = ((st : Int) / 480 + (cn : Int)) * 480 := by rw [IntKind.wrap_u64]; omega
  have hw4 : IntKind.u64.wrap (((st : Int) / 480 + (cn : Int)) * 480 - (en : Int)) = ((st : Int) / 480 + (cn : Int)) * 480 - (en : Int) := by rw [IntKind.wrap_u64]; omega
  have hw5 : IntKind.i64.wrap (((st : Int) / 480 + (cn : Int)) * 480 - (en : Int)) = ((st : Int) / 480 + (cn : Int)) * 480 - (en : Int) := by rw [IntKind.wrap_i64]; omega
  have hw6 : IntKind.i64.wrap (((st : Int) / 480 + (cn : Int)) * 480 - (en : Int) - (hl : Int)) = ((st : Int) / 480 + (cn : Int)) * 480 - (en : Int) - (hl : Int) := by rw [IntKind.wrap_i64]; omega
  have HV : Hid ((((st / 480 + cn) * 480 : Nat) : Int) - (en : Int) - (hl : Int) = ((st : Int) / 480 + (cn : Int)) * 480 - (en : Int) - (hl : Int)) := hide (by omega)
  rw [HV.out]
  clear h hs hc he hh
  go_enter Tryd.func13, Tryd.ntmps13
  go_wp2
  go_quiet (fail)
  go_wp2
  go_ret
  exact ⟨rfl, _, rfl⟩
end
end Go.Proofs.YtdifpbicdicggaaDoor
namespace Go.Proofs.YtdifpbicdicggaaDoor
open Go.RowKit

/-- Records, each at its place. -/
def plc : Nat → List (List UInt8) → List (Nat × List UInt8)
  | _, [] => []
  | a, p :: rs => (a, p) :: plc (a + (2 + p.length)) rs
theorem plc_len : ∀ (rs : List (List UInt8)) (a : Nat), (plc a rs).length = rs.length
  | [], _ => rfl
  | p :: rs, a => by
    show (plc (a + (2 + p.length)) rs).length + 1 = rs.length + 1
    rw [plc_len rs]
theorem plc_get : ∀ (rs : List (List UInt8)) (a j : Nat) (r : Nat × List UInt8), (plc a rs)[j]? = some r → ∃ pre post, rs = pre ++ r.2 :: post ∧ r.1 = a + (recsB pre).length ∧ pre.length = j
  | [], a, j, r, h => by cases h
  | p :: rs, a, 0, r, h => by
    have h : some (a, p) = some r := h
    injection h with h
    subst h
    exact ⟨[], rs, rfl, rfl, rfl⟩
  | p :: rs, a, j + 1, r, h => by
    obtain ⟨pre, post, h1, h2, h3⟩ := plc_get rs (a + (2 + p.length)) j r h
    refine ⟨p :: pre, post, by rw [h1]; rfl, ?_, by rw [List.length_cons, h3]⟩
    rw [h2, recsB_cons, List.length_append, frm_len]
    omega
theorem plc_app : ∀ (rs : List (List UInt8)) (a : Nat) (p : List UInt8), plc a (rs ++ [p]) = plc a rs ++ [(a + (recsB rs).length, p)]
  | [], a, p => rfl
  | q :: rs, a, p => by
    show (a, q) :: plc (a + (2 + q.length)) (rs ++ [p]) = (a, q) :: (plc (a + (2 + q.length)) rs ++ [_])
    rw [plc_app rs, recsB_cons, List.length_append, frm_len, Nat.add_assoc]
section
variable {w0 w w1 : World} {X : Bk} {D D' : Dk} {L L' : Lg} {B gm : Nat} {vl : Value} {M : Md} {H : List UInt8} {rs : List (List UInt8)}
/-- The model is the log's. -/
structure Mir (D : Dk) (L : Lg) (H : List UInt8) (M : Md) (rs : List (List UInt8)) : Prop where
  rg : Rg D L H
  en : M.en = H.length
  su : M.su = L.sure
  st : M.st = L.hd.st
  fi : L.hd.fi = L.hd.st
  ck : M.ck = L.hd.ck
  hl : M.hl = 0
  cn : M.cn = L.hd.cn
  l : M.l = plc L.hd.fi rs
  recs : H.drop L.hd.fi = recsB rs
  ok : ∀ p ∈ rs, RecOk p
theorem lsure_any (h : LgAt w0 w X D L) : Calls Tryd.prog 26 #[.pointer (some ⟨X.q, 0, none⟩)] w (Same w (.int .u64 (L.sure : Int))) := by
  have c8 := h.blk.cell (i := 8) rfl
  clear h
  go_enter Tryd.func26, Tryd.ntmps26
  go_wp2
  go_ret
  exact ⟨rfl, rfl⟩
theorem lstart_any (h : LgAt w0 w X D L) : Calls Tryd.prog 27 #[.pointer (some ⟨X.q, 0, none⟩)] w (Same w (.int .u64 (L.hd.st : Int))) := by
  have c4 := h.blk.cell (i := 4) rfl
  clear h
  go_enter Tryd.func27, Tryd.ntmps27
  go_wp2
  go_ret
  exact ⟨rfl, rfl⟩
theorem lcheck_any (h : LgAt w0 w X D L) : Calls Tryd.prog 28 #[.pointer (some ⟨X.q, 0, none⟩)] w (Same w (.int .u64 (L.hd.ck : Int))) := by
  have c6 := h.blk.cell (i := 6) rfl
  clear h
  go_enter Tryd.func28, Tryd.ntmps28
  go_wp2
  go_ret
  exact ⟨rfl, rfl⟩
theorem to_drewN {W : World} {r : Value} {e : Ending} {w' : World} (h : Same W r e w') : e = .returned r ∧ ∃ m, w' = W.drewN m := ⟨h.1, 0, h.2.symm⟩
set_option maxRecDepth 20000 in
set_option maxHeartbeats 3200000 in
theorem same_any (h : LgAt w0 w X D L) (hm : MdAt w B gm vl M) (mi : Mir D L H M rs) : Calls Tryd.prog 32 #[.pointer (some ⟨X.q, 0, none⟩), .pointer (some ⟨gm, 0, none⟩)] w (fun e w' => e = .returned (.bool true) ∧ ∃ m, w' = w.drewN m) := by
  have hok := mi.rg.ok
  have hst0 : L.hd.st < 1152921504606846976 := by have := mi.rg.st; have := hok.sure; omega
  have KE := hide (fun (W : World) (hW : Ext w W) => end_any (h.ext_ hW) hok)
  have KS := hide (fun (W : World) (hW : Ext w W) => (lsure_any (h.ext_ hW)).mono fun _ _ hh => to_drewN hh)
  have KT := hide (fun (W : World) (hW : Ext w W) => (lstart_any (h.ext_ hW)).mono fun _ _ hh => to_drewN hh)
  have KC := hide (fun (W : World) (hW : Ext w W) => (lcheck_any (h.ext_ hW)).mono fun _ _ hh => to_drewN hh)
  have KH := hide (fun (W : World) (hW : Ext w W) => (held_any (h.ext_ hW)).mono fun _ _ hh => to_drewN hh)
  have KR := hide (fun (W : World) (hW : Ext w W) => room_any (h.ext_ hW) hok hst0)
  have KM := hide (fun (W : World) (hW : Ext w W) => mroom_any (hm.ext hW) (by rw [mi.st]; have := mi.rg.st; have := mi.rg.sure; have := mi.rg.big; omega) (by rw [mi.cn]; have := mi.rg.cn; omega) (by rw [mi.st, mi.cn, mi.en]; exact mi.rg.ring) (by rw [mi.hl]; decide))
  have HR : Hid (mRoom M = roomOf L) := hide (by
    unfold mRoom
    rw [mi.rg.room, mi.st, mi.cn, mi.en, mi.hl]
    omega)
  obtain ⟨-, c1, c2, c3, c4, c5, -⟩ := hm.cells
  rw [mi.en] at c1
  rw [mi.su] at c2
  rw [mi.st] at c3
  rw [mi.ck] at c4
  rw [mi.hl] at c5
  obtain ⟨en, HEN⟩ : ∃ en, Hid (H.length = en) := ⟨_, hide rfl⟩
  obtain ⟨ro, HRO⟩ : ∃ ro, Hid (roomOf L = ro) := ⟨_, hide rfl⟩
  obtain ⟨su, HSU⟩ : ∃ su, Hid (L.sure = su) := ⟨_, hide rfl⟩
  obtain ⟨st, HST⟩ : ∃ st, Hid (L.hd.st = st) := ⟨_, hide rfl⟩
  obtain ⟨ck, HCK⟩ : ∃ ck, Hid (L.hd.ck = ck) := ⟨_, hide rfl⟩
  rw [mi.rg.end_, HEN.out] at KE
  rw [HSU.out] at KS c2
  rw [HST.out] at KT c3
  rw [HCK.out] at KC c4
  rw [mi.rg.held] at KH
  rw [HRO.out] at KR HR
  rw [HR.out] at KM
  rw [HEN.out] at c1
  clear h hm mi hok hst0
  go_enter Tryd.func32, Tryd.ntmps32
  go_wp2
  go_quiet (first
    | (go_at_call 15; exact Calls.quiet_of (KE.out _ ((Ext.refl _).drewN _)))
    | (go_at_call 26; exact Calls.quiet_of (KS.out _ ((Ext.refl _).drewN _)))
    | (go_at_call 27; exact Calls.quiet_of (KT.out _ ((Ext.refl _).drewN _)))
    | (go_at_call 28; exact Calls.quiet_of (KC.out _ ((Ext.refl _).drewN _)))
    | (go_at_call 30; exact Calls.quiet_of (KH.out _ ((Ext.refl _).drewN _)))
    | (go_at_call 29; exact Calls.quiet_of (KR.out _ ((Ext.refl _).drewN _)))
    | (go_at_call 13; exact Calls.quiet_of (KM.out _ ((Ext.refl _).drewN _))))
  go_wp2
  go_ret
  exact ⟨rfl, _, rfl⟩
end
end Go.Proofs.YtdifpbicdicggaaDoor
namespace Go.Proofs.YtdifpbicdicggaaDoor
open Go.RowKit

section
variable {w0 w w1 : World} {X : Bk} {D D' : Dk} {L L' : Lg} {B gm : Nat} {vl : Value} {M : Md} {H : List UInt8} {rs : List (List UInt8)}
/-- A record that stands there is read. -/
theorem read_rec (h : LgAt w0 w X D L) (rg : Rg D L H) (x : Nat) (p rest : List UInt8) (hf : L.hd.fi ≤ x) (hp : RecOk p) (hH : H.drop x = frm p ++ rest) (hT : Tab w0) :
    Calls Tryd.prog 25 #[.pointer (some ⟨X.q, 0, none⟩), .int .u64 (x : Int)] w (fun e w' => ∃ A c, e = .returned (.tuple #[.slice A p.length c, .int .u64 ((x + 2 + p.length : Nat) : Int), .int .i64 0]) ∧ Rd w' A p ∧ Ext w w') := by
  obtain ⟨ep, hd⟩ := rg.dur
  have hlen : H.length - x = 2 + p.length + rest.length := by rw [← List.length_drop, hH, List.length_append, frm_len]
  have b1 := byE_is rg.on hd rg.sure rg.tail x 2 hf (by omega)
  have b2 := byE_is rg.on hd rg.sure rg.tail (x + 2) p.length (by omega) (by omega)
  have e1 : byB D L x 2 = be2 p.length ++ [] := by
    rw [b1.2, hH]
    unfold frm
    rw [List.append_assoc, List.append_nil]
    exact List.take_left' (be2_length _)
  have e2 : byB D L (x + 2) p.length = p := by
    rw [b2.2, ← List.drop_drop, hH]
    unfold frm
    rw [List.append_assoc, List.drop_left' (be2_length _)]
    exact List.take_left' rfl
  have k := read_at h rg.ok rg.bd rg.on x p.length hp.1 (by rw [rg.end_]; omega) hf b1.1 (by rw [e1]; exact be2_get _ hp.2 _) b2.1 hT
  rw [e2] at k
  refine k.mono fun e w' hh => ?_
  obtain ⟨v, he, ho, hx⟩ := hh
  obtain ⟨A, c, rfl, -, hr⟩ := ho.bytes
  exact ⟨A, c, he, hr, hx⟩
set_option maxRecDepth 20000 in
set_option maxHeartbeats 3200000 in
theorem all_any (h : LgAt w0 w X D L) (hm : MdAt w B gm vl M) (mi : Mir D L H M rs) (hT : Tab w0) : Calls Tryd.prog 33 #[.pointer (some ⟨gm, 0, none⟩), .pointer (some ⟨X.q, 0, none⟩)] w (fun e w' => e = .returned (.bool true) ∧ Ext w w') := by
  have HL := hide h
  have HM := hide hm
  have HMI := hide mi
  have HT := hide hT
  obtain ⟨n, HN⟩ : ∃ n, Hid (M.l.length = n) := ⟨_, hide rfl⟩
  obtain ⟨A0, d0, hv0⟩ := hm.recs.slice
  rw [HN.out] at hv0
  have HV0 := hide hv0
  have hst0 := mi.rg.st
  have hsu0 := mi.rg.sure
  have hbg0 := mi.rg.big
  obtain ⟨st, HST⟩ : ∃ st, Hid (L.hd.st = st) := ⟨_, hide rfl⟩
  obtain ⟨en, HEN⟩ : ∃ en, Hid (H.length = en) := ⟨_, hide rfl⟩
  have HNB : Hid (n ≤ 1000000000000) := hide (by
    have h1 : M.l.length = rs.length := by rw [mi.l, plc_len]
    have h2 := recs_le rs
    have h3 : (recsB rs).length = H.length - L.hd.fi := by rw [← mi.recs, List.length_drop]
    rw [← HN.out]
    omega)
  have HSB : Hid (480 ≤ st ∧ st ≤ en ∧ en < 1000000000000) := hide (by rw [← HST.out, ← HEN.out]; omega)
  have KE : Hid (∀ W, Ext w W → Calls Tryd.prog 25 #[.pointer (some ⟨X.q, 0, none⟩), .int .u64 (en : Int)] W (RNone W 6)) := hide (fun W hW => by
    have k := read_end (h.ext_ hW) mi.rg.ok (by rw [mi.rg.end_]; omega)
    rw [mi.rg.end_, HEN.out] at k
    exact k)
  have KH : Hid (∀ W, Ext w W → Calls Tryd.prog 25 #[.pointer (some ⟨X.q, 0, none⟩), .int .u64 ((en + 1 : Nat) : Int)] W (RNone W 1)) := hide (fun W hW => by
    exact read_hi (h.ext_ hW) mi.rg.ok (en + 1) (by rw [← HEN.out]; omega) (by rw [mi.rg.end_, HEN.out]; omega))
  have KL : Hid (∀ W, Ext w W → Calls Tryd.prog 25 #[.pointer (some ⟨X.q, 0, none⟩), .int .u64 ((st - 1 : Nat) : Int)] W (RNone W 1)) := hide (fun W hW => by
    exact read_lo (h.ext_ hW) (st - 1) (by rw [mi.fi, HST.out]; have := HSB.out; omega))
  have KR : Hid (∀ (W : World) (k : Nat) (r : Nat × List UInt8), Ext w W → M.l[k]? = some r → Calls Tryd.prog 25 #[.pointer (some ⟨X.q, 0, none⟩), .int .u64 (r.1 : Int)] W (fun e w' => ∃ A c, e = .returned (.tuple #[.slice A r.2.length c, .int .u64 ((r.1 + 2 + r.2.length : Nat) : Int), .int .i64 0]) ∧ Rd w' A r.2 ∧ Ext W w')) := hide (fun W k r hW hk => by
    rw [mi.l] at hk
    obtain ⟨pre, post, e1, e2, e3⟩ := plc_get rs L.hd.fi k r hk
    have e4 : H.drop r.1 = frm r.2 ++ recsB post := by
      rw [e2, ← List.drop_drop, mi.recs, e1, recsB_app, List.drop_left, recsB_cons]
    exact read_rec (h.ext_ hW) mi.rg r.1 r.2 (recsB post) (by rw [e2]; omega) (mi.ok r.2 (by rw [e1]; simp)) e4 hT)
  have HRG : Hid (∀ (k : Nat) (r : Nat × List UInt8), M.l[k]? = some r → st ≤ r.1 ∧ r.1 < 1000000000000 ∧ r.2.length ≤ 1200) := hide (fun k r hk => by
    rw [mi.l] at hk
    obtain ⟨pre, post, e1, e2, e3⟩ := plc_get rs L.hd.fi k r hk
    have h2 := mi.ok r.2 (by rw [e1]; simp)
    have h3 : (recsB rs).length = H.length - L.hd.fi := by rw [← mi.recs, List.length_drop]
    rw [e1, recsB_app, List.length_append] at h3
    have h4 := mi.fi
    have h5 := h2.2
    refine ⟨by rw [← HST.out]; omega, by omega, h5⟩)
  have c0 := hm.cells.1
  rw [hv0] at c0
  have c1 := hm.cells.2.1
  have c3 := hm.cells.2.2.2.1
  rw [mi.en, HEN.out] at c1
  rw [mi.st, HST.out] at c3
  clear h hm mi hst0 hsu0 hbg0 hv0 hT
  go_enter Tryd.func33, Tryd.ntmps33
  go_upto_region 2 with fail
  go_loopw [5] (fun x wr => ∃ k : Nat, x = .int .i64 (k : Int) ∧ k ≤ n ∧ Hid (Ext w wr)) (fun x _ => n - (intOf x).toNat)
  case atStart => exact ⟨0, rfl, Nat.zero_le _, hide (Ext.refl _)⟩
  case round =>
    obtain ⟨k, rfl, hk, HX⟩ := hrel
    have HMR := hide (HM.out.ext HX.out)
    have b0 := HMR.out.cells.1
    have b3 := HMR.out.cells.2.2.2.1
    rw [show M.st = st from by rw [HMI.out.st, HST.out]] at b3
    by_cases hkn : k < n
    · obtain ⟨r, hr⟩ : ∃ r, M.l[k]? = some r := ⟨_, List.getElem?_eq_getElem (by rw [HN.out]; exact hkn)⟩
      have HRK := hide hr
      obtain ⟨g, off, d, hv, hnd, hcell⟩ := HMR.out.recs.at (by intro e; rw [e] at hr; cases hr)
      rw [HN.out] at hv hnd
      have HV := hide hv
      have HND := hide hnd
      rw [hv] at b0
      obtain ⟨a0, a1⟩ := hcell k r hr
      obtain ⟨x, HX0⟩ : ∃ x, Hid (r.1 = x) := ⟨_, hide rfl⟩
      obtain ⟨p, HP0⟩ : ∃ p, Hid (r.2 = p) := ⟨_, hide rfl⟩
      have HG := hide (HRG.out k r hr)
      have KRX := hide (fun W hW => KR.out W k r hW hr)
      rw [HX0.out] at a0 HG KRX
      rw [HP0.out] at a1 HG KRX
      have HCL : Hid (∀ W, Ext wr W → W.cell? ⟨gm, 0, none⟩ = some (.slice (some ⟨g, off, none⟩) n d) ∧ W.cell? ⟨g, off + k * 2, none⟩ = some (.int .u64 (x : Int)) ∧ W.cell? ⟨g, off + k * 2 + 1, none⟩ = some (.string ⟨p.toArray⟩)) := hide (fun W hW => by
        have hm2 := HMR.out.ext hW
        have q0 := hm2.cells.1
        obtain ⟨g2, off2, d2, hv2, -, hc2⟩ := hm2.recs.at (by intro e; rw [e] at hr; cases hr)
        rw [hv2] at hv
        injection hv with e1 e2 e3
        injection e1 with e1
        injection e1 with e4 e5
        subst e4 e5 e3
        rw [hv2, HN.out] at q0
        obtain ⟨q1, q2⟩ := hc2 k r hr
        rw [HX0.out] at q1
        rw [HP0.out] at q2
        exact ⟨q0, q1, q2⟩)
      obtain ⟨pl, HPL⟩ : ∃ pl, Hid (p.length = pl) := ⟨_, hide rfl⟩
      rw [HPL.out] at HG KRX
      have hki : (k : Int) < (n : Int) := by omega
      have hxs : ¬ (x : Int) < (st : Int) := by have := HG.out.1; omega
      have hw1 : IntKind.u64.wrap (pl : Int) = (pl : Int) := by rw [IntKind.wrap_u64]; have := HG.out; omega
      have hw2 : IntKind.u64.wrap ((x : Int) + (pl : Int)) = (x : Int) + (pl : Int) := by rw [IntKind.wrap_u64]; have := HG.out; omega
      have hw3 : IntKind.u64.wrap ((x : Int) + (pl : Int) + 2) = ((x + 2 + pl : Nat) : Int) := by rw [IntKind.wrap_u64]; have := HG.out; omega
      have hw4 : IntKind.i64.wrap ((k : Int) + 1) = ((k + 1 : Nat) : Int) := by rw [IntKind.wrap_i64]; have := HNB.out; omega
      obtain ⟨k1, HK1⟩ : ∃ k1, Hid (k + 1 = k1) := ⟨_, hide rfl⟩
      have HKN := hide hkn
      rw [HK1.out] at hw4
      obtain ⟨y, HY⟩ : ∃ y : Int, Hid (((x + 2 + pl : Nat) : Int) = y) := ⟨_, hide rfl⟩
      rw [HY.out] at hw3 KRX
      clear hv hnd hr hcell
      go_upto_region 4 with fail
      go_quiet (fail)
      obtain ⟨wq, hwq⟩ : ∃ wq, wr.drewN nq = wq := ⟨_, rfl⟩
      have HXQ : Hid (Ext wr wq) := hide (by rw [← hwq]; exact (Ext.refl _).drewN _)
      rw [hwq]
      clear hwq b0 b3 a0 a1 hxs hki
      obtain ⟨d0, d1, d2⟩ := HCL.out wq HXQ.out
      have hki : (k : Int) < (n : Int) := by have := HKN.out; omega
      go_upto_region 6 with (go_at_call 25; (with_reducible refine (KRX.out wq (HX.out.trans HXQ.out)).mono ?_); rintro e w4 ⟨A4, c4, rfl, hr4, hx4⟩; have HX4 : Hid (Ext wr w4) := hide (HXQ.out.trans hx4); have hs4 := str_any hr4 pl c4 HPL.out; have hs5 := (fun (m : Nat) => str_any (hr4.ext ((Ext.refl w4).drewN m)) pl c4 HPL.out); clear hr4 hx4)
      clear d0 d1 d2
      obtain ⟨d0, d1, d2⟩ := HCL.out w4 HX4.out
      go_quiet (fail)
      obtain ⟨w5, hw5⟩ : ∃ w5, w4.drewN nq = w5 := ⟨_, rfl⟩
      have HX5 : Hid (Ext w w5) := hide (by rw [← hw5]; exact (HX.out.trans HX4.out).drewN _)
      rw [hw5]
      clear hw5 d0 d1 d2 hs4 hs5
      go_wp2
      refine ⟨⟨k1, rfl, by have := HK1.out; have := HKN.out; omega, HX5⟩, ?_⟩
      show n - ((k1 : Nat) : Int).toNat < n - ((k : Nat) : Int).toNat
      have := HK1.out
      have := HKN.out
      omega
    · have hki : ¬ (k : Int) < (n : Int) := by omega
      rw [HV0.out] at b0
      have b1 := HMR.out.cells.2.1
      rw [show M.en = en from by rw [HMI.out.en, HEN.out]] at b1
      have HC1 : Hid (∀ W, Ext wr W → W.cell? ⟨gm, 1, none⟩ = some (.int .u64 (en : Int)) ∧ W.cell? ⟨gm, 3, none⟩ = some (.int .u64 (st : Int))) := hide (fun W hW => by
        have hm2 := HMR.out.ext hW
        have q1 := hm2.cells.2.1
        have q3 := hm2.cells.2.2.2.1
        rw [show M.en = en from by rw [HMI.out.en, HEN.out]] at q1
        rw [show M.st = st from by rw [HMI.out.st, HST.out]] at q3
        exact ⟨q1, q3⟩)
      have hw1 : IntKind.u64.wrap ((en : Int) + 1) = ((en + 1 : Nat) : Int) := by rw [IntKind.wrap_u64]; have := HSB.out; omega
      have hw2 : IntKind.u64.wrap ((st : Int) - 1) = ((st - 1 : Nat) : Int) := by rw [IntKind.wrap_u64]; have := HSB.out; omega
      obtain ⟨e1, HE1⟩ : ∃ e1, Hid (en + 1 = e1) := ⟨_, hide rfl⟩
      obtain ⟨s1, HS1⟩ : ∃ s1, Hid (st - 1 = s1) := ⟨_, hide rfl⟩
      rw [HE1.out] at hw1 KH
      rw [HS1.out] at hw2 KL
      clear c0 c1 c3 hk
      go_wp2_with (first
        | (go_at_call 25; (with_reducible refine (KE.out wr HX.out).mono ?_); rintro e w4 ⟨rfl, m4, hw4⟩; have HX4 : Hid (Ext wr w4) := hide (by rw [hw4]; exact (Ext.refl _).drewN _); obtain ⟨q1, q3⟩ := HC1.out w4 HX4.out; clear hw4)
        | (go_at_call 25; (with_reducible refine (KH.out w4 (HX.out.trans HX4.out)).mono ?_); rintro e w5 ⟨rfl, m5, hw5⟩; have HX5 : Hid (Ext wr w5) := hide (by rw [hw5]; exact HX4.out.drewN _); obtain ⟨p1, p3⟩ := HC1.out w5 HX5.out; clear hw5)
        | (go_at_call 25; (with_reducible refine (KL.out w5 (HX.out.trans HX5.out)).mono ?_); rintro e w6 ⟨rfl, m6, hw6⟩; have HX6 : Hid (Ext wr w6) := hide (by rw [hw6]; exact HX5.out.drewN _); clear hw6))
      go_ret
      exact ⟨rfl, HX.out.trans HX6.out⟩
end
end Go.Proofs.YtdifpbicdicggaaDoor
namespace Go.Proofs.YtdifpbicdicggaaDoor
open Go.RowKit

section
variable {w0 w w' w1 : World} {X X' : Bk} {D D' : Dk} {L L' : Lg} {B gm : Nat} {vl : Value} {M : Md} {H : List UInt8} {rs : List (List UInt8)}
/-- A block of another kind is none of the log's. -/
theorem LgAt.not_has (h : LgAt w0 w X D L) {k : Nat} {t : TypeId} {vs : List Value} (hr : Rw w k t vs) (h1 : t ≠ 75) (h2 : t ≠ 71) (h3 : t ≠ 86) (h4 : t ≠ 3) (h5 : t ≠ 88) (h6 : t ≠ 5) : ¬ X.has k := fun hh => by
  rcases hh with e | e | e | e | ⟨a, ha, e⟩ | hk
  · exact hr.apart h.blk h1 e
  · exact hr.apart h.disk.blk h2 e
  · exact hr.apart h.disk.dur h3 e
  · exact hr.apart h.disk.new h4 e
  · exact hr.apart_own h.disk.pen h5 a ha e
  · exact own_apartR hr h6 h.tail hk.symm
theorem LgAt.not_model (h : LgAt w0 w X D L) (hm : MdAt w B gm vl M) : ∀ k, k = gm ∨ vl.ownBlock = some k → ¬ X.has k := fun k hk => by
  rcases hk with rfl | hk
  · exact h.not_has hm.blk (by decide) (by decide) (by decide) (by decide) (by decide) (by decide)
  · obtain ⟨vs, hr⟩ := hm.recs.row k hk
    exact h.not_has hr (by decide) (by decide) (by decide) (by decide) (by decide) (by decide)
/-- The model stays where the log turns. -/
theorem MdAt.lfr (hm : MdAt w B gm vl M) (h : LgAt w0 w X D L) (hf : Lfr X w w') : MdAt w' B gm vl M := hm.keep fun k hk => by
  refine hf.other k ?_ (h.not_model hm k hk)
  rcases hk with rfl | hk
  · exact hm.blk.lt
  · exact (hm.recs.lt k hk).2
/-- The log stays where its blocks do. -/
theorem LgAt.keepAll (h : LgAt w0 w X D L) (hx : Ext w0 w') (hk : ∀ k, X.has k → w'.heap[k]? = w.heap[k]?) : LgAt w0 w' X D L :=
  ⟨hx, h.disk.keep1 fun k hh => hk k (by
      rcases hh with e | e | e | ⟨a, ha, e⟩
      · exact .inr (.inl e)
      · exact .inr (.inr (.inl e))
      · exact .inr (.inr (.inr (.inl e)))
      · exact .inr (.inr (.inr (.inr (.inl ⟨a, ha, e⟩))))),
    (hk X.q (.inl rfl)).trans h.blk, h.tail.keep1 fun k hh => hk k (.inr (.inr (.inr (.inr (.inr hh))))), h.base⟩
theorem Mfr.extend {w0 : World} (hx : Ext w0 w) (hf : Mfr gm vl w w') (hm : MdAt w w0.heap.size gm vl M) : Ext w0 w' :=
  ⟨hf.os.trans hx.os, hf.tape.trans hx.tape, hf.output.trans hx.output, Nat.le_trans hx.size hf.size, fun k hk => (hf.other k (Nat.lt_of_lt_of_le hk hx.size) (fun e => by have := hm.base; omega) (fun e => by have := (hm.recs.lt k e).1; omega)).trans (Below.block hx k hk)⟩
theorem LgAt.mfr (h : LgAt w0 w X D L) (hm : MdAt w w0.heap.size gm vl M) (hf : Mfr gm vl w w') : LgAt w0 w' X D L :=
  h.keepAll (hf.extend h.ext hm) fun k hk => hf.other k (h.has_lt hk) (fun e => h.not_model hm k (.inl e) hk) (fun e => h.not_model hm k (.inr e) hk)
/-- The records from one on. -/
theorem RecS.drop {g off n c : Nat} {l : List (Nat × List UInt8)} (h : RecS w B (.slice (some ⟨g, off, none⟩) n c) l) (k : Nat) (hk : k ≤ n) (hc : k < c) : RecS w B (.slice (some ⟨g, off + k * 2, none⟩) (n - k) (c - k)) (l.drop k) := by
  rcases h with ⟨h, -⟩ | ⟨g', off', c', cur, hv, h1, h2, h3, h4, h5, h6, h7⟩
  · cases h
  · injection hv with e1 e2 e3
    injection e1 with e1
    injection e1 with e4 e5
    subst e4 e5 e3 e2
    refine .inr ⟨g, off + k * 2, c - k, cur, by rw [List.length_drop], h1, h2, by rw [List.length_drop]; omega, by omega, by omega, by omega, fun j u hu => ?_⟩
    rw [Nat.add_assoc]
    exact h7 _ u (recV_drop l k j u hu)
theorem MdAt.dfr {g gd gn : Nat} {A : Option Addr} (hm : MdAt w B gm vl M) (h : LgAt w0 w X D L) (hg : X.g = g) (hgd : X.gd = gd) (hgn : X.gn = gn) (hA : X.A = A) (hf : Dfr g gd gn A w w') : MdAt w' B gm vl M := hm.keep fun k hk => by
  have hn := h.not_model hm k hk
  refine hf.other k ?_ (fun e => hn (.inr (.inl (by rw [hg]; exact e)))) (fun e => hn (.inr (.inr (.inl (by rw [hgd]; exact e))))) (fun e => hn (.inr (.inr (.inr (.inl (by rw [hgn]; exact e)))))) (fun a ha e => hn (.inr (.inr (.inr (.inr (.inl ⟨a, by rw [hA]; exact ha, e⟩))))))
  rcases hk with rfl | hk
  · exact hm.blk.lt
  · exact (hm.recs.lt k hk).2
/-! ### the steps -/
theorem recsB_small : ∀ (rs : List (List UInt8)), (∀ p ∈ rs, p.length ≤ 400) → (recsB rs).length ≤ 402 * rs.length
  | [], _ => Nat.zero_le _
  | p :: rs, h => by
    have h1 := recsB_small rs (fun q hq => h q (by simp [hq]))
    have h2 := h p (by simp)
    rw [recsB_cons, List.length_append, frm_len, List.length_cons]
    omega
def appM (M : Md) (p : List UInt8) : Md := { M with l := M.l ++ [(M.en, p)], en := M.en + (p.length + 2) }
def sureM (M : Md) : Md := { M with su := M.en }
theorem Mir.app (mi : Mir D L H M rs) (hs : L.sure = H.length) (p : List UInt8) (hp : RecOk p) (hf : H.length + 2 + p.length ≤ (L.hd.st / 480 + L.hd.cn) * 480) (hb : H.length + 2 + p.length < 1000000000000) (ho : D.ops < 400000) :
    apE L p.length 0 = 0 ∧ Rg D (apL L p 0) (H ++ frm p) ∧ flE D (apL L p 0) = 0 ∧ Mir (flD D (apL L p 0)) (flL D (apL L p 0)) (H ++ frm p) (sureM (appM M p)) (rs ++ [p]) ∧ (flL D (apL L p 0)).sure = (H ++ frm p).length ∧ (flL D (apL L p 0)).hd = L.hd ∧ (flL D (apL L p 0)).at_ = L.at_ ∧ (flD D (apL L p 0)).ops ≤ D.ops + L.hd.cn + 2 ∧ (flD D (apL L p 0)).dur.length = D.dur.length := by
  obtain ⟨a1, a2, a3, a4, a5⟩ := mi.rg.app p hp hf hb
  obtain ⟨f1, f2, f3, f4, f5, f6, f7⟩ := a2.flush ho
  have ht := a2.tail_len
  rw [a3] at ht f4
  rw [a5] at f5
  have hst := mi.rg.st
  have hlen : (recsB rs).length = H.length - L.hd.fi := by rw [← mi.recs, List.length_drop]
  have hH : (H ++ frm p).length = H.length + 2 + p.length := by rw [List.length_append, frm_len]; omega
  refine ⟨a1, a2, f1, ⟨f2, ?_, ?_, by rw [f4]; exact mi.st, by rw [f4]; exact mi.fi, by rw [f4]; exact mi.ck, mi.hl, by rw [f4]; exact mi.cn, ?_, ?_, ?_⟩, f3, f4, f5, by omega, f7⟩
  · show M.en + (p.length + 2) = _
    rw [mi.en, hH]
    omega
  · show M.en + (p.length + 2) = _
    rw [f3, mi.en, hH]
    omega
  · show M.l ++ [(M.en, p)] = _
    rw [f4, plc_app, mi.l, mi.en, hlen]
    have e : L.hd.fi + (H.length - L.hd.fi) = H.length := by omega
    rw [e]
  · rw [f4, List.drop_append_of_le_length (by omega), mi.recs, recsB_app, recsB_cons, recsB_nil, List.append_nil]
  · intro q hq
    rcases List.mem_append.1 hq with h | h
    · exact mi.ok q h
    · rw [List.mem_singleton.1 h]; exact hp
def markM (M : Md) (l : List (Nat × List UInt8)) (pl : Nat) : Md := { M with l := l, st := pl }
theorem Mir.mark {a : List UInt8} (mi : Mir D L H M (a :: rs)) (hs : L.sure = H.length) (hck : L.hd.ck = 0) (ho : D.ops < 400000) (pl : Nat) (hpl : pl = L.hd.fi + (2 + a.length)) :
    mkE D L 0 pl = 0 ∧ Mir (mkD D L 0 pl) (mkL D L 0 pl) H (markM M (plc pl rs) pl) rs ∧ (mkL D L 0 pl).sure = L.sure ∧ (mkL D L 0 pl).hd.cn = L.hd.cn ∧ (mkL D L 0 pl).hd.ck = 0 ∧ (mkL D L 0 pl).hd.ep = L.hd.ep ∧ (mkL D L 0 pl).at_ = L.at_ ∧ (mkD D L 0 pl).ops ≤ D.ops + 2 ∧ (mkD D L 0 pl).dur.length = D.dur.length := by
  have hlen : (recsB (a :: rs)).length = H.length - L.hd.fi := by rw [← mi.recs, List.length_drop]
  rw [recsB_cons, List.length_append, frm_len] at hlen
  have hst := mi.rg.st
  have hsu := mi.rg.sure
  obtain ⟨m1, m2, m3, m4, m5, m6, m7⟩ := mi.rg.mark ho [a] rs pl (fun p hp => mi.ok p (by rw [List.mem_singleton.1 hp]; simp)) mi.recs (by rw [recsB_cons, recsB_nil, List.append_nil, frm_len]; exact hpl) (by omega)
  have e2 : (mkL D L 0 pl).hd.st = pl := by rw [m3]
  have e3 : (mkL D L 0 pl).hd.fi = pl := by rw [m3]
  have e4 : (mkL D L 0 pl).hd.ck = 0 := by rw [m3]
  have e5 : (mkL D L 0 pl).hd.cn = L.hd.cn := by rw [m3]
  have e6 : (mkL D L 0 pl).hd.ep = L.hd.ep := by rw [m3]
  refine ⟨m1, ⟨m2, mi.en, by rw [m4]; exact mi.su, by rw [e2]; rfl, by rw [e2, e3], ?_, mi.hl, by rw [e5]; exact mi.cn, by rw [e3]; rfl, ?_, fun p hp => mi.ok p (by simp [hp])⟩, m4, e5, e4, e6, m5, m6, m7⟩
  · rw [e4]
    show M.ck = 0
    rw [mi.ck, hck]
  · rw [e3, hpl, ← List.drop_drop, mi.recs, recsB_cons]
    exact List.drop_left' (frm_len a)
theorem Mir.opened (mi : Mir D L H M rs) (hs : L.sure = H.length) (ho : D.ops < 400000) (he : L.hd.ep + 1 < 1000000000000) :
    D.fallen [] = D ∧ opE D (L.at_ : Int) (L.hd.cn : Int) = 0 ∧ Mir (opD D (L.at_ : Int) (L.hd.cn : Int)) (opL D (L.at_ : Int)) H M rs ∧ (opL D (L.at_ : Int)).sure = L.sure ∧ (opL D (L.at_ : Int)).at_ = L.at_ ∧ (opL D (L.at_ : Int)).hd.cn = L.hd.cn ∧ (opL D (L.at_ : Int)).hd.ck = L.hd.ck ∧ (opL D (L.at_ : Int)).hd.ep = L.hd.ep + 1 ∧ (opD D (L.at_ : Int) (L.hd.cn : Int)).ops ≤ D.ops + 3 ∧ (opD D (L.at_ : Int) (L.hd.cn : Int)).dur.length = D.dur.length := by
  obtain ⟨o1, o2, o3, o4, o5⟩ := (mi.rg.fal rs mi.ok mi.recs hs).open_ ho he
  have hn := nextL_hd mi.rg.epo
  have e1 : (nextL L).hd.st = L.hd.st := by rw [hn]
  have e2 : (nextL L).hd.fi = L.hd.fi := by rw [hn]
  have e3 : (nextL L).hd.ck = L.hd.ck := by rw [hn]
  have e4 : (nextL L).hd.cn = L.hd.cn := by rw [hn]
  have e5 : (nextL L).hd.ep = L.hd.ep + 1 := by rw [hn]
  rw [o3] at o2 ⊢
  exact ⟨fallen_still mi.rg.awk mi.rg.pen, o1, ⟨o2, mi.en, mi.su, by rw [e1]; exact mi.st, by rw [e1, e2]; exact mi.fi, by rw [e3]; exact mi.ck, mi.hl, by rw [e4]; exact mi.cn, by rw [e2]; exact mi.l, by rw [e2]; exact mi.recs, mi.ok⟩, rfl, rfl, e4, e3, e5, o4, o5⟩
/-- A new log. -/
theorem rg_new {c : Nat} (h4 : 4 ≤ c) (h5 : c ≤ 4000) : Rg (dk2 (c + 3) 1 c) (lgN 1 c) (List.replicate 480 0) := by
  have hl : (dk2 (c + 3) 1 c).dur.length = c + 3 := dk2_len
  have hat : ∀ s, (dk2 (c + 3) 1 c).at s = ((((zS (c + 3)).set 1 (b1S c)).set 1 (b2S c)).set 3 bpS).getD s [] := fun s => rfl
  have hok := lgN_ok (a := 1) (n := c + 3) h4 (by omega) (by omega)
  refine ⟨awk_dk2, rfl, dk2_bd (by omega) (by omega), hok.hd, hok.cn, hok.at_, ?_, ?_, ⟨Nat.le_refl _, Nat.le_refl _, Nat.le_refl _⟩, rfl, Nat.zero_le _, rfl, ?_, ?_, ?_, ?_, fun _ => 1, ?_⟩
  · show ([] : List UInt8) = (List.replicate 480 0).drop (flo 480)
    rw [flo480]
    rfl
  · rw [List.length_replicate]
    exact Nat.le_refl _
  · rw [List.length_replicate]
    show 480 ≤ (480 / 480 + c) * 480
    omega
  · rw [List.length_replicate]; decide
  · show (1 : Nat) < _
    decide
  · show (dk2 (c + 3) 1 c).at 1 = b2S c
    rw [hat, set_far _ _ _ _ _ (by decide), set_get _ _ _ _ (by rw [List.length_set, zS_len]; omega)]
  · have hS : (List.replicate 480 (0 : UInt8)).take (lgN 1 c).sure = List.replicate 480 0 := List.take_of_length_le (by rw [List.length_replicate]; exact Nat.le_refl _)
    rw [hS]
    have hby : ∀ j, 480 ≤ 480 * j → ptThere (dk2 (c + 3) 1 c) (lgN 1 c) (480 * j) = true → 480 * j = 480 ∧ (ptAt (dk2 (c + 3) 1 c) (secOf (lgN 1 c) (480 * j))).ep = (1 : Int) ∧ (ptAt (dk2 (c + 3) 1 c) (secOf (lgN 1 c) (480 * j))).by_ = [] := fun j k1 k2 => by
      have hcn : (lgN 1 c).hd.cn = c := rfl
      have hsec : secOf (lgN 1 c) (480 * j) = 2 + j % c := by rw [sec_part]; rfl
      have hlt := Nat.mod_lt j (show 0 < c by omega)
      by_cases h3 : 2 + j % c = 3
      · have hb : (dk2 (c + 3) 1 c).at 3 = sealB 2 (ptNs 1 1 ([] : List UInt8).length) [] := by
          rw [hat, set_get _ _ _ _ (by rw [List.length_set, List.length_set, zS_len]; omega)]
          rfl
        obtain ⟨p1, p2⟩ := ptAt_seal (D := dk2 (c + 3) 1 c) rfl (i := 3) (by rw [hl]; omega) 1 1 [] hb (by decide) (by decide) (by decide)
        unfold ptThere at k2
        rw [hsec, h3] at k2 ⊢
        rw [p1, p2] at k2
        simp only [Bool.true_and, decide_eq_true_eq] at k2
        rw [p2]
        exact ⟨by omega, rfl, rfl⟩
      · exfalso
        have hz : (dk2 (c + 3) 1 c).at (2 + j % c) = List.replicate 512 0 := by
          rw [hat, set_far _ _ _ _ _ (by omega), set_far _ _ _ _ _ (by omega), set_far _ _ _ _ _ (by omega), zS_get (by omega)]
        have hp : ptIs (dk2 (c + 3) 1 c) ((2 + j % c : Nat) : Int) = false := by
          unfold ptIs
          rw [gB_on rfl (by rw [hl]; omega), hz]
          simp only [decide_eq_false_iff_not]
          intro h2
          exact unsE_zero 2 (by decide) h2.2
        unfold ptThere at k2
        rw [hsec, hp] at k2
        simp at k2
    refine ⟨fun j k1 k2 => ?_, fun _ _ _ => Nat.le_refl _, fun _ => ⟨by show 0 ≤ 1; decide, Nat.le_refl _⟩, fun k => absurd (by rw [List.length_replicate]) k, fun j k1 k2 => ?_, fun j k1 k2 => ?_⟩
    · rw [List.length_replicate] at k2
      have k1 : 480 / 480 ≤ j := k1
      omega
    · rw [List.length_replicate] at k1 ⊢
      obtain ⟨q1, q2, q3⟩ := hby j k1 k2
      exact .inr ⟨q2, q1, q3⟩
    · rw [List.length_replicate] at k1
      exact .inl (hby j (by omega) k2).2.2
end
end Go.Proofs.YtdifpbicdicggaaDoor
namespace Go.Proofs.YtdifpbicdicggaaDoor
open Go.RowKit

/-- What a fall leaves: all that was sure, and some of the next records. -/
def Fall (D : Dk) (L : Lg) (H : List UInt8) (rsM : List (List UInt8)) (c b : Nat) (keep : List Bool) : Prop :=
  ∃ pre post L2, rsM = pre ++ post ∧ L2.at_ = 1 ∧ L2.hd.st = L.hd.st ∧ L2.hd.cn = c ∧ L2.hd.ck = 0 ∧ L2.hd.ep ≤ b ∧ Fal (D.fallen keep) L2 (H.take (L.sure + (recsB pre).length))
/-- A log, its disk and the law's model ahead of a round. -/
structure Cb (D : Dk) (L : Lg) (H : List UInt8) (M : Md) (lo : List (Nat × List UInt8)) (rsS rsM : List (List UInt8)) (c n o b : Nat) : Prop where
  en : M.en = H.length
  su : M.su = L.sure
  st : M.st = L.hd.st
  hl : M.hl = 0
  cn : M.cn = c
  l : M.l = lo ++ plc L.hd.fi (rsS ++ rsM)
  old : ∀ r ∈ lo, r.1 + 2 + r.2.length ≤ L.hd.fi ∧ r.2.length ≤ 1200
  recs : H.drop L.hd.fi = recsB (rsS ++ rsM)
  ok : ∀ p ∈ rsS ++ rsM, RecOk p
  sr : L.sure = L.hd.fi + (recsB rsS).length
  fs : L.hd.fi = L.hd.st
  lt : 480 ≤ L.hd.fi ∧ L.sure ≤ H.length
  ring : H.length ≤ (L.hd.st / 480 + c) * 480
  at1 : L.at_ = 1
  lcn : L.hd.cn = c
  ck : L.hd.ck = 0
  c4 : 4 ≤ c ∧ c ≤ 15
  dur : D.dur.length = c + 3
  bd : Bd D
  pen : D.pen.length ≤ 100
  arm : D.arm = 0
  num : M.l.length ≤ n ∧ H.length ≤ 480 + 1202 * n ∧ n ≤ 1000
  ops : D.ops ≤ o ∧ o ≤ 100000
  ep : L.hd.ep ≤ b ∧ b ≤ 100000
  lok : L.Ok D
  on : D.off = false → Rg D L H
  fall : ∀ keep, Fall D L H rsM c b keep
section
variable {D D2 : Dk} {L L2 : Lg} {H S : List UInt8} {M : Md} {lo : List (Nat × List UInt8)} {rsS rsM : List (List UInt8)} {c n o b : Nat}
theorem armed_self (h : D.arm = 0) : D.armed 0 = D := by
  unfold Dk.armed
  rw [← h]
theorem armed_armed (D : Dk) (a a' : Nat) : (D.armed a).armed a' = D.armed a' := rfl
theorem armed_bd (h : Bd D) {a : Nat} (ha : a < 100) : Bd (D.armed a) := ⟨⟨h.ok.pos, h.ok.max, h.ok.dur, h.ok.pen⟩, h.pen, h.ops, by show a < _; omega⟩
theorem Rg.none_fall (rg : Rg D L H) (hr : ∀ p ∈ rsS ++ rsM, RecOk p) (hH : H.drop L.hd.fi = recsB (rsS ++ rsM)) (hsr : L.sure = L.hd.fi + (recsB rsS).length) (keep : List Bool) :
    ∃ pre post, rsM = pre ++ post ∧ Fal (D.fallen keep) (cutL L H (L.sure + (recsB pre).length)) (H.take (L.sure + (recsB pre).length)) := by
  obtain ⟨f1, f2, f3, f4⟩ := fallen_bd rg.bd keep
  refine Mx.fal rg ⟨awk_fallen D keep, rfl, f1, f4, fun s hs => .inl ?_⟩ rsS rsM hr hH hsr
  rcases fallen_mix (D := D) (D1 := D) (ws := []) rg.pen rfl ⟨0, rg.pen⟩ keep s hs with h1 | h1
  · exact h1
  · cases h1
theorem Cb.mk_on (rg : Rg D L H) (en : M.en = H.length) (su : M.su = L.sure) (st : M.st = L.hd.st) (hl : M.hl = 0) (cn : M.cn = c) (l : M.l = lo ++ plc L.hd.fi (rsS ++ rsM)) (old : ∀ r ∈ lo, r.1 + 2 + r.2.length ≤ L.hd.fi ∧ r.2.length ≤ 1200)
    (recs : H.drop L.hd.fi = recsB (rsS ++ rsM)) (ok : ∀ p ∈ rsS ++ rsM, RecOk p) (sr : L.sure = L.hd.fi + (recsB rsS).length) (at1 : L.at_ = 1) (lcn : L.hd.cn = c) (ck : L.hd.ck = 0) (c4 : 4 ≤ c ∧ c ≤ 15) (dur : D.dur.length = c + 3)
    (num : M.l.length ≤ n ∧ H.length ≤ 480 + 1202 * n ∧ n ≤ 1000) (ops : D.ops ≤ o ∧ o ≤ 100000) (ep : L.hd.ep ≤ b ∧ b ≤ 100000) : Cb D L H M lo rsS rsM c n o b := by
  have h1 := rg.st
  have h2 := rg.fs
  refine ⟨en, su, st, hl, cn, l, old, recs, ok, sr, h2, ⟨by omega, rg.sure⟩, by rw [← lcn]; exact rg.ring, at1, lcn, ck, c4, dur, rg.bd, by rw [rg.pen]; exact Nat.zero_le _, rg.awk.2, num, ops, ep, rg.ok, fun _ => rg, fun keep => ?_⟩
  obtain ⟨pre, post, e1, e2⟩ := rg.none_fall ok recs sr keep
  exact ⟨pre, post, cutL L H (L.sure + (recsB pre).length), e1, at1, rfl, lcn, ck, ep.1, e2⟩
/-! ### Append -/
def wantE (M : Md) (k : Nat) : Int := if k = 0 then 1 else if 1200 < k then 2 else if mRoom M < ((k + 2 : Nat) : Int) then 9 else 0
theorem Cb.room (h : Cb D L H M lo rsS rsM c n o b) (hon : D.off = false) : mRoom M = roomOf L := by
  unfold mRoom
  rw [(h.on hon).room, h.st, h.cn, h.en, h.hl, h.lcn]
  omega
theorem Cb.app (h : Cb D L H M lo rsS rsM c n o b) (hon : D.off = false) (hn : n < 1000) (p : List UInt8) :
    apE L p.length 0 = wantE M p.length ∧ (wantE M p.length = 0 → Cb D (apL L p 0) (H ++ frm p) (appM M p) lo rsS (rsM ++ [p]) c (n + 1) o b) := by
  have hrm := h.room hon
  have rg := h.on hon
  have hr2 := rg.room
  have hE : apE L p.length 0 = wantE M p.length := by
    unfold apE wantE
    rw [hrm, hr2]
    rw [h.lcn]
    have hlt := h.ring
    have key : ∀ (R hl pl : Nat), ((0 : Int) > (R : Int) - (hl : Int) - 2 - (pl : Int)) = ((R : Int) - (hl : Int) < ((pl + 2 : Nat) : Int)) := fun R hl pl => propext (by omega)
    have f1 : (p.length = 0 ∨ (0 : Int) < 0) ↔ p.length = 0 := by omega
    simp only [f1, key, gt_iff_lt]
  refine ⟨hE, fun hw => ?_⟩
  have h0 : p.length ≠ 0 ∧ p.length ≤ 1200 ∧ ((p.length + 2 : Nat) : Int) ≤ mRoom M := by
    unfold wantE at hw
    split at hw
    · cases hw
    · split at hw
      · cases hw
      · split at hw
        · cases hw
        · exact ⟨by omega, by omega, by omega⟩
  obtain ⟨h1, h2, h3⟩ := h0
  rw [hrm, hr2] at h3
  obtain ⟨-, a2, a3, a4, a5⟩ := rg.app p ⟨by omega, h2⟩ (by omega) (by have := h.num; omega)
  have hlen : (H ++ frm p).length = H.length + 2 + p.length := by rw [List.length_append, frm_len]; omega
  have hnum := h.num
  have hst := rg.st
  have hsu := h.lt.2
  have hrl : (recsB (rsS ++ rsM)).length = H.length - L.hd.fi := by rw [← h.recs, List.length_drop]
  refine Cb.mk_on a2 ?_ (by rw [a4]; exact h.su) (by rw [a3]; exact h.st) h.hl h.cn ?_ (by rw [a3]; exact h.old) ?_ ?_ (by rw [a3, a4]; exact h.sr) (by rw [a5]; exact h.at1) (by rw [a3]; exact h.lcn) (by rw [a3]; exact h.ck) h.c4 h.dur ⟨?_, by omega, by omega⟩ h.ops (by rw [a3]; exact h.ep)
  · show M.en + (p.length + 2) = _
    rw [h.en, hlen]
    omega
  · show M.l ++ [(M.en, p)] = _
    rw [a3, ← List.append_assoc rsS, plc_app, h.l, h.en, hrl, List.append_assoc]
    have e5 : L.hd.fi + (H.length - L.hd.fi) = H.length := by omega
    rw [e5]
  · rw [a3, List.drop_append_of_le_length (by omega), h.recs, ← List.append_assoc rsS, recsB_app _ [p], recsB_cons, recsB_nil, List.append_nil]
  · intro q hq
    rw [← List.append_assoc] at hq
    rcases List.mem_append.1 hq with h4 | h4
    · exact h.ok q h4
    · rw [List.mem_singleton.1 h4]; exact ⟨by omega, h2⟩
  · show (M.l ++ [(M.en, p)]).length ≤ n + 1
    rw [List.length_append]
    have := hnum.1
    show M.l.length + 1 ≤ n + 1
    omega
/-! ### Flush -/
theorem Cb.tail (h : Cb D L H M lo rsS rsM c n o b) (hon : D.off = false) : L.tail.length ≤ 7200 := by
  have := h.c4
  have h3 := (h.on hon).tail_len
  rw [h.lcn] at h3
  omega
theorem flWs_wr (rg : Rg D L H) : Wr D.dur.length (flWs L L.tail.length 0) := fun x hx => by
  obtain ⟨i, hi, rfl⟩ := flWs_mem L _ _ x hx
  exact ⟨(rg.sec _).1, flP_len L i⟩
theorem Cb.flush (h : Cb D L H M lo rsS rsM c n o b) (hon : D.off = false) (ho : o + 30 ≤ 100000) (a : Nat) :
    (flE (D.armed a) L = 0 ∧ Cb ((flD (D.armed a) L).armed 0) (flL (D.armed a) L) H (sureM M) lo (rsS ++ rsM) [] c n (o + 20) b ∧ (flL (D.armed a) L).hd = L.hd ∧ ((flD (D.armed a) L).armed 0).off = false) ∨
    (flE (D.armed a) L = 8 ∧ flL (D.armed a) L = L ∧ Cb ((flD (D.armed a) L).armed 0) L H M lo rsS rsM c n (o + 20) b) := by
  have rg := h.on hon
  have hops := h.ops
  have hsuf : ∀ {D3 : Dk} {L3 : Lg}, Rg D3 L3 H → L3.sure = H.length → L3.hd = L.hd → L3.at_ = L.at_ → D3.ops ≤ o + 20 → D3.dur.length = D.dur.length → Cb D3 L3 H (sureM M) lo (rsS ++ rsM) [] c n (o + 20) b := fun {D3 L3} r1 r2 r3 r4 r5 r6 => by
    have hrl : (recsB (rsS ++ rsM)).length = H.length - L.hd.fi := by rw [← h.recs, List.length_drop]
    have hlt := h.lt
    have hsr := h.sr
    exact Cb.mk_on r1 h.en (by rw [r2]; exact h.en) (by rw [r3]; exact h.st) h.hl h.cn (by rw [r3, List.append_nil]; exact h.l) (by rw [r3]; exact h.old) (by rw [r3, List.append_nil]; exact h.recs) (by rw [List.append_nil]; exact h.ok) (by rw [r2, r3, hrl]; omega) (by rw [r4]; exact h.at1) (by rw [r3]; exact h.lcn) (by rw [r3]; exact h.ck) h.c4 (by rw [r6]; exact h.dur) h.num ⟨r5, by omega⟩ (by rw [r3]; exact h.ep)
  by_cases hs : L.sure = endOf L
  · have hno : ¬ (D.armed a).off = true := by show ¬ D.off = true; rw [hon]; decide
    have e0 : flE (D.armed a) L = 0 := by unfold flE; rw [if_neg hno, if_pos hs]
    have e1 : flD (D.armed a) L = D.armed a := by unfold flD; rw [if_neg hno, if_pos hs]
    have e2 : flL (D.armed a) L = L := by unfold flL; rw [if_neg (fun hh => hh.2 hs)]
    left
    rw [e1, e2, armed_armed, armed_self h.arm]
    exact ⟨e0, hsuf rg (by rw [hs, rg.end_]) rfl rfl (by omega) rfl, rfl, hon⟩
  · obtain ⟨f1, f2, f3, f4, f5, f6, f7⟩ := rg.flush (by omega)
    obtain ⟨i1, i2⟩ := fl_is (D := D) hon hs
    obtain ⟨j1, j2⟩ := fl_is (D := D.armed a) (L := L) hon hs
    have hself : D.armed 0 = D := armed_self h.arm
    have htl := h.tail hon
    have hwl := flWs_len L L.tail.length 0
    obtain ⟨k1, k2⟩ := ws_arm D.dur.length (flWs L L.tail.length 0) D (flWs_wr rg) hon rfl a
    rw [hself] at k1 k2
    rcases k2 with ⟨k2, a', k3, -⟩ | ⟨k2, k3, k4, k5, k6, k7⟩
    · left
      have e0 : flE (D.armed a) L = 0 := by rw [j1, k2]
      have e1 : (flD (D.armed a) L).armed 0 = flD D L := by
        rw [j2, k3, ← i2, armed_armed]
        exact armed_self f2.awk.2
      have e2 : flL (D.armed a) L = flL D L := by
        unfold flL
        rw [e0, f1]
      rw [e1, e2]
      exact ⟨e0, hsuf f2 f3 f4 f5 (by omega) f7, f4, f2.awk.1⟩
    · right
      have e0 : flE (D.armed a) L = 8 := by rw [j1, k2]
      have e2 : flL (D.armed a) L = L := by
        unfold flL
        rw [e0, if_neg (fun hh => absurd hh.1 (by decide))]
      have e3 : (flD (D.armed a) L).armed 0 = flD (D.armed a) L := by rw [j2]; exact armed_self k7
      rw [e3]
      rw [← j2] at k3 k4 k5 k6 k7
      refine ⟨e0, e2, ?_⟩
      have hpl : (flD (D.armed a) L).pen.length ≤ 100 := by
        obtain ⟨m, k5⟩ := k5
        rw [k5, rg.pen, List.nil_append, List.length_take]
        omega
      have hbd : Bd (flD (D.armed a) L) := by
        refine ⟨⟨by rw [k4]; exact h.bd.ok.pos, by rw [k4]; exact h.bd.ok.max, by rw [k4]; exact h.bd.ok.dur, fun x hx => ?_⟩, by omega, by omega, by rw [k7]; decide⟩
        obtain ⟨m, k5⟩ := k5
        rw [k5, rg.pen, List.nil_append] at hx
        rw [k4]
        exact flWs_wr rg x (List.mem_of_mem_take hx)
      refine ⟨h.en, h.su, h.st, h.hl, h.cn, h.l, h.old, h.recs, h.ok, h.sr, h.fs, h.lt, h.ring, h.at1, h.lcn, h.ck, h.c4, by rw [k4]; exact h.dur, hbd, hpl, k7, h.num, ⟨by omega, by omega⟩, h.ep, h.lok.onD (by rw [k4]), fun hh => (by rw [k3] at hh; cases hh), fun keep => ?_⟩
      obtain ⟨b1, b2, b3, b4⟩ := fallen_bd hbd keep
      obtain ⟨pre, post, e4, e5⟩ := Mx.fal rg (D2 := (flD (D.armed a) L).fallen keep) ⟨awk_fallen _ keep, rfl, b1, by rw [b4, k4], fun s hs => by
        obtain ⟨m, k5⟩ := k5
        rcases fallen_mix (D := D) (D1 := flD (D.armed a) L) (ws := flWs L L.tail.length 0) rg.pen k4 ⟨m, by rw [k5, rg.pen, List.nil_append]⟩ keep s hs with q | q
        · exact .inl q
        · right
          obtain ⟨i, q1, q2⟩ := flWs_mem L _ _ _ q
          exact ⟨i, q1, (Prod.mk.inj q2).1, (Prod.mk.inj q2).2⟩⟩ rsS rsM h.ok h.recs h.sr
      exact ⟨pre, post, cutL L H (L.sure + (recsB pre).length), e4, h.at1, rfl, h.lcn, h.ck, h.ep.1, e5⟩
/-! ### Mark -/
theorem Cb.mark (h : Cb D L H M lo rsS [] c n o b) (hon : D.off = false) (ho : o + 30 ≤ 100000) :
    mkE D L 0 H.length = 0 ∧ Cb (mkD D L 0 H.length) (mkL D L 0 H.length) H { sureM M with st := M.en } (lo ++ plc L.hd.fi rsS) [] [] c n (o + 2) b ∧ (mkD D L 0 H.length).off = false := by
  have rg := h.on hon
  have hrs := h.recs
  rw [List.append_nil] at hrs
  have hok := h.ok
  rw [List.append_nil] at hok
  have hl := h.l
  rw [List.append_nil] at hl
  have hrl : (recsB rsS).length = H.length - L.hd.fi := by rw [← hrs, List.length_drop]
  have hsr := h.sr
  have hlt := h.lt
  have hsu : L.sure = H.length := by omega
  have hops := h.ops
  obtain ⟨m1, m2, m3, m4, m5, m6, m7⟩ := rg.mark (by omega) rsS [] H.length hok (by rw [List.append_nil]; exact hrs) (by omega) (by omega)
  refine ⟨m1, ?_, m2.awk.1⟩
  have hfi : (mkL D L 0 H.length).hd.fi = H.length := by rw [m3]
  refine Cb.mk_on m2 h.en (by rw [m4, hsu]; exact h.en) (by rw [m3]; exact h.en) h.hl h.cn ?_ ?_ ?_ (fun p hp => by cases hp) (by rw [m4, hfi, hsu]; rfl) (by rw [m5]; exact h.at1) (by rw [m3]; exact h.lcn) (by rw [m3]) h.c4 (by rw [m7]; exact h.dur) h.num ⟨by omega, by omega⟩ (by rw [m3]; exact h.ep)
  · show M.l = _
    rw [hl]
    exact (List.append_nil _).symm
  · intro r hr
    rw [hfi]
    rcases List.mem_append.1 hr with h1 | h1
    · have := h.old r h1
      exact ⟨by omega, this.2⟩
    · obtain ⟨j, hj⟩ := List.mem_iff_getElem?.1 h1
      obtain ⟨pre, post, e1, e2, e3⟩ := plc_get rsS L.hd.fi j r hj
      have h3 := hok r.2 (by rw [e1]; simp)
      rw [e1, recsB_app, recsB_cons, List.length_append, List.length_append, frm_len] at hrl
      exact ⟨by omega, h3.2⟩
  · rw [hfi, List.drop_length]
    rfl
/-! ### Open, armed -/
theorem bgWs_wr (h : Fal D L S) : Wr D.dur.length (bgWs L) := fun x hx => by
  have hhd := nextL_hd h.epo
  have hcnn : (nextL L).hd.cn = L.hd.cn := by rw [hhd]
  unfold bgWs at hx
  rcases List.mem_cons.1 hx with rfl | h2
  · exact ⟨by show L.at_ < _; have := h.at_; omega, seal1_len _⟩
  · split at h2
    · rw [List.mem_singleton.1 h2]
      refine ⟨by show secOf (nextL L) _ < _; rw [sec_log (L := L) (L2 := nextL L) rfl hcnn]; exact (h.sec _).1, ?_⟩
      show (partB (nextL L) _ _).length = 512
      unfold partB
      refine sealB_length (by simp [ptNs]) ?_
      rw [h.tail, List.length_drop]
      have := h.sure
      unfold flo
      omega
    · cases h2
theorem Fal.try_ (h : Fal D L S) (ho : D.ops < 300000) (he : L.hd.ep + 1 < 1000000000000) (a : Nat) (ha : a < 100) :
    (opE (D.armed a) (L.at_ : Int) (L.hd.cn : Int) = 0 ∧ Rg ((opD (D.armed a) (L.at_ : Int) (L.hd.cn : Int)).armed 0) (nextL L) S ∧ opL (D.armed a) (L.at_ : Int) = nextL L ∧ (opD (D.armed a) (L.at_ : Int) (L.hd.cn : Int)).ops ≤ D.ops + 3 ∧ (opD (D.armed a) (L.at_ : Int) (L.hd.cn : Int)).dur.length = D.dur.length ∧ Bd (opD (D.armed a) (L.at_ : Int) (L.hd.cn : Int))) ∨
    (a ≠ 0 ∧ opE (D.armed a) (L.at_ : Int) (L.hd.cn : Int) = 8 ∧ Bd (opD (D.armed a) (L.at_ : Int) (L.hd.cn : Int)) ∧ (opD (D.armed a) (L.at_ : Int) (L.hd.cn : Int)).pen.length ≤ 100 ∧ (opD (D.armed a) (L.at_ : Int) (L.hd.cn : Int)).ops ≤ D.ops + 3 ∧ (opD (D.armed a) (L.at_ : Int) (L.hd.cn : Int)).dur.length = D.dur.length ∧
      ∀ keep, ∃ e', (e' = L.hd.ep ∨ e' = L.hd.ep + 1) ∧ Fal ((opD (D.armed a) (L.at_ : Int) (L.hd.cn : Int)).fallen keep) (epL L e') S) := by
  obtain ⟨p1, p2, p3⟩ := h.op_arm a
  obtain ⟨q1, q2, q3⟩ := h.op_arm 0
  obtain ⟨o1, o2, o3, o4, o5⟩ := h.open_ (by omega) he
  have hself : D.armed 0 = D := armed_self h.awk.2
  rw [hself] at q1 q2 q3
  have hlen : (bgWs L).length ≤ 2 := by
    unfold bgWs
    split
    · exact Nat.le_refl _
    · show 1 ≤ 2
      decide
  obtain ⟨k1, k2⟩ := ws_arm D.dur.length (bgWs L) D (bgWs_wr h) h.on rfl a
  rw [hself] at k1 k2
  rcases k2 with ⟨k2, a', k3, ka⟩ | ⟨k2, k3, k4, k5, k6, k7⟩
  · left
    rw [← q2] at k3
    rw [← p2] at k3
    rw [p1, k3, p3]
    refine ⟨k2, ?_, rfl, ?_, ?_, ?_⟩
    · rw [armed_armed, armed_self o2.awk.2, ← o3]
      exact o2
    · exact o4
    · exact o5
    · exact armed_bd o2.bd (by omega)
  · right
    rw [← p2] at k3 k4 k5 k6 k7
    obtain ⟨m, k5⟩ := k5
    rw [h.pen, List.nil_append] at k5
    have hpl : (opD (D.armed a) (L.at_ : Int) (L.hd.cn : Int)).pen.length ≤ 100 := by
      rw [k5, List.length_take]
      omega
    have hbd : Bd (opD (D.armed a) (L.at_ : Int) (L.hd.cn : Int)) := by
      refine ⟨⟨by rw [k4]; exact h.bd.ok.pos, by rw [k4]; exact h.bd.ok.max, by rw [k4]; exact h.bd.ok.dur, fun x hx => ?_⟩, by omega, by omega, by rw [k7]; decide⟩
      rw [k5] at hx
      rw [k4]
      exact bgWs_wr h x (List.mem_of_mem_take hx)
    refine ⟨?_, by rw [p1]; exact k2, hbd, hpl, by omega, by rw [k4], fun keep => ?_⟩
    · rintro rfl
      rw [hself, ← q1] at k2
      rw [o1] at k2
      cases k2
    · obtain ⟨b1, b2, b3, b4⟩ := fallen_bd hbd keep
      exact h.mix he (awk_fallen _ keep) rfl b1 (by rw [b4, k4]) (fun s hs => fallen_mix h.pen k4 ⟨m, k5⟩ keep s hs)
/-! ### behind an opening -/
def backM (M : Md) (l : List (Nat × List UInt8)) (e ck : Nat) : Md := { M with l := l, en := e, su := e, ck := ck, hl := 0 }
theorem plc_cat : ∀ (a b : List (List UInt8)) (f : Nat), plc f (a ++ b) = plc f a ++ plc (f + (recsB a).length) b
  | [], b, f => rfl
  | p :: a, b, f => by
    show (f, p) :: plc (f + (2 + p.length)) (a ++ b) = (f, p) :: (plc (f + (2 + p.length)) a ++ _)
    rw [plc_cat a b, recsB_cons, List.length_append, frm_len, Nat.add_assoc]
theorem Cb.back (h : Cb D L H M lo rsS rsM c n o b) {pre post : List (List UInt8)} (hp : rsM = pre ++ post) {D3 : Dk} {L3 : Lg} (rg : Rg D3 L3 (H.take (L.sure + (recsB pre).length))) (h1 : L3.at_ = 1) (h2 : L3.hd.st = L.hd.st) (h3 : L3.hd.cn = c) (h4 : L3.hd.ck = 0) (h5 : L3.sure = (H.take (L.sure + (recsB pre).length)).length) (hd : D3.dur.length = c + 3) {o' b' : Nat} (ho : D3.ops ≤ o' ∧ o' ≤ 100000) (he : L3.hd.ep ≤ b' ∧ b' ≤ 100000) :
    Cb D3 L3 (H.take (L.sure + (recsB pre).length)) (backM M (lo ++ plc L.hd.fi (rsS ++ pre)) (L.sure + (recsB pre).length) L3.hd.ck) lo (rsS ++ pre) [] c n o' b' := by
  have hfi : L3.hd.fi = L.hd.fi := by rw [rg.fs, h2, h.fs]
  have hrl : (recsB rsS).length + ((recsB pre).length + (recsB post).length) = H.length - L.hd.fi := by
    rw [← List.length_append, ← recsB_app, ← List.length_append, ← recsB_app, ← hp, ← h.recs, List.length_drop]
  have hsr := h.sr
  have hlt := h.lt
  have hel : (H.take (L.sure + (recsB pre).length)).length = L.sure + (recsB pre).length := by rw [List.length_take]; omega
  have hnum := h.num
  refine Cb.mk_on rg hel.symm (by rw [h5, hel]; rfl) (by rw [h2]; exact h.st) rfl h.cn ?_ (by rw [hfi]; exact h.old) ?_ ?_ ?_ h1 h3 h4 h.c4 hd ⟨?_, by rw [hel]; omega, hnum.2.2⟩ ho he
  · show lo ++ plc L.hd.fi (rsS ++ pre) = _
    rw [hfi, List.append_nil]
  · rw [hfi, List.drop_take, h.recs, hp, ← List.append_assoc, recsB_app (rsS ++ pre), List.append_nil]
    exact List.take_left' (by rw [recsB_app, List.length_append]; omega)
  · intro p hq
    rw [List.append_nil] at hq
    refine h.ok p ?_
    rw [hp, ← List.append_assoc]
    exact List.mem_append_left _ hq
  · rw [h5, hel, hfi, recsB_app, List.length_append]
    omega
  · show (lo ++ plc L.hd.fi (rsS ++ pre)).length ≤ n
    have h6 := hnum.1
    rw [h.l, hp, ← List.append_assoc, plc_cat (rsS ++ pre), ← List.append_assoc, List.length_append] at h6
    omega
end
end Go.Proofs.YtdifpbicdicggaaDoor
namespace Go.Proofs.YtdifpbicdicggaaDoor
open Go.RowKit

section
variable {w0 w w1 : World} {X : Bk} {D D' : Dk} {L L' : Lg} {B gm : Nat} {vl : Value} {M : Md} {H : List UInt8} {rs : List (List UInt8)}
/-- The model is the log's, elder records besides. -/
structure Mil (D : Dk) (L : Lg) (H : List UInt8) (M : Md) (lo : List (Nat × List UInt8)) (rs : List (List UInt8)) : Prop where
  rg : Rg D L H
  en : M.en = H.length
  st : M.st = L.hd.st
  fi : L.hd.fi = L.hd.st
  l : M.l = lo ++ plc L.hd.fi rs
  old : ∀ r ∈ lo, r.1 + 2 + r.2.length ≤ L.hd.fi ∧ r.2.length ≤ 1200
  recs : H.drop L.hd.fi = recsB rs
  ok : ∀ p ∈ rs, RecOk p
  num : M.l.length ≤ 100000
set_option maxRecDepth 20000 in
set_option maxHeartbeats 3200000 in
theorem all_gen {lo : List (Nat × List UInt8)} (h : LgAt w0 w X D L) (hm : MdAt w B gm vl M) (mi : Mil D L H M lo rs) (hT : Tab w0) : Calls Tryd.prog 33 #[.pointer (some ⟨gm, 0, none⟩), .pointer (some ⟨X.q, 0, none⟩)] w (fun e w' => e = .returned (.bool true) ∧ Ext w w') := by
  have HL := hide h
  have HM := hide hm
  have HMI := hide mi
  have HT := hide hT
  obtain ⟨n, HN⟩ : ∃ n, Hid (M.l.length = n) := ⟨_, hide rfl⟩
  obtain ⟨A0, d0, hv0⟩ := hm.recs.slice
  rw [HN.out] at hv0
  have HV0 := hide hv0
  have hst0 := mi.rg.st
  have hsu0 := mi.rg.sure
  have hbg0 := mi.rg.big
  obtain ⟨st, HST⟩ : ∃ st, Hid (L.hd.st = st) := ⟨_, hide rfl⟩
  obtain ⟨en, HEN⟩ : ∃ en, Hid (H.length = en) := ⟨_, hide rfl⟩
  have HNB : Hid (n ≤ 1000000000000) := hide (by
    have h1 := mi.num
    rw [← HN.out]
    omega)
  have HSB : Hid (480 ≤ st ∧ st ≤ en ∧ en < 1000000000000) := hide (by rw [← HST.out, ← HEN.out]; omega)
  have KE : Hid (∀ W, Ext w W → Calls Tryd.prog 25 #[.pointer (some ⟨X.q, 0, none⟩), .int .u64 (en : Int)] W (RNone W 6)) := hide (fun W hW => by
    have k := read_end (h.ext_ hW) mi.rg.ok (by rw [mi.rg.end_]; omega)
    rw [mi.rg.end_, HEN.out] at k
    exact k)
  have KH : Hid (∀ W, Ext w W → Calls Tryd.prog 25 #[.pointer (some ⟨X.q, 0, none⟩), .int .u64 ((en + 1 : Nat) : Int)] W (RNone W 1)) := hide (fun W hW => by
    exact read_hi (h.ext_ hW) mi.rg.ok (en + 1) (by rw [← HEN.out]; omega) (by rw [mi.rg.end_, HEN.out]; omega))
  have KL : Hid (∀ W, Ext w W → Calls Tryd.prog 25 #[.pointer (some ⟨X.q, 0, none⟩), .int .u64 ((st - 1 : Nat) : Int)] W (RNone W 1)) := hide (fun W hW => by
    exact read_lo (h.ext_ hW) (st - 1) (by rw [mi.fi, HST.out]; have := HSB.out; omega))
  have HSP : Hid (∀ (k : Nat) (r : Nat × List UInt8), M.l[k]? = some r → st ≤ r.1 → (plc L.hd.fi rs)[k - lo.length]? = some r) := hide (fun k r hk hs => by
    rw [mi.l] at hk
    rcases Nat.lt_or_ge k lo.length with h1 | h1
    · rw [List.getElem?_append_left h1] at hk
      have h2 := (mi.old r (List.mem_of_getElem? hk)).1
      have h3 := mi.fi
      have h4 := HST.out
      omega
    · rw [List.getElem?_append_right h1] at hk
      exact hk)
  have KR : Hid (∀ (W : World) (k : Nat) (r : Nat × List UInt8), Ext w W → M.l[k]? = some r → st ≤ r.1 → Calls Tryd.prog 25 #[.pointer (some ⟨X.q, 0, none⟩), .int .u64 (r.1 : Int)] W (fun e w' => ∃ A c, e = .returned (.tuple #[.slice A r.2.length c, .int .u64 ((r.1 + 2 + r.2.length : Nat) : Int), .int .i64 0]) ∧ Rd w' A r.2 ∧ Ext W w')) := hide (fun W k r hW hk hs => by
    obtain ⟨pre, post, e1, e2, e3⟩ := plc_get rs L.hd.fi _ r (HSP.out k r hk hs)
    have e4 : H.drop r.1 = frm r.2 ++ recsB post := by
      rw [e2, ← List.drop_drop, mi.recs, e1, recsB_app, List.drop_left, recsB_cons]
    exact read_rec (h.ext_ hW) mi.rg r.1 r.2 (recsB post) (by rw [e2]; omega) (mi.ok r.2 (by rw [e1]; simp)) e4 hT)
  have HRG : Hid (∀ (k : Nat) (r : Nat × List UInt8), M.l[k]? = some r → st ≤ r.1 → st ≤ r.1 ∧ r.1 < 1000000000000 ∧ r.2.length ≤ 1200) := hide (fun k r hk hs => by
    obtain ⟨pre, post, e1, e2, e3⟩ := plc_get rs L.hd.fi _ r (HSP.out k r hk hs)
    have h2 := mi.ok r.2 (by rw [e1]; simp)
    have h3 : (recsB rs).length = H.length - L.hd.fi := by rw [← mi.recs, List.length_drop]
    rw [e1, recsB_app, List.length_append] at h3
    have h4 := mi.fi
    have h5 := h2.2
    refine ⟨by rw [← HST.out]; omega, by omega, h5⟩)
  have c0 := hm.cells.1
  rw [hv0] at c0
  have c1 := hm.cells.2.1
  have c3 := hm.cells.2.2.2.1
  rw [mi.en, HEN.out] at c1
  rw [mi.st, HST.out] at c3
  clear h hm mi hst0 hsu0 hbg0 hv0 hT
  go_enter Tryd.func33, Tryd.ntmps33
  go_upto_region 2 with fail
  go_loopw [5] (fun x wr => ∃ k : Nat, x = .int .i64 (k : Int) ∧ k ≤ n ∧ Hid (Ext w wr)) (fun x _ => n - (intOf x).toNat)
  case atStart => exact ⟨0, rfl, Nat.zero_le _, hide (Ext.refl _)⟩
  case round =>
    obtain ⟨k, rfl, hk, HX⟩ := hrel
    have HMR := hide (HM.out.ext HX.out)
    have b0 := HMR.out.cells.1
    have b3 := HMR.out.cells.2.2.2.1
    rw [show M.st = st from by rw [HMI.out.st, HST.out]] at b3
    by_cases hkn : k < n
    · obtain ⟨r, hr⟩ : ∃ r, M.l[k]? = some r := ⟨_, List.getElem?_eq_getElem (by rw [HN.out]; exact hkn)⟩
      have HRK := hide hr
      obtain ⟨g, off, d, hv, hnd, hcell⟩ := HMR.out.recs.at (by intro e; rw [e] at hr; cases hr)
      rw [HN.out] at hv hnd
      have HV := hide hv
      have HND := hide hnd
      rw [hv] at b0
      obtain ⟨a0, a1⟩ := hcell k r hr
      obtain ⟨x, HX0⟩ : ∃ x, Hid (r.1 = x) := ⟨_, hide rfl⟩
      obtain ⟨p, HP0⟩ : ∃ p, Hid (r.2 = p) := ⟨_, hide rfl⟩
      rw [HX0.out] at a0
      rw [HP0.out] at a1
      have HCL : Hid (∀ W, Ext wr W → W.cell? ⟨gm, 0, none⟩ = some (.slice (some ⟨g, off, none⟩) n d) ∧ W.cell? ⟨g, off + k * 2, none⟩ = some (.int .u64 (x : Int)) ∧ W.cell? ⟨g, off + k * 2 + 1, none⟩ = some (.string ⟨p.toArray⟩)) := hide (fun W hW => by
        have hm2 := HMR.out.ext hW
        have q0 := hm2.cells.1
        obtain ⟨g2, off2, d2, hv2, -, hc2⟩ := hm2.recs.at (by intro e; rw [e] at hr; cases hr)
        rw [hv2] at hv
        injection hv with e1 e2 e3
        injection e1 with e1
        injection e1 with e4 e5
        subst e4 e5 e3
        rw [hv2, HN.out] at q0
        obtain ⟨q1, q2⟩ := hc2 k r hr
        rw [HX0.out] at q1
        rw [HP0.out] at q2
        exact ⟨q0, q1, q2⟩)
      have HKN := hide hkn
      by_cases hst : st ≤ x
      · have HG := hide (HRG.out k r hr (by rw [HX0.out]; exact hst))
        have KRX := hide (fun W hW => KR.out W k r hW hr (by rw [HX0.out]; exact hst))
        rw [HX0.out] at HG KRX
        rw [HP0.out] at HG KRX
        obtain ⟨pl, HPL⟩ : ∃ pl, Hid (p.length = pl) := ⟨_, hide rfl⟩
        rw [HPL.out] at HG KRX
        have hki : (k : Int) < (n : Int) := by omega
        have hxs : ¬ (x : Int) < (st : Int) := by have := HG.out.1; omega
        have hw1 : IntKind.u64.wrap (pl : Int) = (pl : Int) := by rw [IntKind.wrap_u64]; have := HG.out; omega
        have hw2 : IntKind.u64.wrap ((x : Int) + (pl : Int)) = (x : Int) + (pl : Int) := by rw [IntKind.wrap_u64]; have := HG.out; omega
        have hw3 : IntKind.u64.wrap ((x : Int) + (pl : Int) + 2) = ((x + 2 + pl : Nat) : Int) := by rw [IntKind.wrap_u64]; have := HG.out; omega
        have hw4 : IntKind.i64.wrap ((k : Int) + 1) = ((k + 1 : Nat) : Int) := by rw [IntKind.wrap_i64]; have := HNB.out; omega
        obtain ⟨k1, HK1⟩ : ∃ k1, Hid (k + 1 = k1) := ⟨_, hide rfl⟩
        rw [HK1.out] at hw4
        obtain ⟨y, HY⟩ : ∃ y : Int, Hid (((x + 2 + pl : Nat) : Int) = y) := ⟨_, hide rfl⟩
        rw [HY.out] at hw3 KRX
        clear hv hnd hr hcell
        go_upto_region 4 with fail
        go_quiet (fail)
        obtain ⟨wq, hwq⟩ : ∃ wq, wr.drewN nq = wq := ⟨_, rfl⟩
        have HXQ : Hid (Ext wr wq) := hide (by rw [← hwq]; exact (Ext.refl _).drewN _)
        rw [hwq]
        clear hwq b0 b3 a0 a1 hxs hki
        obtain ⟨d0, d1, d2⟩ := HCL.out wq HXQ.out
        have hki : (k : Int) < (n : Int) := by have := HKN.out; omega
        go_upto_region 6 with (go_at_call 25; (with_reducible refine (KRX.out wq (HX.out.trans HXQ.out)).mono ?_); rintro e w4 ⟨A4, c4, rfl, hr4, hx4⟩; have HX4 : Hid (Ext wr w4) := hide (HXQ.out.trans hx4); have hs4 := str_any hr4 pl c4 HPL.out; have hs5 := (fun (m : Nat) => str_any (hr4.ext ((Ext.refl w4).drewN m)) pl c4 HPL.out); clear hr4 hx4)
        clear d0 d1 d2
        obtain ⟨d0, d1, d2⟩ := HCL.out w4 HX4.out
        go_quiet (fail)
        obtain ⟨w5, hw5⟩ : ∃ w5, w4.drewN nq = w5 := ⟨_, rfl⟩
        have HX5 : Hid (Ext w w5) := hide (by rw [← hw5]; exact (HX.out.trans HX4.out).drewN _)
        rw [hw5]
        clear hw5 d0 d1 d2 hs4 hs5
        go_wp2
        refine ⟨⟨k1, rfl, by have := HK1.out; have := HKN.out; omega, HX5⟩, ?_⟩
        show n - ((k1 : Nat) : Int).toNat < n - ((k : Nat) : Int).toNat
        have := HK1.out
        have := HKN.out
        omega
      · have hki : (k : Int) < (n : Int) := by omega
        have hxs : (x : Int) < (st : Int) := by omega
        have hw4 : IntKind.i64.wrap ((k : Int) + 1) = ((k + 1 : Nat) : Int) := by rw [IntKind.wrap_i64]; have := HNB.out; omega
        obtain ⟨k1, HK1⟩ : ∃ k1, Hid (k + 1 = k1) := ⟨_, hide rfl⟩
        rw [HK1.out] at hw4
        clear hv hnd hr hcell
        go_upto_region 4 with fail
        go_quiet (fail)
        obtain ⟨wq, hwq⟩ : ∃ wq, wr.drewN nq = wq := ⟨_, rfl⟩
        have HXQ : Hid (Ext wr wq) := hide (by rw [← hwq]; exact (Ext.refl _).drewN _)
        rw [hwq]
        clear hwq b0 b3 a0 a1 hxs
        go_wp2
        refine ⟨⟨k1, rfl, by have := HK1.out; have := HKN.out; omega, hide (HX.out.trans HXQ.out)⟩, ?_⟩
        show n - ((k1 : Nat) : Int).toNat < n - ((k : Nat) : Int).toNat
        have := HK1.out
        have := HKN.out
        omega
    · have hki : ¬ (k : Int) < (n : Int) := by omega
      rw [HV0.out] at b0
      have b1 := HMR.out.cells.2.1
      rw [show M.en = en from by rw [HMI.out.en, HEN.out]] at b1
      have HC1 : Hid (∀ W, Ext wr W → W.cell? ⟨gm, 1, none⟩ = some (.int .u64 (en : Int)) ∧ W.cell? ⟨gm, 3, none⟩ = some (.int .u64 (st : Int))) := hide (fun W hW => by
        have hm2 := HMR.out.ext hW
        have q1 := hm2.cells.2.1
        have q3 := hm2.cells.2.2.2.1
        rw [show M.en = en from by rw [HMI.out.en, HEN.out]] at q1
        rw [show M.st = st from by rw [HMI.out.st, HST.out]] at q3
        exact ⟨q1, q3⟩)
      have hw1 : IntKind.u64.wrap ((en : Int) + 1) = ((en + 1 : Nat) : Int) := by rw [IntKind.wrap_u64]; have := HSB.out; omega
      have hw2 : IntKind.u64.wrap ((st : Int) - 1) = ((st - 1 : Nat) : Int) := by rw [IntKind.wrap_u64]; have := HSB.out; omega
      obtain ⟨e1, HE1⟩ : ∃ e1, Hid (en + 1 = e1) := ⟨_, hide rfl⟩
      obtain ⟨s1, HS1⟩ : ∃ s1, Hid (st - 1 = s1) := ⟨_, hide rfl⟩
      rw [HE1.out] at hw1 KH
      rw [HS1.out] at hw2 KL
      clear c0 c1 c3 hk
      go_wp2_with (first
        | (go_at_call 25; (with_reducible refine (KE.out wr HX.out).mono ?_); rintro e w4 ⟨rfl, m4, hw4⟩; have HX4 : Hid (Ext wr w4) := hide (by rw [hw4]; exact (Ext.refl _).drewN _); obtain ⟨q1, q3⟩ := HC1.out w4 HX4.out; clear hw4)
        | (go_at_call 25; (with_reducible refine (KH.out w4 (HX.out.trans HX4.out)).mono ?_); rintro e w5 ⟨rfl, m5, hw5⟩; have HX5 : Hid (Ext wr w5) := hide (by rw [hw5]; exact HX4.out.drewN _); obtain ⟨p1, p3⟩ := HC1.out w5 HX5.out; clear hw5)
        | (go_at_call 25; (with_reducible refine (KL.out w5 (HX.out.trans HX5.out)).mono ?_); rintro e w6 ⟨rfl, m6, hw6⟩; have HX6 : Hid (Ext wr w6) := hide (by rw [hw6]; exact HX5.out.drewN _); clear hw6))
      go_ret
      exact ⟨rfl, HX.out.trans HX6.out⟩
end
end Go.Proofs.YtdifpbicdicggaaDoor
