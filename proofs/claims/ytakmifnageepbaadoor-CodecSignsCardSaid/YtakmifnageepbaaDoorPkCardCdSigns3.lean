/-
  Base 64: what is read is what is written (plain).
  '[]byte(s)': a block of the call's own with a mark behind it, written in place.
  The walk of CodecSigns.
  The walk of CodecSigns: no bytes; any.
-/
import Derived.Deep.CutRange
import Derived.RegionTactic
import Derived.Deep.RegionLaw
import Derived.Deep.QuietTactic
import Derived.BigQuiet
import Derived.Test.YtakmifnageepbaaDoorPkCardCdSigns1
import Derived.Test.YtakmifnageepbaaDoorPkCardCdSigns2
set_option linter.unusedVariables false
set_option linter.unusedSimpArgs false

namespace Go.Proofs.YtakmifnageepbaaDoor
open Go.RowKit

theorem goR_num : ∀ (cs out : List UInt8) (vs : List Nat) (b l : Nat) (r : List UInt8) (b' l' : Nat), l < 8 → l % 2 = 0 → b < 4294967296 → num64 vs = num256 out * 2 ^ l + b % 2 ^ l → vs.length * 6 = out.length * 8 + l → goR cs b l = some (r, b', l') →
    ∃ us : List Nat, cs = us.map sgn ∧ (∀ v ∈ us, v < 64) ∧ num64 (vs ++ us) = num256 (out ++ r) * 2 ^ l' + b' % 2 ^ l' ∧ (vs.length + us.length) * 6 = (out.length + r.length) * 8 + l' ∧ l' < 8 ∧ l' % 2 = 0
  | [], out, vs, b, l, r, b', l', hl, he, hb, hn, hd, h => by
    simp only [goR, Option.some.injEq, Prod.mk.injEq] at h
    obtain ⟨rfl, rfl, rfl⟩ := h
    exact ⟨[], rfl, by simp, by simpa using hn, by simpa using hd, hl, he⟩
  | c :: cs, out, vs, b, l, r, b', l', hl, he, hb, hn, hd, h => by
    cases hs : sixN c with
    | none => simp only [goR, hs] at h; cases h
    | some v =>
      obtain ⟨_, hv64, hsg⟩ := six_some c v hs
      obtain ⟨b1, hb1⟩ : ∃ u, b * 64 % 4294967296 + v = u := ⟨_, rfl⟩
      have hb1lt : b1 < 4294967296 := by omega
      simp only [goR, hs, hb1] at h
      by_cases h2 : 2 ≤ l
      · rw [if_pos h2] at h
        cases hg : goR cs b1 (l - 2) with
        | none => rw [hg] at h; cases h
        | some q =>
          obtain ⟨r1, b2, l2⟩ := q
          rw [hg] at h
          simp only [Option.map_some, Option.some.injEq, Prod.mk.injEq] at h
          obtain ⟨rfl, rfl, rfl⟩ := h
          obtain ⟨y, hy⟩ : ∃ y, b1 / 2 ^ (l - 2) % 256 = y := ⟨_, rfl⟩
          rw [hy]
          have hy256 : y < 256 := by rw [← hy]; exact Nat.mod_lt _ (by decide)
          have hby : (b8 (y : Int)).toNat = y := by
            have := b8_toNat (n := (y : Int)) (by omega) (by omega)
            omega
          have key : num64 (vs ++ [v]) = num256 (out ++ [b8 (y : Int)]) * 2 ^ (l - 2) + b1 % 2 ^ (l - 2) := by
            rw [num64_snoc, num256_snoc, hby, hn, ← hy]
            rcases (by omega : l = 2 ∨ l = 4 ∨ l = 6) with rfl | rfl | rfl
            · show (num256 out * 4 + b % 4) * 64 + v = (num256 out * 256 + b1 / 1 % 256) * 1 + b1 % 1
              omega
            · show (num256 out * 16 + b % 16) * 64 + v = (num256 out * 256 + b1 / 4 % 256) * 4 + b1 % 4
              omega
            · show (num256 out * 64 + b % 64) * 64 + v = (num256 out * 256 + b1 / 16 % 256) * 16 + b1 % 16
              omega
          obtain ⟨us, h1, h3, h4, h5, h6⟩ := goR_num cs (out ++ [b8 (y : Int)]) (vs ++ [v]) b1 (l - 2) r1 b2 l2 (by omega) (by omega) hb1lt key (by simp only [List.length_append, List.length_singleton]; omega) hg
          refine ⟨v :: us, by rw [List.map_cons, hsg, h1], ?_, ?_, ?_, h6⟩
          · intro u hu
            rcases List.mem_cons.1 hu with rfl | hu
            · exact hv64
            · exact h3 u hu
          · have e1 : vs ++ v :: us = (vs ++ [v]) ++ us := by simp
            have e2 : out ++ b8 (y : Int) :: r1 = (out ++ [b8 (y : Int)]) ++ r1 := by simp
            rw [e1, e2]
            exact h4
          · simp only [List.length_append, List.length_cons, List.length_nil] at h5 ⊢
            omega
      · rw [if_neg h2] at h
        have key : num64 (vs ++ [v]) = num256 out * 2 ^ (l + 6) + b1 % 2 ^ (l + 6) := by
          rw [num64_snoc, hn]
          obtain rfl : l = 0 := by omega
          show (num256 out * 1 + b % 1) * 64 + v = num256 out * 64 + b1 % 64
          omega
        obtain ⟨us, h1, h3, h4, h5, h6⟩ := goR_num cs out (vs ++ [v]) b1 (l + 6) r b' l' (by omega) (by omega) hb1lt key (by simp only [List.length_append, List.length_singleton]; omega) h
        refine ⟨v :: us, by rw [List.map_cons, hsg, h1], ?_, ?_, ?_, h6⟩
        · intro u hu
          rcases List.mem_cons.1 hu with rfl | hu
          · exact hv64
          · exact h3 u hu
        · have e1 : vs ++ v :: us = (vs ++ [v]) ++ us := by simp
          rw [e1]
          exact h4
        · simp only [List.length_append, List.length_cons, List.length_nil] at h5 ⊢
          omega
/-- What is read of some signs is written as they are. -/
theorem base_read (q r : List UInt8) (h : readB q = some r) : baseB r = q := by
  unfold readB at h
  cases hg : goR q 0 0 with
  | none => rw [hg] at h; cases h
  | some t =>
    obtain ⟨r1, b, l⟩ := t
    rw [hg] at h
    simp only [finR, Option.bind_some, List.nil_append] at h
    by_cases hc : l = 6 ∨ b % 2 ^ l ≠ 0
    · rw [if_pos hc] at h; cases h
    · rw [if_neg hc] at h
      injection h with h
      subst h
      obtain ⟨us, hq, hu, hnum, hlen, hl8, hle⟩ := goR_num q [] [] 0 0 r1 b l (by decide) (by decide) (by decide) (by decide) (by decide) hg
      obtain ⟨ws, hw, hwl, hwn, hwlen, hl6⟩ := goB_num r1 [] [] 0 0 (by decide) (by decide) (by decide) (by decide) (by decide) (fun v hv => by cases hv)
      have hb0 : b % 2 ^ l = 0 := by
        rcases Nat.eq_zero_or_pos (b % 2 ^ l) with h0 | h0
        · exact h0
        · exact absurd (.inr (by omega)) hc
      have hl6' : l ≠ 6 := fun e => hc (.inl e)
      simp only [List.nil_append, List.length_nil, Nat.zero_add] at hnum hlen hwn hwlen
      rw [hb0, Nat.add_zero] at hnum
      unfold baseB
      obtain ⟨tb, htb⟩ : ∃ u, (goB r1 0 0).2.1 = u := ⟨_, rfl⟩
      obtain ⟨tl, htl⟩ : ∃ u, (goB r1 0 0).2.2 = u := ⟨_, rfl⟩
      rw [htb, htl] at hwn
      rw [htl] at hwlen hl6
      rw [hw, htb, htl, hq]
      rw [hwn] at hnum
      by_cases h0 : 0 < tl
      · rw [if_pos h0]
        have e : ws.map sgn ++ [sgn (tb * 2 ^ (6 - tl) % 64)] = (ws ++ [tb * 2 ^ (6 - tl) % 64]).map sgn := by simp
        rw [e]
        congr 1
        refine num64_inj us.length _ _ (by simp only [List.length_append, List.length_singleton]; omega) rfl ?_ hu ?_
        · intro v hv
          rcases List.mem_append.1 hv with hv | hv
          · exact hwl v hv
          · rw [List.mem_singleton.1 hv]; exact Nat.mod_lt _ (by decide)
        · rw [num64_snoc, hnum]
          rcases (by omega : tl = 2 ∧ l = 4 ∨ tl = 4 ∧ l = 2) with ⟨rfl, rfl⟩ | ⟨rfl, rfl⟩
          · show num64 ws * 64 + tb * 16 % 64 = (num64 ws * 4 + tb % 4) * 16
            omega
          · show num64 ws * 64 + tb * 4 % 64 = (num64 ws * 16 + tb % 16) * 4
            omega
      · obtain rfl : tl = 0 := by omega
        rw [if_neg (by decide), List.append_nil]
        congr 1
        obtain rfl : l = 0 := by omega
        refine num64_inj us.length _ _ (by omega) rfl hwl hu ?_
        rw [hnum]
        simp [Nat.mod_one]
theorem goR_bad (c : UInt8) (hc : sixN c = none) : ∀ (cs : List UInt8) (b l : Nat), goR (cs ++ [c]) b l = none
  | [], b, l => by simp only [List.nil_append, goR, hc]
  | d :: cs, b, l => by
    simp only [List.cons_append, goR]
    cases sixN d with
    | none => rfl
    | some v =>
      simp only
      split
      · rw [goR_bad c hc cs]; rfl
      · exact goR_bad c hc cs _ _
theorem readB_eq (l : List UInt8) : readB (l ++ [61]) = none := by
  unfold readB
  rw [goR_bad 61 (by kernel_rfl)]
  rfl
theorem baseB_len (l : List UInt8) : (baseB l).length = (l.length * 4 + 2) / 3 := by
  have h := goB_len l 0 0 (by decide)
  unfold baseB
  rw [List.length_append]
  split
  · simp only [List.length_singleton]; omega
  · simp only [List.length_nil]; omega
end Go.Proofs.YtakmifnageepbaaDoor
namespace Go.Proofs.YtakmifnageepbaaDoor
open Go.RowKit

/-- Block g begins with the bytes l; it may be written. -/
def Mrk (w : World) (g : Nat) (l : List UInt8) : Prop := ∃ (m : List UInt8) (n : Nat), w.heap[g]? = some (.cells (bs (l ++ m)).toArray 5 (n, n + 1)) ∧ (l ++ m).length ≤ n
section
variable {w w' : World} {g : Nat} {l : List UInt8}
theorem Mrk.lt (h : Mrk w g l) : g < w.heap.size := by
  obtain ⟨m, n, h, _⟩ := h
  rcases Nat.lt_or_ge g w.heap.size with h' | h'
  · exact h'
  · rw [Array.getElem?_eq_none h'] at h; cases h
theorem Mrk.cell (h : Mrk w g l) {i : Nat} {x : UInt8} (hx : l[i]? = some x) : w.cell? ⟨g, i, none⟩ = some (.int .u8 (x.toNat : Int)) := by
  obtain ⟨m, n, h, _⟩ := h
  have hlt := (List.getElem?_eq_some_iff.1 hx).1
  rw [cell_of_row w g i _ _ (n, n + 1) h, List.getElem?_toArray, bs_get, List.getElem?_append_left hlt, hx]
  rfl
theorem Mrk.frozen (h : Mrk w g l) {i : Nat} (hi : i < l.length) : w.frozen? ⟨g, i, none⟩ = false := by
  obtain ⟨m, n, h, hn⟩ := h
  rw [List.length_append] at hn
  have : ¬ n ≤ i := by omega
  simp [World.frozen?, h, this]
theorem Mrk.set (h : Mrk w g l) {i : Nat} (hi : i < l.length) (n : Int) (h0 : 0 ≤ n) (h1 : n < 256) : Mrk (w.setCell ⟨g, i, none⟩ (.int .u8 n)) g (l.set i (b8 n)) := by
  obtain ⟨m, k, h, hk⟩ := h
  refine ⟨m, k, ?_, by simpa using hk⟩
  have e : (bs (l.set i (b8 n) ++ m)).toArray = (bs (l ++ m)).toArray.setIfInBounds i (.int .u8 n) := by
    rw [List.setIfInBounds_toArray]
    congr 1
    rw [← List.set_append_left _ _ hi]
    unfold bs
    rw [List.map_set, b8_toNat h0 h1]
  rw [e]
  simp [World.setCell, Array.getElem?_modify, h]
theorem Mrk.ext (h : Mrk w g l) (hx : Ext w w') : Mrk w' g l := by
  obtain ⟨m, n, h1, h2⟩ := id h
  exact ⟨m, n, (Below.block hx g h.lt).trans h1, h2⟩
theorem Mrk.far (h : Mrk w g l) {p : Addr} (hp : g ≠ p.block) (u : Value) : Mrk (w.setCell p u) g l := by
  obtain ⟨m, n, h1, h2⟩ := h
  exact ⟨m, n, (Below.heap_setCell w p u g hp).trans h1, h2⟩
theorem Mrk.rd (h : Mrk w g l) : Rd w (some ⟨g, 0, none⟩) l := fun _ => ⟨g, 0, rfl, fun j u hu => by rw [Nat.zero_add]; exact h.cell hu⟩
end
theorem set_mix {α : Type} (P S : List α) (k : Nat) (z : α) (hP : P[k]? = some z) (hS : k < S.length) : (P.take k ++ S.drop k).set k z = P.take (k + 1) ++ S.drop (k + 1) := by
  have hk : k < P.length := (List.getElem?_eq_some_iff.1 hP).1
  have hlen : (P.take k).length = k := by simp; omega
  rw [List.set_append_right _ _ (by omega), hlen, Nat.sub_self, List.drop_eq_getElem_cons hS, List.set_cons_zero, List.take_add_one, hP]
  simp
theorem keep_mix {α : Type} (P S : List α) (k : Nat) (z : α) (hP : P[k]? = some z) (hS : S[k]? = some z) : P.take k ++ S.drop k = P.take (k + 1) ++ S.drop (k + 1) := by
  obtain ⟨hk, hkz⟩ := List.getElem?_eq_some_iff.1 hS
  rw [List.drop_eq_getElem_cons hk, List.take_add_one, hP, hkz]
  simp
theorem get_mix {α : Type} (P S : List α) (k : Nat) (hP : k < P.length) : (P.take k ++ S.drop k)[k]? = S[k]? := by
  have hlen : (P.take k).length = k := by simp; omega
  rw [List.getElem?_append_right (by omega), hlen, Nat.sub_self, List.getElem?_drop]
  rfl
theorem row_bytes (s : ByteArray) (cap : Nat) : bytesRow s cap = (bs (s.data.toList ++ List.replicate (cap - s.size) 0)).toArray := by
  apply Array.ext'
  simp [bytesRow, bs]
theorem run_conv (s : ByteArray) (w : World) : ∃ c w', (convert 9 27 (.string s)).run Tryd.prog w = .ok (.slice (some ⟨w.heap.size, 0, none⟩) s.size c) w' ∧ Mrk w' w.heap.size s.data.toList ∧ Ext w w' ∧ s.size ≤ c := by
  refine ⟨_, _, run_bytes_of_string w 9 27 5 s Tryd.underlying9 Tryd.underlying27 Tryd.underlying5, ?_, (Ext.drew w).trans (Ext.alloc _ _), ?_⟩
  · refine ⟨List.replicate (grownCap w s.size 0 5 - s.size) 0, (bytesRow s (grownCap w s.size 0 5)).size, ?_, ?_⟩
    · rw [← row_bytes]
      exact heap_alloc_new w.drew _
    · rw [row_bytes, List.size_toArray, bs_length]
      exact Nat.le_refl _
  · exact grownCap_ge w s.size 0 5
section
variable {ops : Array Oper} {rest : List Oper} {o : Oper} {a : Act} {Q : Exit → Act → World → Prop} {w : World}
/-- '[]byte(s)'. -/
theorem wpList_conv (hgd : Region.wanted o (yielded ops a.tmps) = true) (x : Operand) (ho : o.op = .convert 9 27 x) (s : ByteArray) (hx : a.eval x = .string s)
    (h : ∀ c w', Mrk w' w.heap.size s.data.toList → Ext w w' → s.size ≤ c → wpList Tryd.prog ops Q rest (a.put o.dst (.slice (some ⟨w.heap.size, 0, none⟩) s.size c)) w') : wpList Tryd.prog ops Q (o :: rest) a w := by
  obtain ⟨c, w', hrun, h1, h2, h3⟩ := run_conv s w
  refine wpList_wanted hgd fun K hK => ?_
  unfold Oper.wp
  have he : (execOp a.eval o).run Tryd.prog w = .ok (.value (.slice (some ⟨w.heap.size, 0, none⟩) s.size c)) w' := by simp [execOp, ho, hx, hrun]
  rw [he]
  exact hK _ _ (h c w' h1 h2 h3)
end
end Go.Proofs.YtakmifnageepbaaDoor
namespace Go.Proofs.YtakmifnageepbaaDoor
open Go.RowKit

theorem ext_set {w W : World} (hx : Ext w W) {h : Nat} (hh : w.heap.size ≤ h) (i : Nat) (v : Value) : Ext w (W.setCell ⟨h, i, none⟩ v) :=
  ⟨hx.os, hx.tape, hx.output, Nat.le_trans hx.size (by simp [World.setCell]), fun b hb => (Below.heap_setCell W ⟨h, i, none⟩ v b (fun e => by simp only at e; omega)).trans (hx.block b hb)⟩
theorem strq_of {w : World} {A : Option Addr} {l : List UInt8} {n c : Nat} (h : Rd w A l) (hn : l.length = n) : (convert 27 9 (.slice A n c)).run Tryd.prog w = .ok (.string ⟨l.toArray⟩) w := by
  subst hn
  exact Rd.str (P := Tryd.prog) (w := w) h 27 9 5 c Tryd.underlying27 Tryd.underlying5 Tryd.underlying9
set_option maxRecDepth 20000 in
set_option maxHeartbeats 3200000 in
theorem signs_big (A : Option Addr) (n c : Nat) (at_ sg : Int) (w : World) (hbig : 3000 < n) (hT : Tabs w) :
    Calls Tryd.prog 10 #[.slice A n c, .int .u16 at_, .int .u8 sg] w (RetB w true) := by
  have KA := hide (fun (W : World) (hW : Ext w W) => awake_any W (hT.ext hW))
  have hi : (3000 : Int) < (n : Int) := by omega
  go_enter Tryd.func10, Tryd.ntmps10
  go_upto_region 2 with (go_at_call 11; (with_reducible refine (KA.out _ (Ext.refl _)).mono ?_); rintro e w3 ⟨rfl, hx3⟩; have X3 := hide hx3)
  go_wp2_with (go_at_call 11; (with_reducible refine (KA.out _ X3.out).mono ?_); rintro e w4 ⟨rfl, hx4⟩; have X4 := hide (X3.out.trans hx4))
  go_ret
  exact ⟨rfl, X4.out⟩
set_option maxRecDepth 20000 in
set_option maxHeartbeats 3200000 in
theorem signs_some (A : Option Addr) (l : List UInt8) (n c : Nat) (a sg : Nat) (w : World) (hr : Rd w A l) (hn : l.length = n) (hnc : n ≤ c) (h3 : n ≤ 3000) (h1 : 0 < n) (ha : a < 65536) (hsg : sg < 256) (hT : Tabs w) :
    Calls Tryd.prog 10 #[.slice A n c, .int .u16 (a : Int), .int .u8 (sg : Int)] w (RetB w true) := by
  have KA := hide (fun (W : World) (hW : Ext w W) => awake_any W (hT.ext hW))
  have hi : ¬ (3000 : Int) < (n : Int) := by omega
  have hnI : (n : Int) ≤ 3000 := by omega
  obtain ⟨S, HS⟩ : ∃ S, Hid (baseB l = S) := ⟨_, hide rfl⟩
  obtain ⟨k, HK⟩ : ∃ k, Hid (S.length = k) := ⟨_, hide rfl⟩
  have hk : (n * 4 + 2) / 3 = k := by have h := baseB_len l; rw [HS.out, HK.out, hn] at h; exact h.symm
  have hk0 : 0 < k := by omega
  have hk4 : k ≤ 4000 := by omega
  have hkI : ((n : Int) * 4 + 2) / 3 = (k : Int) := by omega
  have KB := hide (fun (W : World) (hW : Ext w W) => base_any A l n c W (hr.ext hW) hn hnc (by omega))
  rw [HS.out] at KB
  obtain ⟨sb, HSB⟩ : ∃ sb : ByteArray, Hid (⟨S.toArray⟩ = sb) := ⟨_, hide rfl⟩
  have HSL : Hid (sb.data.toList = S) := hide (by rw [← HSB.out])
  have hsz : sb.size = k := by rw [← size_list, HSL.out, HK.out]
  have hszI : (sb.size : Int) = (k : Int) := by rw [hsz]
  rw [HSB.out] at KB
  obtain ⟨i, HI⟩ : ∃ i, Hid (a % k = i) := ⟨_, hide rfl⟩
  have hik : i < k := by rw [← HI.out]; exact Nat.mod_lt _ hk0
  have hiI : (a : Int) % (k : Int) = (i : Int) := by rw [← HI.out]; exact (Int.natCast_emod a k).symm
  have hikI : (i : Int) < (k : Int) := by omega
  have hkp : (0 : Int) < (k : Int) := by omega
  have hkne : ¬ (k : Int) = 0 := by omega
  obtain ⟨q, HQ⟩ : ∃ q, Hid (S.set i (b8 (sg : Int)) = q) := ⟨_, hide rfl⟩
  have HQL : Hid (q.length = k) := hide (by rw [← HQ.out, List.length_set, HK.out])
  have KRQ := hide (fun (W : World) => readBase_any ⟨q.toArray⟩ W (by show q.toArray.size ≤ _; rw [List.size_toArray, HQL.out]; omega))
  have KRE := hide (fun (W : World) => readBase_any (sb ++ ⟨#[61]⟩) W (by rw [ByteArray.size_append, hsz]; show k + 1 ≤ _; omega))
  have hre : readB (sb ++ ⟨#[61]⟩ : ByteArray).data.toList = none := by
    rw [ByteArray.data_append, Array.toList_append, HSL.out]
    exact readB_eq S
  rw [hre] at KRE
  have hrq : (⟨q.toArray⟩ : ByteArray).data.toList = q := rfl
  rw [hrq] at KRQ
  clear hr hn hnc hT
  go_enter Tryd.func10, Tryd.ntmps10
  go_upto_region 3 with (go_at_call 11; (with_reducible refine (KA.out _ (Ext.refl _)).mono ?_); rintro e w3 ⟨rfl, hx3⟩; have X3 := hide hx3)
  go_upto_region 4 with (go_at_call 24; (with_reducible refine (KB.out _ X3.out).mono ?_); rintro e w4 ⟨v4, rfl, hx4, rfl⟩; have X4 := hide (X3.out.trans hx4))
  obtain ⟨cq, w5, hcv, hM5, hx5, hcq⟩ := run_conv sb w4
  rw [HSL.out] at hM5
  rw [hsz] at hcv hcq
  have X5 := hide (X4.out.trans hx5)
  have M5 := hide hM5
  have mf := hM5.frozen (i := i) (by rw [HK.out]; exact hik)
  obtain ⟨u0, hu0⟩ : ∃ u0, S[i]? = some u0 := ⟨_, List.getElem?_eq_getElem (by rw [HK.out]; exact hik)⟩
  have mc := hM5.cell hu0
  have hcqI : (k : Int) ≤ (cq : Int) := by omega
  go_upto_region 9 with fail
  obtain ⟨g, HG⟩ : ∃ g, Hid (w4.heap.size = g) := ⟨_, hide rfl⟩
  obtain ⟨w6, hM6, hX6, hgg⟩ : ∃ W, Mrk W w4.heap.size q ∧ Ext w W ∧ w5.setCell ⟨w4.heap.size, i, none⟩ (.int .u8 (sg : Int)) = W := ⟨_, by rw [← HQ.out]; exact M5.out.set (by rw [HK.out]; exact hik) (sg : Int) (by omega) (by omega), ext_set X5.out X4.out.size _ _, rfl⟩
  rw [hgg]
  rw [HG.out] at hM6 ⊢
  have M6 := hide hM6
  have X6 := hide hX6
  clear hgg hM6 hX6 M5 X5 X4 X3 hx3 hx4 hx5 mf mc hcv hu0
  have hs6 := strq_of (c := cq) M6.out.rd HQL.out
  cases hRQ : readB q with
  | none =>
    rw [hRQ] at KRQ
    go_upto_region 11 with (first
      | (go_at_call 25; (with_reducible refine (KRQ.out _).mono ?_); rintro e w7 ⟨hx7, rfl⟩; have X7 := hide (X6.out.trans hx7))
      | (go_at_call 25; (with_reducible refine (KRE.out _).mono ?_); rintro e w8 ⟨hx8, rfl⟩; have X8 := hide (X7.out.trans hx8)))
    go_quiet (fail)
    go_wp2
    go_ret
    exact ⟨rfl, X8.out.trans (Ext.drewn _ _)⟩
  | some r =>
    rw [hRQ] at KRQ
    have hbr := base_read q r hRQ
    obtain ⟨rn, HRN⟩ : ∃ u, Hid (r.length = u) := ⟨_, hide rfl⟩
    have hrn : rn ≤ 4000 := by have h := baseB_len r; rw [hbr, HQL.out, HRN.out] at h; omega
    have KB2 := hide (fun (W : World) (A' : Option Addr) (c' : Nat) (h : Rd W A' r) (hc : r.length ≤ c') => base_any A' r r.length c' W h rfl hc (by rw [HRN.out]; omega))
    rw [hbr] at KB2
    go_upto_region 11 with (first
      | (go_at_call 25; (with_reducible refine (KRQ.out _).mono ?_); rintro e w7 ⟨hx7, v7, rfl, A7, c7, rfl, hc7, hr7⟩; have X7 := hide (X6.out.trans hx7); have R7 := hide hr7; have M7 := hide (M6.out.ext hx7))
      | (go_at_call 25; (with_reducible refine (KRE.out _).mono ?_); rintro e w8 ⟨hx8, rfl⟩; have X8 := hide (X7.out.trans hx8); have R8 := hide (R7.out.ext hx8); have M8 := hide (M7.out.ext hx8)))
    rename_i hK
    refine wp_region_sp X8.out.size [
        Sp.is (.int .i64 3),
        Sp.is (.bool true),
        Sp.is (.bool true),
        Sp.is (.int .i64 0),
        Sp.is (.bool false),
        Sp.is (.bool false),
        Sp.is undef,
        Sp.is undef,
        Sp.is undef,
        Sp.is (Value.bool false),
        Sp.is (Value.bool false),
        Sp.is (.int .i64 0),
        Sp.is (.bool true),
        Sp.is (.bool true),
        Sp.bytes r,
        Sp.is (.string ⟨(q).toArray⟩),
        Sp.bytes q,
        Sp.is (.string ⟨(q).toArray⟩),
        Sp.is (.bool true),
        Sp.is (.bool true),
        Sp.is (.bool true),
        Sp.is (.bool true),
        Sp.is (.bool true)] (by kernel_rfl) (by kernel_rfl) ?_ ?_
    · refine ⟨?_, ?_, ?_, ?_, ?_, ?_, ?_, ?_, ?_, ?_, ?_, ?_, ?_, ?_, ?_, ?_, ?_, ?_, ?_, ?_, ?_, ?_, ?_, trivial⟩
      · intro az wz hx hB hk H
        refine .inl ⟨wanted_none rfl, ?_⟩
        refine gives_move rfl ?_
        rw [(ev (show az.tmps[12]? = some (.int .i64 3) from hk 12 rfl))]
        exact ⟨Grw.refl _ _, rfl⟩
      · intro az wz hx hB hk H
        obtain ⟨v56, h56, s56⟩ := H 0 rfl _ rfl 56 rfl
        refine .inl ⟨wanted_none rfl, ?_⟩
        refine gives_eql_int (k := .i64) (3) (3) rfl ?_ ?_ ⟨Grw.refl _ _, congrArg Value.bool (by simp)⟩
        · rw [(ev h56)]
          exact s56
        · rfl
      · intro az wz hx hB hk H
        obtain ⟨v57, h57, s57⟩ := H 1 rfl _ rfl 57 rfl
        refine .inl ⟨wanted_none rfl, ?_⟩
        refine gives_move rfl ?_
        rw [(ev h57)]
        exact ⟨Grw.refl _ _, s57⟩
      · intro az wz hx hB hk H
        obtain ⟨v58, h58, s58⟩ := H 2 rfl _ rfl 58 rfl
        have g0 : az.tmps[58]? = some (.bool true) := by rw [h58]; exact congrArg some s58
        refine .inl ⟨wanted_yes _ rfl rfl rfl g0, ?_⟩
        refine gives_move rfl ?_
        rw [(ev (show az.tmps[10]? = some (.int .i64 0) from hk 10 rfl))]
        exact ⟨Grw.refl _ _, rfl⟩
      · intro az wz hx hB hk H
        obtain ⟨v58, h58, s58⟩ := H 2 rfl _ rfl 58 rfl
        obtain ⟨v59, h59, s59⟩ := H 3 rfl _ rfl 59 rfl
        have g0 : az.tmps[58]? = some (.bool true) := by rw [h58]; exact congrArg some s58
        refine .inl ⟨wanted_yes _ rfl rfl rfl g0, ?_⟩
        refine gives_eql_int (k := .i64) (0) (3) rfl ?_ ?_ ⟨Grw.refl _ _, congrArg Value.bool (by simp)⟩
        · rw [(ev h59)]
          exact s59
        · rfl
      · intro az wz hx hB hk H
        obtain ⟨v58, h58, s58⟩ := H 2 rfl _ rfl 58 rfl
        obtain ⟨v60, h60, s60⟩ := H 4 rfl _ rfl 60 rfl
        have g0 : az.tmps[58]? = some (.bool true) := by rw [h58]; exact congrArg some s58
        refine .inl ⟨wanted_yes _ rfl rfl rfl g0, ?_⟩
        refine gives_move rfl ?_
        rw [(ev h60)]
        exact ⟨Grw.refl _ _, s60⟩
      · intro az wz hx hB hk H
        obtain ⟨v61, h61, s61⟩ := H 5 rfl _ rfl 61 rfl
        obtain rfl : v61 = .bool !true := s61
        exact .inr ⟨wanted_no _ rfl rfl rfl h61, rfl⟩
      · intro az wz hx hB hk H
        obtain ⟨v61, h61, s61⟩ := H 5 rfl _ rfl 61 rfl
        obtain rfl : v61 = .bool !true := s61
        exact .inr ⟨wanted_no _ rfl rfl rfl h61, rfl⟩
      · intro az wz hx hB hk H
        obtain ⟨v61, h61, s61⟩ := H 5 rfl _ rfl 61 rfl
        obtain rfl : v61 = .bool !true := s61
        exact .inr ⟨wanted_no _ rfl rfl rfl h61, rfl⟩
      · intro az wz hx hB hk H
        obtain ⟨v58, h58, s58⟩ := H 2 rfl _ rfl 58 rfl
        obtain ⟨v61, h61, s61⟩ := H 5 rfl _ rfl 61 rfl
        have g0 : az.tmps[58]? = some (.bool true) := by rw [h58]; exact congrArg some s58
        refine .inl ⟨wanted_yes _ rfl rfl rfl g0, ?_⟩
        refine gives_pick false rfl ?_ ?_
        · rw [(ev h61)]
          exact s61
        · show Grw _ _ _ ∧ _
          exact ⟨Grw.refl _ _, rfl⟩
      · intro az wz hx hB hk H
        obtain ⟨v58, h58, s58⟩ := H 2 rfl _ rfl 58 rfl
        obtain ⟨v65, h65, s65⟩ := H 9 rfl _ rfl 65 rfl
        have g0 : az.tmps[58]? = some (.bool true) := by rw [h58]; exact congrArg some s58
        refine .inl ⟨wanted_yes _ rfl rfl rfl g0, ?_⟩
        refine gives_move rfl ?_
        rw [(ev h65)]
        exact ⟨Grw.refl _ _, s65⟩
      · intro az wz hx hB hk H
        obtain ⟨v66, h66, s66⟩ := H 10 rfl _ rfl 66 rfl
        have g0 : az.tmps[66]? = some (.bool false) := by rw [h66]; exact congrArg some s66
        refine .inl ⟨wanted_yes _ rfl rfl rfl g0, ?_⟩
        refine gives_move rfl ?_
        rw [(ev (show az.tmps[10]? = some (.int .i64 0) from hk 10 rfl))]
        exact ⟨Grw.refl _ _, rfl⟩
      · intro az wz hx hB hk H
        obtain ⟨v66, h66, s66⟩ := H 10 rfl _ rfl 66 rfl
        obtain ⟨v67, h67, s67⟩ := H 11 rfl _ rfl 67 rfl
        have g0 : az.tmps[66]? = some (.bool false) := by rw [h66]; exact congrArg some s66
        refine .inl ⟨wanted_yes _ rfl rfl rfl g0, ?_⟩
        refine gives_eql_int (k := .i64) (0) (0) rfl ?_ ?_ ⟨Grw.refl _ _, congrArg Value.bool (by simp)⟩
        · rw [(ev h67)]
          exact s67
        · rfl
      · intro az wz hx hB hk H
        obtain ⟨v66, h66, s66⟩ := H 10 rfl _ rfl 66 rfl
        obtain ⟨v68, h68, s68⟩ := H 12 rfl _ rfl 68 rfl
        have g0 : az.tmps[66]? = some (.bool false) := by rw [h66]; exact congrArg some s66
        refine .inl ⟨wanted_yes _ rfl rfl rfl g0, ?_⟩
        refine gives_move rfl ?_
        rw [(ev h68)]
        exact ⟨Grw.refl _ _, s68⟩
      · intro az wz hx hB hk H
        obtain ⟨v69, h69, s69⟩ := H 13 rfl _ rfl 69 rfl
        have g0 : az.tmps[69]? = some (.bool true) := by rw [h69]; exact congrArg some s69
        refine .inl ⟨wanted_yes _ rfl rfl rfl g0, ?_⟩
        refine gives_move rfl ?_
        rw [(ev (show az.tmps[9]? = some (.slice A7 r.length c7) from hk 9 rfl))]
        exact ⟨Grw.refl _ _, ⟨A7, c7, rfl, hc7, R8.out.keep hx.keeps⟩⟩
      · intro az wz hx hB hk H
        obtain ⟨v69, h69, s69⟩ := H 13 rfl _ rfl 69 rfl
        obtain ⟨v70, h70, s70⟩ := H 14 rfl _ rfl 70 rfl
        have g0 : az.tmps[69]? = some (.bool true) := by rw [h69]; exact congrArg some s69
        refine .inl ⟨wanted_yes _ rfl rfl rfl g0, ?_⟩
        obtain ⟨A9, c9, e9, hc9, hr9⟩ := s70
        refine gives_call (args := #[.slice A9 r.length c9]) rfl Tryd.call24 (by simp only [List.map_toArray, List.map_cons, List.map_nil, ev h70]; rw [e9]) ?_
        exact (KB2.out wz A9 c9 hr9 hc9).mono fun e w' h => Ret.grw h hB
      · intro az wz hx hB hk H
        obtain ⟨v69, h69, s69⟩ := H 13 rfl _ rfl 69 rfl
        have g0 : az.tmps[69]? = some (.bool true) := by rw [h69]; exact congrArg some s69
        refine .inl ⟨wanted_yes _ rfl rfl rfl g0, ?_⟩
        refine gives_move rfl ?_
        rw [(ev (show az.tmps[8]? = some (.slice (some ⟨g, 0, none⟩) k cq) from hk 8 rfl))]
        exact ⟨Grw.refl _ _, ⟨some ⟨g, 0, none⟩, cq, by rw [HQL.out], by rw [HQL.out]; exact hcq, M8.out.rd.keep hx.keeps⟩⟩
      · intro az wz hx hB hk H
        obtain ⟨v69, h69, s69⟩ := H 13 rfl _ rfl 69 rfl
        obtain ⟨v72, h72, s72⟩ := H 16 rfl _ rfl 72 rfl
        have g0 : az.tmps[69]? = some (.bool true) := by rw [h69]; exact congrArg some s69
        refine .inl ⟨wanted_yes _ rfl rfl rfl g0, ?_⟩
        refine gives_str (q) rfl Tryd.underlying27 Tryd.underlying5 Tryd.underlying9 ?_ ⟨Grw.refl _ _, rfl⟩
        rw [(ev h72)]
        exact s72
      · intro az wz hx hB hk H
        obtain ⟨v69, h69, s69⟩ := H 13 rfl _ rfl 69 rfl
        obtain ⟨v71, h71, s71⟩ := H 15 rfl _ rfl 71 rfl
        obtain ⟨v73, h73, s73⟩ := H 17 rfl _ rfl 73 rfl
        have g0 : az.tmps[69]? = some (.bool true) := by rw [h69]; exact congrArg some s69
        refine .inl ⟨wanted_yes _ rfl rfl rfl g0, ?_⟩
        refine gives_eql_str (q) (q) rfl ?_ ?_ ⟨Grw.refl _ _, congrArg Value.bool (by simp)⟩
        · rw [(ev h71)]
          exact s71
        · rw [(ev h73)]
          exact s73
      · intro az wz hx hB hk H
        obtain ⟨v66, h66, s66⟩ := H 10 rfl _ rfl 66 rfl
        obtain ⟨v69, h69, s69⟩ := H 13 rfl _ rfl 69 rfl
        obtain ⟨v74, h74, s74⟩ := H 18 rfl _ rfl 74 rfl
        have g0 : az.tmps[66]? = some (.bool false) := by rw [h66]; exact congrArg some s66
        refine .inl ⟨wanted_yes _ rfl rfl rfl g0, ?_⟩
        refine gives_pick true rfl ?_ ?_
        · rw [(ev h69)]
          exact s69
        · show Grw _ _ _ ∧ _
          rw [if_pos rfl, (ev h74)]
          exact ⟨Grw.refl _ _, s74⟩
      · intro az wz hx hB hk H
        obtain ⟨v58, h58, s58⟩ := H 2 rfl _ rfl 58 rfl
        obtain ⟨v66, h66, s66⟩ := H 10 rfl _ rfl 66 rfl
        obtain ⟨v75, h75, s75⟩ := H 19 rfl _ rfl 75 rfl
        have g0 : az.tmps[58]? = some (.bool true) := by rw [h58]; exact congrArg some s58
        refine .inl ⟨wanted_yes _ rfl rfl rfl g0, ?_⟩
        refine gives_pick false rfl ?_ ?_
        · rw [(ev h66)]
          exact s66
        · show Grw _ _ _ ∧ _
          rw [if_neg (by decide), (ev h75)]
          exact ⟨Grw.refl _ _, s75⟩
      · intro az wz hx hB hk H
        obtain ⟨v58, h58, s58⟩ := H 2 rfl _ rfl 58 rfl
        obtain ⟨v76, h76, s76⟩ := H 20 rfl _ rfl 76 rfl
        refine .inl ⟨wanted_none rfl, ?_⟩
        refine gives_pick true rfl ?_ ?_
        · rw [(ev h58)]
          exact s58
        · show Grw _ _ _ ∧ _
          rw [if_pos rfl, (ev h76)]
          exact ⟨Grw.refl _ _, s76⟩
      · intro az wz hx hB hk H
        obtain ⟨v77, h77, s77⟩ := H 21 rfl _ rfl 77 rfl
        refine .inl ⟨wanted_none rfl, ?_⟩
        refine gives_assign rfl ?_
        rw [(ev h77)]
        exact ⟨Grw.refl _ _, s77⟩
    · intro az wz hx hd hs hv hsame
      obtain ⟨v, hv4, s4⟩ := hv 22 _ 6 rfl rfl
      obtain rfl : v = .bool true := s4
      refine hK _ _ ?_
      refine wp_ret ?_
      refine bodyPost_ret (results_tmp rfl _ _ _) hd ?_
      refine ⟨?_, X8.out.grw hx⟩
      simp [hv4]
end Go.Proofs.YtakmifnageepbaaDoor
namespace Go.Proofs.YtakmifnageepbaaDoor
open Go.RowKit

theorem rd_nil (w : World) (A : Option Addr) : Rd w A [] := fun h => absurd rfl h
set_option maxRecDepth 20000 in
set_option maxHeartbeats 3200000 in
theorem signs_zero (A : Option Addr) (n c : Nat) (a sg : Nat) (w : World) (h0 : n = 0) (ha : a < 65536) (hsg : sg < 256) (hT : Tabs w) :
    Calls Tryd.prog 10 #[.slice A n c, .int .u16 (a : Int), .int .u8 (sg : Int)] w (RetB w true) := by
  subst h0
  have KA := hide (fun (W : World) (hW : Ext w W) => awake_any W (hT.ext hW))
  obtain ⟨S, HS⟩ : ∃ S, Hid (([] : List UInt8) = S) := ⟨_, hide rfl⟩
  obtain ⟨k, HK⟩ : ∃ k, Hid (S.length = k) := ⟨_, hide rfl⟩
  have hk : k = 0 := by rw [← HK.out, ← HS.out]; rfl
  subst hk
  have KB := hide (fun (W : World) (hW : Ext w W) => base_any A [] 0 c W (rd_nil W A) rfl (by omega) (by omega))
  rw [show baseB [] = ([] : List UInt8) from rfl, HS.out] at KB
  obtain ⟨sb, HSB⟩ : ∃ sb : ByteArray, Hid (⟨S.toArray⟩ = sb) := ⟨_, hide rfl⟩
  have HSL : Hid (sb.data.toList = S) := hide (by rw [← HSB.out])
  have hsz : sb.size = 0 := by rw [← size_list, HSL.out, HK.out]
  have hszI : (sb.size : Int) = 0 := by rw [hsz]; rfl
  rw [HSB.out] at KB
  obtain ⟨q, HQ⟩ : ∃ q, Hid (S = q) := ⟨_, hide rfl⟩
  have HQL : Hid (q.length = 0) := hide (by rw [← HQ.out, HK.out])
  have KRQ := hide (fun (W : World) => readBase_any ⟨q.toArray⟩ W (by show q.toArray.size ≤ _; rw [List.size_toArray, HQL.out]; omega))
  have KRE := hide (fun (W : World) => readBase_any (sb ++ ⟨#[61]⟩) W (by rw [ByteArray.size_append, hsz]; show 0 + 1 ≤ _; omega))
  have hre : readB (sb ++ ⟨#[61]⟩ : ByteArray).data.toList = none := by
    rw [ByteArray.data_append, Array.toList_append, HSL.out]
    exact readB_eq S
  rw [hre] at KRE
  have hrq : (⟨q.toArray⟩ : ByteArray).data.toList = q := rfl
  rw [hrq] at KRQ
  clear hT
  go_enter Tryd.func10, Tryd.ntmps10
  go_upto_region 3 with (go_at_call 11; (with_reducible refine (KA.out _ (Ext.refl _)).mono ?_); rintro e w3 ⟨rfl, hx3⟩; have X3 := hide hx3)
  go_upto_region 4 with (go_at_call 24; (with_reducible refine (KB.out _ X3.out).mono ?_); rintro e w4 ⟨v4, rfl, hx4, rfl⟩; have X4 := hide (X3.out.trans hx4))
  obtain ⟨cq, w5, hcv, hM5, hx5, hcq⟩ := run_conv sb w4
  rw [HSL.out] at hM5
  rw [hsz] at hcv hcq
  have X5 := hide (X4.out.trans hx5)
  have M5 := hide hM5
  have hcqI : (0 : Int) ≤ (cq : Int) := by omega
  go_upto_region 9 with fail
  obtain ⟨g, HG⟩ : ∃ g, Hid (w4.heap.size = g) := ⟨_, hide rfl⟩
  rw [HG.out] at M5 ⊢
  have X6 := hide X5.out
  have M6 := hide (HQ.out ▸ M5.out)
  clear M5 X5 X4 X3 hx3 hx4 hx5 hcv hM5
  have hs6 := strq_of (c := cq) M6.out.rd HQL.out
  cases hRQ : readB q with
  | none =>
    rw [hRQ] at KRQ
    go_upto_region 11 with (first
      | (go_at_call 25; (with_reducible refine (KRQ.out _).mono ?_); rintro e w7 ⟨hx7, rfl⟩; have X7 := hide (X6.out.trans hx7))
      | (go_at_call 25; (with_reducible refine (KRE.out _).mono ?_); rintro e w8 ⟨hx8, rfl⟩; have X8 := hide (X7.out.trans hx8)))
    go_quiet (fail)
    go_wp2
    go_ret
    exact ⟨rfl, X8.out.trans (Ext.drewn _ _)⟩
  | some r =>
    rw [hRQ] at KRQ
    have hbr := base_read q r hRQ
    obtain ⟨rn, HRN⟩ : ∃ u, Hid (r.length = u) := ⟨_, hide rfl⟩
    have hrn : rn ≤ 4000 := by have h := baseB_len r; rw [hbr, HQL.out, HRN.out] at h; omega
    have KB2 := hide (fun (W : World) (A' : Option Addr) (c' : Nat) (h : Rd W A' r) (hc : r.length ≤ c') => base_any A' r r.length c' W h rfl hc (by rw [HRN.out]; omega))
    rw [hbr] at KB2
    go_upto_region 11 with (first
      | (go_at_call 25; (with_reducible refine (KRQ.out _).mono ?_); rintro e w7 ⟨hx7, v7, rfl, A7, c7, rfl, hc7, hr7⟩; have X7 := hide (X6.out.trans hx7); have R7 := hide hr7; have M7 := hide (M6.out.ext hx7))
      | (go_at_call 25; (with_reducible refine (KRE.out _).mono ?_); rintro e w8 ⟨hx8, rfl⟩; have X8 := hide (X7.out.trans hx8); have R8 := hide (R7.out.ext hx8); have M8 := hide (M7.out.ext hx8)))
    rename_i hK
    refine wp_region_sp X8.out.size [
        Sp.is (.int .i64 3),
        Sp.is (.bool true),
        Sp.is (.bool true),
        Sp.is (.int .i64 0),
        Sp.is (.bool false),
        Sp.is (.bool false),
        Sp.is undef,
        Sp.is undef,
        Sp.is undef,
        Sp.is (Value.bool false),
        Sp.is (Value.bool false),
        Sp.is (.int .i64 0),
        Sp.is (.bool true),
        Sp.is (.bool true),
        Sp.bytes r,
        Sp.is (.string ⟨(q).toArray⟩),
        Sp.bytes q,
        Sp.is (.string ⟨(q).toArray⟩),
        Sp.is (.bool true),
        Sp.is (.bool true),
        Sp.is (.bool true),
        Sp.is (.bool true),
        Sp.is (.bool true)] (by kernel_rfl) (by kernel_rfl) ?_ ?_
    · refine ⟨?_, ?_, ?_, ?_, ?_, ?_, ?_, ?_, ?_, ?_, ?_, ?_, ?_, ?_, ?_, ?_, ?_, ?_, ?_, ?_, ?_, ?_, ?_, trivial⟩
      · intro az wz hx hB hk H
        refine .inl ⟨wanted_none rfl, ?_⟩
        refine gives_move rfl ?_
        rw [(ev (show az.tmps[12]? = some (.int .i64 3) from hk 12 rfl))]
        exact ⟨Grw.refl _ _, rfl⟩
      · intro az wz hx hB hk H
        obtain ⟨v56, h56, s56⟩ := H 0 rfl _ rfl 56 rfl
        refine .inl ⟨wanted_none rfl, ?_⟩
        refine gives_eql_int (k := .i64) (3) (3) rfl ?_ ?_ ⟨Grw.refl _ _, congrArg Value.bool (by simp)⟩
        · rw [(ev h56)]
          exact s56
        · rfl
      · intro az wz hx hB hk H
        obtain ⟨v57, h57, s57⟩ := H 1 rfl _ rfl 57 rfl
        refine .inl ⟨wanted_none rfl, ?_⟩
        refine gives_move rfl ?_
        rw [(ev h57)]
        exact ⟨Grw.refl _ _, s57⟩
      · intro az wz hx hB hk H
        obtain ⟨v58, h58, s58⟩ := H 2 rfl _ rfl 58 rfl
        have g0 : az.tmps[58]? = some (.bool true) := by rw [h58]; exact congrArg some s58
        refine .inl ⟨wanted_yes _ rfl rfl rfl g0, ?_⟩
        refine gives_move rfl ?_
        rw [(ev (show az.tmps[10]? = some (.int .i64 0) from hk 10 rfl))]
        exact ⟨Grw.refl _ _, rfl⟩
      · intro az wz hx hB hk H
        obtain ⟨v58, h58, s58⟩ := H 2 rfl _ rfl 58 rfl
        obtain ⟨v59, h59, s59⟩ := H 3 rfl _ rfl 59 rfl
        have g0 : az.tmps[58]? = some (.bool true) := by rw [h58]; exact congrArg some s58
        refine .inl ⟨wanted_yes _ rfl rfl rfl g0, ?_⟩
        refine gives_eql_int (k := .i64) (0) (3) rfl ?_ ?_ ⟨Grw.refl _ _, congrArg Value.bool (by simp)⟩
        · rw [(ev h59)]
          exact s59
        · rfl
      · intro az wz hx hB hk H
        obtain ⟨v58, h58, s58⟩ := H 2 rfl _ rfl 58 rfl
        obtain ⟨v60, h60, s60⟩ := H 4 rfl _ rfl 60 rfl
        have g0 : az.tmps[58]? = some (.bool true) := by rw [h58]; exact congrArg some s58
        refine .inl ⟨wanted_yes _ rfl rfl rfl g0, ?_⟩
        refine gives_move rfl ?_
        rw [(ev h60)]
        exact ⟨Grw.refl _ _, s60⟩
      · intro az wz hx hB hk H
        obtain ⟨v61, h61, s61⟩ := H 5 rfl _ rfl 61 rfl
        obtain rfl : v61 = .bool !true := s61
        exact .inr ⟨wanted_no _ rfl rfl rfl h61, rfl⟩
      · intro az wz hx hB hk H
        obtain ⟨v61, h61, s61⟩ := H 5 rfl _ rfl 61 rfl
        obtain rfl : v61 = .bool !true := s61
        exact .inr ⟨wanted_no _ rfl rfl rfl h61, rfl⟩
      · intro az wz hx hB hk H
        obtain ⟨v61, h61, s61⟩ := H 5 rfl _ rfl 61 rfl
        obtain rfl : v61 = .bool !true := s61
        exact .inr ⟨wanted_no _ rfl rfl rfl h61, rfl⟩
      · intro az wz hx hB hk H
        obtain ⟨v58, h58, s58⟩ := H 2 rfl _ rfl 58 rfl
        obtain ⟨v61, h61, s61⟩ := H 5 rfl _ rfl 61 rfl
        have g0 : az.tmps[58]? = some (.bool true) := by rw [h58]; exact congrArg some s58
        refine .inl ⟨wanted_yes _ rfl rfl rfl g0, ?_⟩
        refine gives_pick false rfl ?_ ?_
        · rw [(ev h61)]
          exact s61
        · show Grw _ _ _ ∧ _
          exact ⟨Grw.refl _ _, rfl⟩
      · intro az wz hx hB hk H
        obtain ⟨v58, h58, s58⟩ := H 2 rfl _ rfl 58 rfl
        obtain ⟨v65, h65, s65⟩ := H 9 rfl _ rfl 65 rfl
        have g0 : az.tmps[58]? = some (.bool true) := by rw [h58]; exact congrArg some s58
        refine .inl ⟨wanted_yes _ rfl rfl rfl g0, ?_⟩
        refine gives_move rfl ?_
        rw [(ev h65)]
        exact ⟨Grw.refl _ _, s65⟩
      · intro az wz hx hB hk H
        obtain ⟨v66, h66, s66⟩ := H 10 rfl _ rfl 66 rfl
        have g0 : az.tmps[66]? = some (.bool false) := by rw [h66]; exact congrArg some s66
        refine .inl ⟨wanted_yes _ rfl rfl rfl g0, ?_⟩
        refine gives_move rfl ?_
        rw [(ev (show az.tmps[10]? = some (.int .i64 0) from hk 10 rfl))]
        exact ⟨Grw.refl _ _, rfl⟩
      · intro az wz hx hB hk H
        obtain ⟨v66, h66, s66⟩ := H 10 rfl _ rfl 66 rfl
        obtain ⟨v67, h67, s67⟩ := H 11 rfl _ rfl 67 rfl
        have g0 : az.tmps[66]? = some (.bool false) := by rw [h66]; exact congrArg some s66
        refine .inl ⟨wanted_yes _ rfl rfl rfl g0, ?_⟩
        refine gives_eql_int (k := .i64) (0) (0) rfl ?_ ?_ ⟨Grw.refl _ _, congrArg Value.bool (by simp)⟩
        · rw [(ev h67)]
          exact s67
        · rfl
      · intro az wz hx hB hk H
        obtain ⟨v66, h66, s66⟩ := H 10 rfl _ rfl 66 rfl
        obtain ⟨v68, h68, s68⟩ := H 12 rfl _ rfl 68 rfl
        have g0 : az.tmps[66]? = some (.bool false) := by rw [h66]; exact congrArg some s66
        refine .inl ⟨wanted_yes _ rfl rfl rfl g0, ?_⟩
        refine gives_move rfl ?_
        rw [(ev h68)]
        exact ⟨Grw.refl _ _, s68⟩
      · intro az wz hx hB hk H
        obtain ⟨v69, h69, s69⟩ := H 13 rfl _ rfl 69 rfl
        have g0 : az.tmps[69]? = some (.bool true) := by rw [h69]; exact congrArg some s69
        refine .inl ⟨wanted_yes _ rfl rfl rfl g0, ?_⟩
        refine gives_move rfl ?_
        rw [(ev (show az.tmps[9]? = some (.slice A7 r.length c7) from hk 9 rfl))]
        exact ⟨Grw.refl _ _, ⟨A7, c7, rfl, hc7, R8.out.keep hx.keeps⟩⟩
      · intro az wz hx hB hk H
        obtain ⟨v69, h69, s69⟩ := H 13 rfl _ rfl 69 rfl
        obtain ⟨v70, h70, s70⟩ := H 14 rfl _ rfl 70 rfl
        have g0 : az.tmps[69]? = some (.bool true) := by rw [h69]; exact congrArg some s69
        refine .inl ⟨wanted_yes _ rfl rfl rfl g0, ?_⟩
        obtain ⟨A9, c9, e9, hc9, hr9⟩ := s70
        refine gives_call (args := #[.slice A9 r.length c9]) rfl Tryd.call24 (by simp only [List.map_toArray, List.map_cons, List.map_nil, ev h70]; rw [e9]) ?_
        exact (KB2.out wz A9 c9 hr9 hc9).mono fun e w' h => Ret.grw h hB
      · intro az wz hx hB hk H
        obtain ⟨v69, h69, s69⟩ := H 13 rfl _ rfl 69 rfl
        have g0 : az.tmps[69]? = some (.bool true) := by rw [h69]; exact congrArg some s69
        refine .inl ⟨wanted_yes _ rfl rfl rfl g0, ?_⟩
        refine gives_move rfl ?_
        rw [(ev (show az.tmps[8]? = some (.slice (some ⟨g, 0, none⟩) 0 cq) from hk 8 rfl))]
        exact ⟨Grw.refl _ _, ⟨some ⟨g, 0, none⟩, cq, by rw [HQL.out], by rw [HQL.out]; exact hcq, M8.out.rd.keep hx.keeps⟩⟩
      · intro az wz hx hB hk H
        obtain ⟨v69, h69, s69⟩ := H 13 rfl _ rfl 69 rfl
        obtain ⟨v72, h72, s72⟩ := H 16 rfl _ rfl 72 rfl
        have g0 : az.tmps[69]? = some (.bool true) := by rw [h69]; exact congrArg some s69
        refine .inl ⟨wanted_yes _ rfl rfl rfl g0, ?_⟩
        refine gives_str (q) rfl Tryd.underlying27 Tryd.underlying5 Tryd.underlying9 ?_ ⟨Grw.refl _ _, rfl⟩
        rw [(ev h72)]
        exact s72
      · intro az wz hx hB hk H
        obtain ⟨v69, h69, s69⟩ := H 13 rfl _ rfl 69 rfl
        obtain ⟨v71, h71, s71⟩ := H 15 rfl _ rfl 71 rfl
        obtain ⟨v73, h73, s73⟩ := H 17 rfl _ rfl 73 rfl
        have g0 : az.tmps[69]? = some (.bool true) := by rw [h69]; exact congrArg some s69
        refine .inl ⟨wanted_yes _ rfl rfl rfl g0, ?_⟩
        refine gives_eql_str (q) (q) rfl ?_ ?_ ⟨Grw.refl _ _, congrArg Value.bool (by simp)⟩
        · rw [(ev h71)]
          exact s71
        · rw [(ev h73)]
          exact s73
      · intro az wz hx hB hk H
        obtain ⟨v66, h66, s66⟩ := H 10 rfl _ rfl 66 rfl
        obtain ⟨v69, h69, s69⟩ := H 13 rfl _ rfl 69 rfl
        obtain ⟨v74, h74, s74⟩ := H 18 rfl _ rfl 74 rfl
        have g0 : az.tmps[66]? = some (.bool false) := by rw [h66]; exact congrArg some s66
        refine .inl ⟨wanted_yes _ rfl rfl rfl g0, ?_⟩
        refine gives_pick true rfl ?_ ?_
        · rw [(ev h69)]
          exact s69
        · show Grw _ _ _ ∧ _
          rw [if_pos rfl, (ev h74)]
          exact ⟨Grw.refl _ _, s74⟩
      · intro az wz hx hB hk H
        obtain ⟨v58, h58, s58⟩ := H 2 rfl _ rfl 58 rfl
        obtain ⟨v66, h66, s66⟩ := H 10 rfl _ rfl 66 rfl
        obtain ⟨v75, h75, s75⟩ := H 19 rfl _ rfl 75 rfl
        have g0 : az.tmps[58]? = some (.bool true) := by rw [h58]; exact congrArg some s58
        refine .inl ⟨wanted_yes _ rfl rfl rfl g0, ?_⟩
        refine gives_pick false rfl ?_ ?_
        · rw [(ev h66)]
          exact s66
        · show Grw _ _ _ ∧ _
          rw [if_neg (by decide), (ev h75)]
          exact ⟨Grw.refl _ _, s75⟩
      · intro az wz hx hB hk H
        obtain ⟨v58, h58, s58⟩ := H 2 rfl _ rfl 58 rfl
        obtain ⟨v76, h76, s76⟩ := H 20 rfl _ rfl 76 rfl
        refine .inl ⟨wanted_none rfl, ?_⟩
        refine gives_pick true rfl ?_ ?_
        · rw [(ev h58)]
          exact s58
        · show Grw _ _ _ ∧ _
          rw [if_pos rfl, (ev h76)]
          exact ⟨Grw.refl _ _, s76⟩
      · intro az wz hx hB hk H
        obtain ⟨v77, h77, s77⟩ := H 21 rfl _ rfl 77 rfl
        refine .inl ⟨wanted_none rfl, ?_⟩
        refine gives_assign rfl ?_
        rw [(ev h77)]
        exact ⟨Grw.refl _ _, s77⟩
    · intro az wz hx hd hs hv hsame
      obtain ⟨v, hv4, s4⟩ := hv 22 _ 6 rfl rfl
      obtain rfl : v = .bool true := s4
      refine hK _ _ ?_
      refine wp_ret ?_
      refine bodyPost_ret (results_tmp rfl _ _ _) hd ?_
      refine ⟨?_, X8.out.grw hx⟩
      simp [hv4]
theorem codecSigns_walk (A : Option Addr) (l : List UInt8) (c : Nat) (a sg : Int) (w : World) (hr : Rd w A l) (hlc : l.length ≤ c) (ha : 0 ≤ a ∧ a < 65536) (hsg : 0 ≤ sg ∧ sg < 256) (hT : Tabs w) :
    Calls Tryd.prog 10 #[.slice A l.length c, .int .u16 a, .int .u8 sg] w (RetB w true) := by
  by_cases hbig : 3000 < l.length
  · exact signs_big A l.length c a sg w hbig hT
  obtain ⟨a', rfl⟩ : ∃ a' : Nat, a = (a' : Int) := ⟨a.toNat, by omega⟩
  obtain ⟨t', rfl⟩ : ∃ t' : Nat, sg = (t' : Int) := ⟨sg.toNat, by omega⟩
  by_cases h0 : l.length = 0
  · exact signs_zero A l.length c a' t' w h0 (by omega) (by omega) hT
  · exact signs_some A l l.length c a' t' w hr rfl hlc (by omega) (by omega) (by omega) (by omega) hT
end Go.Proofs.YtakmifnageepbaaDoor
