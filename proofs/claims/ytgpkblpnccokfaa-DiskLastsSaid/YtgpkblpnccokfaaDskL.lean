/-
  DiskLasts: the plain part.
-/
import Derived.Test.YtgpkblpnccokfaaDskK
import Derived.Test.YtgpkblpnccokfaaTvg
namespace Go.Proofs.Ytgpkblpnccokfaa
open Go.RowKit

/-- A slice of slices of bytes in memory. -/
def RdL (w : World) (A : Option Addr) (L : List (List UInt8)) : Prop :=
  L ≠ [] → ∃ b off, A = some ⟨b, off, none⟩ ∧ ∀ j l, L[j]? = some l → ∃ A' c, w.cell? ⟨b, off + j, none⟩ = some (.slice A' l.length c) ∧ Rd w A' l
theorem RdL.ext {w w' : World} {A : Option Addr} {L : List (List UInt8)} (h : RdL w A L) (hx : Ext w w') : RdL w' A L := fun hn => by
  obtain ⟨b, off, hA, hc⟩ := h hn
  refine ⟨b, off, hA, fun j l hj => ?_⟩
  obtain ⟨A', c, h1, h2⟩ := hc j l hj
  exact ⟨A', c, hx.keeps.cell h1, h2.ext hx⟩
/-- What a disk of one sector is, behind a Sync and some writes. -/
structure Way (D : Dk) (f : List UInt8) (L : List (List UInt8)) : Prop where
  ok : D.Ok
  dur : D.dur = [f]
  pen : D.pen = L.map fun l => (0, fullS l)
  arm : D.arm < 30
  ops : D.ops ≤ 2 + L.length
theorem Way.put {D : Dk} {f : List UInt8} {L : List (List UInt8)} (h : Way D f L) (l : List UInt8) : Way (D.put 0 (fullS l)).op f (L ++ [l]) := by
  refine ⟨⟨h.ok.pos, h.ok.max, h.ok.dur, fun x hx => ?_⟩, h.dur, ?_, ?_, ?_⟩
  · rcases List.mem_append.1 hx with hx | hx
    · exact h.ok.pen x hx
    · rw [List.mem_singleton.1 hx]
      exact ⟨h.ok.pos, fullS_length l⟩
  · show D.pen ++ [(0, fullS l)] = _
    rw [h.pen, List.map_append]
    rfl
  · show D.arm - 1 < 30
    have := h.arm
    omega
  · show D.ops + 1 ≤ 2 + (L ++ [l]).length
    have := h.ops
    simp
    omega
theorem durK_one (kept : Nat → Bool) (f : List UInt8) (L : List (List UInt8)) : ∀ k, k ≤ L.length → ∃ x, durK kept [f] (L.map fun l => (0, fullS l)) k = [x] ∧ x ∈ f :: L.map fullS
  | 0, _ => ⟨f, rfl, by simp⟩
  | k + 1, hk => by
    obtain ⟨x, h1, h2⟩ := durK_one kept f L k (by omega)
    have hg : (L.map fun l => (0, fullS l))[k]? = some (0, fullS L[k]) := by rw [List.getElem?_map, List.getElem?_eq_getElem (by omega)]; rfl
    rw [durK_succ _ _ _ _ _ hg, h1]
    split
    · refine ⟨fullS L[k], rfl, List.mem_cons_of_mem _ (List.mem_map.2 ⟨L[k], List.getElem_mem _, rfl⟩)⟩
    · exact ⟨x, rfl, h2⟩
theorem Way.fallen {D : Dk} {f : List UInt8} {L : List (List UInt8)} (h : Way D f L) (keep : List Bool) : ∃ x, (D.fallen keep).at 0 = x ∧ x ∈ f :: L.map fullS ∧ x.length = 512 := by
  obtain ⟨x, h1, h2⟩ := durK_one (fun k => keep.getD k false) f L L.length (Nat.le_refl _)
  have e : (D.fallen keep).dur = [x] := by
    rw [Dk.fallen_dur, h.dur, h.pen, List.length_map, h1]
  refine ⟨x, ?_, h2, ?_⟩
  · show (D.fallen keep).dur.getD 0 [] = x
    rw [e]
    rfl
  · exact (Dk.fallen_ok h.ok keep).dur x (by rw [e]; simp)
theorem DiskAt.grownBy {B g gd gn c : Nat} {w w' : World} {A : Option Addr} {D : Dk} {r : Option Nat} (h : DiskAt B w g gd gn A c D) (k : w.grownBy w' r) (h1 : some g ≠ r) (h2 : some gd ≠ r) (h3 : some gn ≠ r) (h4 : ∀ a, A = some a → some a.block ≠ r) : DiskAt B w' g gd gn A c D :=
  ⟨(k.block g h.blk.lt h1).trans h.blk, (k.block gd h.dur.lt h2).trans h.dur, (k.block gn h.new.lt h3).trans h.new, ownsRow_far h.pen fun a ha => k.block a.block (own_base h.pen a ha).2 (h4 a ha), h.base⟩
/-- Where a slice of texts of the call's own lies. -/
theorem OwnT.block {w : World} {B : Nat} {v : Value} {ls : List (List UInt8)} (h : OwnT w B v ls) : ∀ k, v.ownBlock = some k → B ≤ k ∧ k < w.heap.size ∧ ∃ cs fr, w.heap[k]? = some (.cells cs 9 fr) := fun k hk => by
  rcases h.2 with ⟨rfl, _⟩ | ⟨g, cap, cur, rfl, hb, hg, _⟩
  · cases hk
  · obtain rfl : g = k := by
      have : (Value.slice (some ⟨g, 0, none⟩) ls.length cap).ownBlock = some g := rfl
      rw [this] at hk
      exact Option.some.inj hk
    exact ⟨hb, (Array.getElem?_eq_some_iff.1 hg).1, _, _, hg⟩
theorem OwnT.apart {w : World} {B g : Nat} {v : Value} {ls : List (List UInt8)} {t : TypeId} {vs : List Value} (h : OwnT w B v ls) (hr : Rw w g t vs) (ht : t ≠ 9) : some g ≠ v.ownBlock := fun e => by
  obtain ⟨_, _, cs, fr, hc⟩ := h.block g e.symm
  unfold Rw at hr
  rw [hr] at hc
  injection hc with hc
  injection hc with _ h3 _
  exact ht h3
theorem OwnT.apart_own {w : World} {B B2 c size n : Nat} {v : Value} {A : Option Addr} {ls : List (List UInt8)} {t : TypeId} {xs : List Value} (h : OwnT w B v ls) (hp : w.ownsRow B2 t size (.slice A n c) n xs) (ht : t ≠ 9) : ∀ a, A = some a → some a.block ≠ v.ownBlock := fun a ha e => by
  obtain ⟨_, _, cs, fr, hc⟩ := h.block _ e.symm
  rcases hp.2 with ⟨hv, _⟩ | ⟨g2, cap, cur, hv, _, hg, _⟩
  · injection hv with hv; rw [ha] at hv; cases hv
  · injection hv with hv
    rw [ha] at hv
    injection hv with hv
    subst hv
    rw [hg] at hc
    injection hc with hc
    injection hc with _ h3 _
    exact ht h3
theorem DiskAt.pushed {B B2 g gd gn c : Nat} {w w' : World} {A : Option Addr} {D : Dk} {v : Value} {ls : List (List UInt8)} (h : DiskAt B w g gd gn A c D) (ho : OwnT w B2 v ls) (k : w.grownBy w' v.ownBlock) : DiskAt B w' g gd gn A c D :=
  h.grownBy k (ho.apart h.blk (by decide)) (ho.apart h.dur (by decide)) (ho.apart h.new (by decide)) (ho.apart_own h.pen (by decide))
/-- A disk's call leaves a slice of texts as it is. -/
theorem OwnT.disk {B B2 g gd gn c : Nat} {w w' : World} {A : Option Addr} {D : Dk} {v : Value} {ls : List (List UInt8)} (ho : OwnT w B2 v ls) (h : DiskAt B w g gd gn A c D) (k : Dfr g gd gn A w w') : OwnT w' B2 v ls := by
  refine ⟨ho.1, ?_⟩
  rcases ho.2 with hn | ⟨b, cap, cur, rfl, hb, hg, rest⟩
  · exact .inl hn
  · refine .inr ⟨b, cap, cur, rfl, hb, ?_, rest⟩
    have hob : (Value.slice (some ⟨b, 0, none⟩) ls.length cap).ownBlock = some b := rfl
    rw [k.other b (Array.getElem?_eq_some_iff.1 hg).1 (fun e => ho.apart h.blk (by decide) (by rw [hob, e])) (fun e => ho.apart h.dur (by decide) (by rw [hob, e])) (fun e => ho.apart h.new (by decide) (by rw [hob, e])) (fun a ha e => ho.apart_own h.pen (by decide) a ha (by rw [hob, e]))]
    exact hg
theorem grown_ext {w0 w w' : World} {v : Value} {ls : List (List UInt8)} (h : Ext w0 w) (ho : OwnT w w0.heap.size v ls) (k : w.grownBy w' v.ownBlock) : Ext w0 w' :=
  ⟨k.os.trans h.os, k.tape.trans h.tape, k.output.trans h.output, Nat.le_trans h.size k.size, fun b hb => (k.block b (Nat.lt_of_lt_of_le hb h.size) (fun e => by have := (ho.block b e.symm).1; omega)).trans (Below.block h b hb)⟩
end Go.Proofs.Ytgpkblpnccokfaa
