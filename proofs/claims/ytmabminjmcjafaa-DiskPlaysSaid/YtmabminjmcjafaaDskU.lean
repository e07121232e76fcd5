/-
  The document's disk: how it lies.
-/
import Derived.Test.YtmabminjmcjafaaDskC
import Derived.Test.YtmabminjmcjafaaDskQ
import Derived.Test.YtmabminjmcjafaaTvg
namespace Go.Proofs.Ytmabminjmcjafaa
open Go.RowKit

/-- The writes on their way. -/
def wvs (l : List (Nat × List UInt8)) : List Value := l.flatMap fun x => [.int .i64 (x.1 : Int), .string ⟨x.2.toArray⟩]
theorem wvs_append (a b : List (Nat × List UInt8)) : wvs (a ++ b) = wvs a ++ wvs b := List.flatMap_append
theorem wvs_get : ∀ (L : List (Nat × List UInt8)) (j : Nat) (x : Nat × List UInt8), L[j]? = some x → (wvs L)[j * 2]? = some (.int .i64 (x.1 : Int)) ∧ (wvs L)[j * 2 + 1]? = some (.string ⟨x.2.toArray⟩)
  | [], _, _, h => by cases h
  | x :: L, 0, d, h => by injection h with h; subst h; exact ⟨rfl, rfl⟩
  | x :: L, j + 1, d, h => by
    have ih := wvs_get L j d h
    have e : wvs (x :: L) = .int .i64 (x.1 : Int) :: .string ⟨x.2.toArray⟩ :: wvs L := rfl
    rw [e, show (j + 1) * 2 = j * 2 + 1 + 1 by omega]
    exact ih
def refC (gl cl : Nat) (A : Option Addr) (c : Nat) (D : Dk) : List Value :=
  [.slice (some ⟨gl, 0, none⟩) D.dur.length cl, .slice A D.pen.length c, .int .i64 (D.arm : Int), .bool D.off, .int .i64 (D.ops : Int)]
/-- How the document's disk lies. -/
structure RefAt (B : Nat) (w : World) (g gl cl : Nat) (A : Option Addr) (c : Nat) (rest : List Value) (D : Dk) : Prop where
  blk : Rw w g 39 (refC gl cl A c D)
  dur : Rw w gl 9 (tvs D.dur ++ rest)
  pen : w.ownsRow B 65 2 (.slice A D.pen.length c) D.pen.length (wvs D.pen)
  base : B ≤ g ∧ B ≤ gl
  cap : D.dur.length ≤ cl
/-- What the document's calls leave as it was. -/
structure Ufr (B : Nat) (w w' : World) : Prop where
  below : Below B w w'
  stay : ∀ (k : Nat) (t : TypeId) (vs : List Value), t ≠ 39 → t ≠ 9 → t ≠ 65 → Rw w k t vs → Rw w' k t vs
theorem Ufr.refl (B : Nat) (w : World) : Ufr B w w := ⟨Below.refl _ _, fun _ _ _ _ _ _ h => h⟩
theorem Ufr.trans {B : Nat} {a b c : World} (h : Ufr B a b) (k : Ufr B b c) : Ufr B a c := ⟨h.below.trans k.below, fun g t vs h1 h2 h3 hr => k.stay g t vs h1 h2 h3 (h.stay g t vs h1 h2 h3 hr)⟩
theorem Ufr.ext {B : Nat} {a b : World} (h : Ext a b) (hB : B ≤ a.heap.size) : Ufr B a b := ⟨Below.mono h hB, fun _ _ _ _ _ _ hr => hr.ext h⟩
def UPost (B g : Nat) (w : World) (r : Value) (D' : Dk) (e : Ending) (w' : World) : Prop := ∃ gl cl A c rest, e = .returned r ∧ RefAt B w' g gl cl A c rest D' ∧ Ufr B w w'
theorem own_rw {w : World} {B t size n c : Nat} {A : Option Addr} {xs : List Value} (h : w.ownsRow B t size (.slice A n c) n xs) (a : Addr) (ha : A = some a) : B ≤ a.block ∧ ∃ vs, Rw w a.block t vs := by
  rcases h.2 with ⟨hv, _⟩ | ⟨g, cap, cur, hv, hb, hg, _⟩
  · injection hv with h1
    rw [ha] at h1
    cases h1
  · injection hv with h1
    rw [ha] at h1
    injection h1 with h1
    subst h1
    exact ⟨hb, cur.toList, by unfold Rw; rw [hg]⟩
section
variable {B g gl cl c : Nat} {w w' : World} {A : Option Addr} {D D' : Dk} {rest : List Value}
theorem RefAt.ne (h : RefAt B w g gl cl A c rest D) : g ≠ gl ∧ (∀ a, A = some a → a.block ≠ g ∧ a.block ≠ gl) :=
  ⟨h.blk.apart h.dur (by decide), fun a ha => ⟨h.blk.apart_own h.pen (by decide) a ha, h.dur.apart_own h.pen (by decide) a ha⟩⟩
theorem RefAt.same (h : RefAt B w g gl cl A c rest D) (hk : ∀ k t vs, (t = 39 ∨ t = 9 ∨ t = 65) → Rw w k t vs → w'.heap[k]? = w.heap[k]?) : RefAt B w' g gl cl A c rest D :=
  ⟨(hk g _ _ (.inl rfl) h.blk).trans h.blk, (hk gl _ _ (.inr (.inl rfl)) h.dur).trans h.dur, ownsRow_far h.pen fun a ha => by
    obtain ⟨_, vs, hv⟩ := own_rw h.pen a ha
    exact hk _ _ _ (.inr (.inr rfl)) hv, h.base, h.cap⟩
theorem RefAt.ext (h : RefAt B w g gl cl A c rest D) (hx : Ext w w') : RefAt B w' g gl cl A c rest D := h.same fun k _ _ _ hr => Below.block hx k hr.lt
/-- The program's disk turns nothing of the document's. -/
theorem RefAt.dfr {g1 gd gn c1 : Nat} {A1 : Option Addr} {D1 : Dk} (h : RefAt B w g gl cl A c rest D) (hd : DiskAt B w g1 gd gn A1 c1 D1) (k : Dfr g1 gd gn A1 w w') : RefAt B w' g gl cl A c rest D :=
  h.same fun q t vs ht hr => k.other q hr.lt
    (fun e => by subst e; exact hr.apart hd.blk (by rcases ht with rfl | rfl | rfl <;> decide) rfl)
    (fun e => by subst e; exact hr.apart hd.dur (by rcases ht with rfl | rfl | rfl <;> decide) rfl)
    (fun e => by subst e; exact hr.apart hd.new (by rcases ht with rfl | rfl | rfl <;> decide) rfl)
    (fun a ha => hr.apart_own hd.pen (by rcases ht with rfl | rfl | rfl <;> decide) a ha)
/-- The document's calls turn nothing of the program's disk. -/
theorem DiskAt.ufr {g1 gd gn c1 : Nat} {A1 : Option Addr} {D1 : Dk} (h : DiskAt B w g1 gd gn A1 c1 D1) (k : Ufr B w w') : DiskAt B w' g1 gd gn A1 c1 D1 :=
  ⟨k.stay _ _ _ (by decide) (by decide) (by decide) h.blk, k.stay _ _ _ (by decide) (by decide) (by decide) h.dur, k.stay _ _ _ (by decide) (by decide) (by decide) h.new, ownsRow_far h.pen fun a ha => by
    obtain ⟨_, vs, hv⟩ := own_rw h.pen a ha
    exact (k.stay _ _ _ (by decide) (by decide) (by decide) hv).trans hv.symm, h.base⟩
theorem ref_cells (h : RefAt B w g gl cl A c rest D) : w.cell? ⟨g, 0, none⟩ = some (.slice (some ⟨gl, 0, none⟩) D.dur.length cl) ∧ w.cell? ⟨g, 1, none⟩ = some (.slice A D.pen.length c) ∧ w.cell? ⟨g, 2, none⟩ = some (.int .i64 (D.arm : Int)) ∧
    w.cell? ⟨g, 3, none⟩ = some (.bool D.off) ∧ w.cell? ⟨g, 4, none⟩ = some (.int .i64 (D.ops : Int)) :=
  ⟨h.blk.cell rfl, h.blk.cell rfl, h.blk.cell rfl, h.blk.cell rfl, h.blk.cell rfl⟩
theorem RefAt.put (h : RefAt B w g gl cl A c rest D) (i : Nat) (v : Value) (D' : Dk) (hd : D'.dur = D.dur) (hp : D'.pen = D.pen) (hl : (refC gl cl A c D).set i v = refC gl cl A c D') : RefAt B (w.setCell ⟨g, i, none⟩ v) g gl cl A c rest D' := by
  obtain ⟨n1, n2⟩ := h.ne
  refine ⟨by rw [← hl]; exact h.blk.set i v, by rw [hd]; exact h.dur.far (p := ⟨g, i, none⟩) n1.symm v, ?_, h.base, by rw [hd]; exact h.cap⟩
  rw [hp]
  exact ownsRow_far h.pen fun a ha => Below.heap_setCell w ⟨g, i, none⟩ v a.block (n2 a ha).1
theorem Ufr.cell (h : RefAt B w g gl cl A c rest D) (i : Nat) (v : Value) : Ufr B w (w.setCell ⟨g, i, none⟩ v) :=
  ⟨⟨rfl, rfl, rfl, by simp [World.setCell], fun k hk => Below.heap_setCell w ⟨g, i, none⟩ v k (fun e => by simp only at e; have := h.base.1; omega)⟩, fun k t vs h1 _ _ hr => hr.far (p := ⟨g, i, none⟩) (fun e => by simp only at e; subst e; exact hr.apart h.blk h1 rfl) v⟩
set_option maxRecDepth 20000 in
set_option maxHeartbeats 1600000 in
/-- One operation of the document's. -/
theorem rop_any (h : RefAt B w g gl cl A c rest D) (hoff : D.off = false) (ho : D.ops < 1000000) (ha : D.arm < 9223372036854775808) :
    Calls Try.prog 31 #[.pointer (some ⟨g, 0, none⟩)] w (UPost B g w (.bool D.op.off) D.op) := by
  obtain ⟨-, -, c2, c3, c4⟩ := ref_cells h
  rw [hoff] at c3
  have f4 := h.blk.frozen 4
  have h1 := h.put 4 (.int .i64 ((D.ops : Int) + 1)) { D with ops := D.ops + 1 } rfl rfl rfl
  have u1 := Ufr.cell h 4 (.int .i64 ((D.ops : Int) + 1))
  have f2 := h1.blk.frozen 2
  have f3 := h1.blk.frozen 3
  obtain ⟨-, -, d2, d3, d4⟩ := ref_cells h1
  simp only at d2 d3
  rw [hoff] at d3
  have hq : (D.ops : Int) < 1000000 := by omega
  by_cases h0 : D.arm = 0
  · have e : D.op = { D with ops := D.ops + 1 } := by unfold Dk.op; simp [h0]
    have HE : Hid (D.op.off = false) := hide (by rw [e]; exact hoff)
    have HL := hide (show RefAt B (w.setCell ⟨g, 4, none⟩ (.int .i64 ((D.ops : Int) + 1))) g gl cl A c rest D.op from by rw [e]; exact h1)
    have HU := hide u1
    rw [HE.out]
    rw [h0] at c2 d2
    generalize D.op = D' at *
    generalize D.ops = q at *
    clear h h1 u1 ha h0 e hoff
    go_enter Try.func31, Try.ntmps31
    go_wp2
    go_ret
    exact ⟨gl, cl, A, c, rest, rfl, HL.out, HU.out⟩
  · have h2 := h1.put 2 (.int .i64 ((D.arm : Int) - 1)) { D with ops := D.ops + 1, arm := D.arm - 1 } rfl rfl (by
      unfold refC
      simp only [List.set_cons_succ, List.set_cons_zero]
      rw [show ((D.arm - 1 : Nat) : Int) = (D.arm : Int) - 1 by omega])
    have u2 := Ufr.cell h1 2 (.int .i64 ((D.arm : Int) - 1))
    have g3 := h2.blk.frozen 3
    obtain ⟨-, -, e2, e3, -⟩ := ref_cells h2
    simp only at e2 e3
    rw [show ((D.arm - 1 : Nat) : Int) = (D.arm : Int) - 1 by omega] at e2
    rw [hoff] at e3
    have h3 := h2.put 3 (.bool ((D.arm : Int) - 1 == 0)) D.op rfl rfl (by
      unfold refC Dk.op
      simp only [List.set_cons_succ, List.set_cons_zero, hoff, Bool.false_or]
      rw [show ((D.arm : Int) - 1 == 0) = decide (D.arm = 1) by rw [Bool.eq_iff_iff]; simp; omega])
    have u3 := Ufr.cell h2 3 (.bool ((D.arm : Int) - 1 == 0))
    obtain ⟨-, -, -, k3, -⟩ := ref_cells h3
    have HL := hide h3
    have HU := hide ((u1.trans u2).trans u3)
    have hwm : IntKind.i64.wrap ((D.arm : Int) - 1) = (D.arm : Int) - 1 := by rw [IntKind.wrap_i64]; omega
    have hpos : (0 : Int) < (D.arm : Int) := by omega
    generalize D.op = D' at *
    generalize D.ops = q at *
    generalize D.arm = m at *
    clear h h1 h2 h3 u1 u2 u3 ha h0 hoff
    go_enter Try.func31, Try.ntmps31
    have HWM := hide hwm
    have HE2 := hide e2
    have HE3 := hide e3
    have HK3 := hide k3
    have HPOS := hide hpos
    clear hwm e2 e3 k3 hpos
    go_upto_region 2 with (fail)
    clear hq c4 c3 c2 f4 ho
    have hpos := HPOS.out
    go_upto_region 3 with (fail)
    clear hpos
    have hwm := HWM.out
    have e2 := HE2.out
    have e3 := HE3.out
    have k3 := HK3.out
    trace_state
    go_upto_region 4 with fail
    trace_state
    go_wp2
    go_ret
    exact ⟨gl, cl, A, c, rest, rfl, HL.out, HU.out⟩
end
end Go.Proofs.Ytmabminjmcjafaa
