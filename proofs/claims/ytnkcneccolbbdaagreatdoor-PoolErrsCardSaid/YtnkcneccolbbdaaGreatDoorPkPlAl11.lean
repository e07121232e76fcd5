/-
  The laws' world beside any blocks of theirs, which stay through the pool's calls.
  The law's model of a pool in memory; pinned, may.
  The model's write.
  The law's walk over the sectors: no page ahead of its records (beside any blocks of the law's).
  The model's dirty.
  The model's lasts.
-/
import Derived.Test.YtnkcneccolbbdaaGreatDoorPkPlAl0
import Derived.Test.YtnkcneccolbbdaaGreatDoorPkPlAl2
import Derived.Test.YtnkcneccolbbdaaGreatDoorPkPlAl3
import Derived.Test.YtnkcneccolbbdaaGreatDoorPkPlAl4
import Derived.Test.YtnkcneccolbbdaaGreatDoorPkPlAl8
import Derived.Test.YtnkcneccolbbdaaGreatDoorPkPlAl9
import Derived.Test.YtnkcneccolbbdaaGreatDoorPkPlAl10
set_option linter.unusedVariables false
set_option linter.unusedSimpArgs false

namespace Go.Proofs.YtnkcneccolbbdaaGreatDoor
open Go.RowKit

/-- These blocks are none of the pool's, and are as they were in wr. -/
def Kp (K : Nat → Prop) (wr w : World) (Z : Pk) (P : Pl) : Prop := ∀ k, K k → k < w.heap.size ∧ ¬ Z.has P k ∧ w.heap[k]? = wr.heap[k]?
theorem Kp.ext {K : Nat → Prop} {wr w w' : World} {Z : Pk} {P : Pl} (h : Kp K wr w Z P) (hx : Ext w w') : Kp K wr w' Z P := fun k hk => ⟨Nat.lt_of_lt_of_le (h k hk).1 hx.size, (h k hk).2.1, (Below.block hx k (h k hk).1).trans (h k hk).2.2⟩
theorem Kp.later {K : Nat → Prop} {wr w w' : World} {Z Z' : Pk} {P P' : Pl} (h : Kp K wr w Z P) (k2 : Pfr Z P w w') (k3 : Z'.Later P' Z P w) : Kp K wr w' Z' P' := fun k hk => by
  obtain ⟨h1, h2, h3⟩ := h k hk
  refine ⟨Nat.lt_of_lt_of_le h1 k2.size, fun hh => ?_, (k2.other k h1 h2).trans h3⟩
  rcases k3.has k hh with h4 | h4
  · exact h2 h4
  · omega
def Wk (w0 w : World) (b g q p : Nat) (K : Nat → Prop) (wr : World) (S : St) : Prop := ∃ Z, PlAt w0 w Z S.D S.L S.P ∧ Z.X.g = g ∧ Z.X.q = q ∧ Z.q = p ∧ Rw w b 43 [.pointer (some ⟨g, 0, none⟩), .pointer (some ⟨q, 0, none⟩), .pointer (some ⟨p, 0, none⟩)] ∧ Kp K wr w Z S.P
def WK (w0 : World) (b g q p : Nat) (K : Nat → Prop) (wr : World) (r : Value) (S' : St) (e : Ending) (w' : World) : Prop := e = .returned r ∧ Wk w0 w' b g q p K wr S'
section
variable {w0 w w' wr : World} {b g q p c : Nat} {K : Nat → Prop} {S S' : St} {r : Value}
theorem Wk.ext (h : Wk w0 w b g q p K wr S) : Ext w0 w := by obtain ⟨Z, h1, -⟩ := h; exact h1.log.ext
theorem Wk.ext_ (h : Wk w0 w b g q p K wr S) (hx : Ext w w') : Wk w0 w' b g q p K wr S := by
  obtain ⟨Z, h1, h2, h3, h4, h5, h6⟩ := h
  exact ⟨Z, h1.ext_ hx, h2, h3, h4, h5.ext hx, h6.ext hx⟩
theorem Wk.c0 (h : Wk w0 w b g q p K wr S) : w.cell? ⟨b, 0, none⟩ = some (.pointer (some ⟨g, 0, none⟩)) := by obtain ⟨Z, h1, h2, h3, h4, h5, h6⟩ := h; exact h5.cell (i := 0) rfl
theorem Wk.c1 (h : Wk w0 w b g q p K wr S) : w.cell? ⟨b, 1, none⟩ = some (.pointer (some ⟨q, 0, none⟩)) := by obtain ⟨Z, h1, h2, h3, h4, h5, h6⟩ := h; exact h5.cell (i := 1) rfl
theorem Wk.c2 (h : Wk w0 w b g q p K wr S) : w.cell? ⟨b, 2, none⟩ = some (.pointer (some ⟨p, 0, none⟩)) := by obtain ⟨Z, h1, h2, h3, h4, h5, h6⟩ := h; exact h5.cell (i := 2) rfl
theorem Wk.later {Z Z' : Pk} {P : Pl} (h1 : PlAt w0 w Z S.D S.L P) (h2 : Z.X.g = g) (h3 : Z.X.q = q) (h4 : Z.q = p) (h5 : Rw w b 43 [.pointer (some ⟨g, 0, none⟩), .pointer (some ⟨q, 0, none⟩), .pointer (some ⟨p, 0, none⟩)]) (h6 : Kp K wr w Z P)
    (k1 : PlAt w0 w' Z' S'.D S'.L S'.P) (k2 : Pfr Z P w w') (k3 : Z'.Later S'.P Z P w) : Wk w0 w' b g q p K wr S' := ⟨Z', k1, k3.X.g.trans h2, k3.X.q.trans h3, k3.q.trans h4, Pfr.world h1 k2 h5, h6.later k2 k3⟩
theorem wk_append (h : Wk w0 w b g q p K wr S) (ft : S.Fit c) (o : Obj) (l : List UInt8) (n cc : Nat) (hr : Rd (w.alloc o) (some ⟨w.heap.size, 0, none⟩) l) (hn : l.length = n) (h1 : 0 < n) (h2 : n ≤ 1200) (hst : S.L.hd.st < 576460752303423488) (hroom : (0 : Int) ≤ roomOf S.L - 2 - (n : Int)) :
    Calls Tryz.prog 19 #[.pointer (some ⟨q, 0, none⟩), .slice (some ⟨w.heap.size, 0, none⟩) n cc, .int .i64 0] (w.alloc o) (WK w0 b g q p K wr (.tuple #[.int .u64 (endOf S.L : Int), .int .i64 0]) (apS S l)) := by
  obtain ⟨Z, k1, k2, k3, k4, k5, k6⟩ := h
  subst k3
  refine (pappend_any (k1.ext_ (Ext.alloc w o)) ft (some ⟨w.heap.size, 0, none⟩) cc n l hr hn h1 h2 (fun a ha => by injection ha with ha; subst ha; exact ⟨new_notP k1, by simp⟩) hst hroom).mono fun e w' hh => ?_
  obtain ⟨Z', he, -, hl, hf, hn2⟩ := hh
  exact ⟨he, Wk.later (S' := apS S l) (k1.ext_ (Ext.alloc w o)) k2 rfl k4 (k5.ext (Ext.alloc w o)) (k6.ext (Ext.alloc w o)) hl hf hn2⟩
theorem wk_write (h : Wk w0 w b g q p K wr S) (ft : S.Fit c) (hc : c ≤ 400000) (hT : Tab w0) (x : Int) (S1 : St) (hp : pageR S x = (0, S1)) (o : Obj) (off : Nat) (m : List UInt8) (n cc : Nat) (hr : Rd (w.alloc o) (some ⟨w.heap.size, 0, none⟩) m) (hn : m.length = n) (hm : off + n ≤ 504) (lsn : Nat) :
    Calls Tryz.prog 15 #[.pointer (some ⟨p, 0, none⟩), .int .i64 x, .int .i64 (off : Int), .slice (some ⟨w.heap.size, 0, none⟩) n cc, .int .u64 (lsn : Int)] (w.alloc o) (fun e w' => ∃ f, S1.P.H x.toNat = some f ∧ WK w0 b g q p K wr (.int .i64 0) (setS S1 x.toNat (chF f off m lsn)) e w') := by
  obtain ⟨Z, k1, k2, k3, k4, k5, k6⟩ := h
  subst k4
  refine (pwrite_ok (k1.ext_ (Ext.alloc w o)) ft hc hT x S1 hp off (some ⟨w.heap.size, 0, none⟩) m n cc hn hm hr (fun a ha => by injection ha with ha; subst ha; exact ⟨new_notP k1, by simp⟩) lsn).mono fun e w' hh => ?_
  obtain ⟨f, hf, Z', he, hl, hpf, hn2⟩ := hh
  exact ⟨f, hf, he, Wk.later (k1.ext_ (Ext.alloc w o)) k2 k3 rfl (k5.ext (Ext.alloc w o)) (k6.ext (Ext.alloc w o)) hl hpf hn2⟩
theorem wk_read (h : Wk w0 w b g q p K wr S) (ft : S.Fit c) (hc : c ≤ 400000) (hT : Tab w0) (x : Int) (S1 : St) (hp : pageR S x = (0, S1)) :
    Calls Tryz.prog 16 #[.pointer (some ⟨p, 0, none⟩), .int .i64 x] w (fun e w' => ∃ f A cc, S1.P.H x.toNat = some f ∧ e = .returned (.tuple #[.slice A 504 cc, .int .u64 (f.last : Int), .int .i64 0]) ∧ Rd w' A f.by_ ∧ Wk w0 w' b g q p K wr S1) := by
  obtain ⟨Z, k1, k2, k3, k4, k5, k6⟩ := h
  subst k4
  refine (pread_ok k1 ft hc hT x S1 hp).mono fun e w' hh => ?_
  obtain ⟨f, Z', A, cc, hf, he, hrd, -, hl, hpf, hn2⟩ := hh
  exact ⟨f, A, cc, hf, he, hrd, Wk.later k1 k2 k3 rfl k5 k6 hl hpf hn2⟩
theorem wk_read_not (h : Wk w0 w b g q p K wr S) (ft : S.Fit c) (hc : c ≤ 400000) (hT : Tab w0) (x er : Int) (S1 : St) (hp : pageR S x = (er, S1)) (he0 : er ≠ 0) :
    Calls Tryz.prog 16 #[.pointer (some ⟨p, 0, none⟩), .int .i64 x] w (WK w0 b g q p K wr (.tuple #[.slice none 0 0, .int .u64 0, .int .i64 er]) S1) := by
  obtain ⟨Z, k1, k2, k3, k4, k5, k6⟩ := h
  subst k4
  refine (pread_not k1 ft hc hT x er S1 hp he0).mono fun e w' hh => ?_
  obtain ⟨Z', he, hl, hpf, hn2⟩ := hh
  exact ⟨he, Wk.later k1 k2 k3 rfl k5 k6 hl hpf hn2⟩
theorem wk_pin (h : Wk w0 w b g q p K wr S) (ft : S.Fit c) (hc : c ≤ 400000) (hT : Tab w0) (x : Int) (S1 : St) (hp : pageR S x = (0, S1)) :
    Calls Tryz.prog 17 #[.pointer (some ⟨p, 0, none⟩), .int .i64 x] w (fun e w' => ∃ f, S1.P.H x.toNat = some f ∧ WK w0 b g q p K wr (.int .i64 0) (setS S1 x.toNat { f with pins := f.pins + 1 }) e w') := by
  obtain ⟨Z, k1, k2, k3, k4, k5, k6⟩ := h
  subst k4
  refine (pin_ok k1 ft hc hT x S1 hp).mono fun e w' hh => ?_
  obtain ⟨f, hf, Z', he, hl, hpf, hn2⟩ := hh
  exact ⟨f, hf, he, Wk.later k1 k2 k3 rfl k5 k6 hl hpf hn2⟩
theorem wk_unpin (h : Wk w0 w b g q p K wr S) (ft : S.Fit c) (i : Nat) (hi : i < S.P.pages) :
    Calls Tryz.prog 18 #[.pointer (some ⟨p, 0, none⟩), .int .i64 (i : Int)] w (WK w0 b g q p K wr (.int .i64 (unpE S.P i)) (unpS S i)) := by
  obtain ⟨Z, k1, k2, k3, k4, k5, k6⟩ := h
  subst k4
  refine (unpin_any k1 ft i hi).mono fun e w' hh => ?_
  obtain ⟨Z', he, hl, hpf, hn2⟩ := hh
  refine ⟨he, Wk.later k1 k2 k3 rfl k5 k6 ?_ hpf hn2⟩
  rw [(unpS_is S i).1, (unpS_is S i).2]
  exact hl
theorem wk_len (h : Wk w0 w b g q p K wr S) : Calls Tryz.prog 9 #[.pointer (some ⟨p, 0, none⟩)] w (Same w (.int .i64 (S.P.n : Int))) := by
  obtain ⟨Z, k1, k2, k3, k4, k5, k6⟩ := h
  subst k4
  exact plen_any k1
theorem wk_sure (h : Wk w0 w b g q p K wr S) : Calls Tryz.prog 20 #[.pointer (some ⟨q, 0, none⟩)] w (Same w (.int .u64 (S.L.sure : Int))) := by
  obtain ⟨Z, k1, k2, k3, k4, k5, k6⟩ := h
  subst k3
  exact lsure_any k1.log
theorem wk_write_out (h : Wk w0 w b g q p K wr S) (ft : S.Fit c) (hc : c ≤ 400000) (hT : Tab w0) (x : Int) (S1 : St) (hp : pageR S x = (0, S1)) (off : Nat) (A : Option Addr) (m : List UInt8) (n cc : Nat) (hr : Rd w0 A m) (hn : m.length = n) (hm : off + n ≤ 504) (lsn : Nat) :
    Calls Tryz.prog 15 #[.pointer (some ⟨p, 0, none⟩), .int .i64 x, .int .i64 (off : Int), .slice A n cc, .int .u64 (lsn : Int)] w (fun e w' => ∃ f, S1.P.H x.toNat = some f ∧ WK w0 b g q p K wr (.int .i64 0) (setS S1 x.toNat (chF f off m lsn)) e w') := by
  obtain ⟨Z, k1, k2, k3, k4, k5, k6⟩ := h
  subst k4
  refine (pwrite_gen k1 ft hc hT x S1 hp off A m n cc hn hm (fun w' hw => hr.ext (Pfr.grown k1 hw)) lsn).mono fun e w' hh => ?_
  obtain ⟨f, hf, Z', he, hl, hpf, hn2⟩ := hh
  exact ⟨f, hf, he, Wk.later k1 k2 k3 rfl k5 k6 hl hpf hn2⟩
theorem wk_pin_not (h : Wk w0 w b g q p K wr S) (ft : S.Fit c) (hc : c ≤ 400000) (hT : Tab w0) (x er : Int) (S1 : St) (hp : pageR S x = (er, S1)) (he0 : er ≠ 0) :
    Calls Tryz.prog 17 #[.pointer (some ⟨p, 0, none⟩), .int .i64 x] w (WK w0 b g q p K wr (.int .i64 er) S1) := by
  obtain ⟨Z, k1, k2, k3, k4, k5, k6⟩ := h
  subst k4
  refine (pin_not k1 ft hc hT x er S1 hp he0).mono fun e w' hh => ?_
  obtain ⟨Z', he, hl, hpf, hn2⟩ := hh
  exact ⟨he, Wk.later k1 k2 k3 rfl k5 k6 hl hpf hn2⟩
theorem wk_write_not (h : Wk w0 w b g q p K wr S) (ft : S.Fit c) (hc : c ≤ 400000) (hT : Tab w0) (x er : Int) (S1 : St) (hp : pageR S x = (er, S1)) (he0 : er ≠ 0) (off : Nat) (A : Option Addr) (n cc : Nat) (hm : off + n ≤ 504) (lsn : Int) :
    Calls Tryz.prog 15 #[.pointer (some ⟨p, 0, none⟩), .int .i64 x, .int .i64 (off : Int), .slice A n cc, .int .u64 lsn] w (WK w0 b g q p K wr (.int .i64 er) S1) := by
  obtain ⟨Z, k1, k2, k3, k4, k5, k6⟩ := h
  subst k4
  refine (pwrite_not k1 ft hc hT x er S1 hp he0 off A n cc hm lsn).mono fun e w' hh => ?_
  obtain ⟨Z', he, hl, hpf, hn2⟩ := hh
  exact ⟨he, Wk.later k1 k2 k3 rfl k5 k6 hl hpf hn2⟩
theorem wk_dread (h : Wk w0 w b g q p K wr S) (bd : Bd S.D) (i : Int) : Calls Tryz.prog 27 #[.pointer (some ⟨g, 0, none⟩), .int .i64 i] w (fun e w' => ∃ A n c, e = .returned (.tuple #[.slice A n c, .int .i64 (gE S.D i)]) ∧ n = (gB S.D i).length ∧ n ≤ c ∧ Rd w' A (gB S.D i) ∧ Ext w w') := by
  obtain ⟨Z, k1, k2, k3, k4, k5, k6⟩ := h
  subst k2
  refine (read_new k1.log.disk bd i).mono fun e w' hh => ?_
  obtain ⟨A, n, c, he, hn, hc, hr, -, hx⟩ := hh
  exact ⟨A, n, c, he, hn, hc, hr, hx⟩
theorem wk_flush (h : Wk w0 w b g q p K wr S) (ft : S.Fit c) (hc : c + S.P.n * (S.L.hd.cn + 3) ≤ 300000) (hT : Tab w0) (hoff : S.D.off = false) : Calls Tryz.prog 11 #[.pointer (some ⟨p, 0, none⟩)] w (fun e w' => ∃ zs, ChL S.P zs ∧ zs.length ≤ S.P.n ∧ WK w0 b g q p K wr (.int .i64 (pflR zs S).1) (pflR zs S).2 e w') := by
  obtain ⟨Z, k1, k2, k3, k4, k5, k6⟩ := h
  subst k4
  refine (pflush_any k1 ft hc hT hoff).mono fun e w' hh => ?_
  obtain ⟨zs, hz, hzn, Z', he, hl, hpf, hn2⟩ := hh
  exact ⟨zs, hz, hzn, he, Wk.later k1 k2 k3 rfl k5 k6 hl hpf hn2⟩
theorem wk_lflush (h : Wk w0 w b g q p K wr S) (ft : S.Fit c) (hc : c ≤ 400000) (hT : Tab w0) : Calls Tryz.prog 26 #[.pointer (some ⟨q, 0, none⟩)] w (WK w0 b g q p K wr (.int .i64 (flE S.D S.L)) ⟨flD S.D S.L, flL S.D S.L, S.P⟩) := by
  obtain ⟨Z, k1, k2, k3, k4, k5, k6⟩ := h
  subst k3
  refine (flush_any k1.log ft.log ft.bd (by have := ft.pen; omega) (by have := ft.ops; omega) (by have := ft.tail; have := ft.log.cn; omega) hT).mono fun e w' hh => ?_
  obtain ⟨Z', he, hq, hfb, hl, hpf, hn2⟩ := k1.of_logE hh
  exact ⟨he, Wk.later (S' := ⟨flD S.D S.L, flL S.D S.L, S.P⟩) k1 k2 rfl k4 k5 k6 hl hpf hn2⟩
/-- A contract for the sorting of dirty pages. -/
def SortC : Prop := ∀ W B v zs, OwnD W B v zs → zs.length < 1000000 → Calls Tryz.prog 34 #[v, .func (.func 35) #[] #[]] W (SortD W v zs)
theorem wk_dirty (h : Wk w0 w b g q p K wr S) (ft : S.Fit c) (hc : c < 100000) (hs : SortC) : Calls Tryz.prog 12 #[.pointer (some ⟨p, 0, none⟩)] w (fun e w' => ∃ A cc zs, e = .returned (.slice A zs.length cc) ∧ DiL (settleP S.L S.P) zs ∧ DRow w' A zs ∧ Wk w0 w' b g q p K wr { S with P := settleP S.L S.P }) := by
  obtain ⟨Z, k1, k2, k3, k4, k5, k6⟩ := h
  subst k4
  refine (dirty_any k1 ft.pool (by have := ft.wcnt; omega) hs).mono fun e w' hh => ?_
  obtain ⟨A, cc, zs, he, hz, hl, hpf, hd⟩ := hh
  exact ⟨A, cc, zs, he, hz, hd, Wk.later (S' := { S with P := settleP S.L S.P }) k1 k2 k3 rfl k5 k6 hl hpf (Pk.Later.refl' (settleP_is S.L S.P).1)⟩
/-- The law's own blocks turn: the pool stays. -/
theorem Wk.turn {K' : Nat → Prop} (h : Wk w0 w b g q p K wr S) (h1 : w'.os = w.os) (h2 : w'.tape = w.tape) (h3 : w'.output = w.output) (h4 : w.heap.size ≤ w'.heap.size) (h5 : ∀ k, k < w.heap.size → ¬ K k → w'.heap[k]? = w.heap[k]?) (hb : ¬ K b) (hB : ∀ k, K k → w0.heap.size ≤ k) (hK : ∀ k, K' k → K k ∨ (w.heap.size ≤ k ∧ k < w'.heap.size)) : Wk w0 w' b g q p K' w' S := by
  obtain ⟨Z, k1, k2, k3, k4, k5, k6⟩ := h
  have hx : Ext w0 w' := ⟨h1.trans k1.log.ext.os, h2.trans k1.log.ext.tape, h3.trans k1.log.ext.output, Nat.le_trans k1.log.ext.size h4, fun k hk => (h5 k (Nat.lt_of_lt_of_le hk k1.log.ext.size) (fun hh => by have := hB k hh; omega)).trans (Below.block k1.log.ext k hk)⟩
  refine ⟨Z, k1.keep hx fun k hk => h5 k (k1.has_lt hk) (fun hh => (k6 k hh).2.1 hk), k2, k3, k4, (h5 b k5.lt hb).trans k5, fun k hk => ?_⟩
  rcases hK k hk with h6 | ⟨h6, h7⟩
  · exact ⟨Nat.lt_of_lt_of_le (k6 k h6).1 h4, (k6 k h6).2.1, rfl⟩
  · exact ⟨h7, fun hh => by have := k1.has_lt hh; omega, rfl⟩
theorem Wk.same (h : Wk w0 w b g q p K wr S) : ∀ k, K k → k < w.heap.size ∧ w.heap[k]? = wr.heap[k]? := fun k hk => by
  obtain ⟨Z, k1, k2, k3, k4, k5, k6⟩ := h
  exact ⟨(k6 k hk).1, (k6 k hk).2.2⟩
theorem Wk.here (h : Wk w0 w b g q p K wr S) : Wk w0 w b g q p K w S := by
  obtain ⟨Z, k1, k2, k3, k4, k5, k6⟩ := h
  exact ⟨Z, k1, k2, k3, k4, k5, fun k hk => ⟨(k6 k hk).1, (k6 k hk).2.1, rfl⟩⟩
theorem wk_of (h : Wd w0 w b g q p S) : Wk w0 w b g q p (fun _ => False) w S := by
  obtain ⟨Z, k1, k2, k3, k4, k5⟩ := h
  exact ⟨Z, k1, k2, k3, k4, k5, fun k hk => hk.elim⟩
theorem wk_restart (h : Wk w0 w b g q p K wr S) (bd : Bd S.D) : Calls Tryz.prog 37 #[.pointer (some ⟨g, 0, none⟩), .slice none 0 0] w (WK w0 b g q p K wr (.int .i64 0) { S with D := S.D.fallen [] }) := by
  obtain ⟨Z, k1, k2, k3, k4, k5, k6⟩ := h
  subst k2
  refine (restart_any (ck := 0) (P := none) k1.log.disk bd.ok bd.pen k1.log.ext.size [] (fun W hW hn => absurd rfl hn)).mono fun e w' hh => ?_
  obtain ⟨Z', he, hq, hfb, hl, hpf, hn2⟩ := k1.of_logE (LPost.of_disk k1.log hh)
  exact ⟨he, Wk.later (S' := { S with D := S.D.fallen [] }) k1 rfl k3 k4 k5 k6 hl hpf hn2⟩
end
end Go.Proofs.YtnkcneccolbbdaaGreatDoor
namespace Go.Proofs.YtnkcneccolbbdaaGreatDoor
open Go.RowKit

/-- The model's blocks: the struct, the rows of its four slices. -/
structure Mb where
  gm : Nat
  bl : Nat
  bs : Nat
  bp : Nat
  bz : Nat
  cl : Nat
  cs : Nat
  cp : Nat
  cz : Nat
  xs : List (Nat × TypeId × List Value)
def Mb.C (m : Mb) (n most : Nat) : List Value := [.slice (some ⟨m.bl, 0, none⟩) n m.cl, .slice (some ⟨m.bs, 0, none⟩) n m.cs, .slice (some ⟨m.bp, 0, none⟩) n m.cp, .slice (some ⟨m.bz, 0, none⟩) n m.cz, .int .i64 (most : Int)]
structure Mo (w : World) (m : Mb) (K : Nat → Prop) (n most : Nat) (l : Nat → List UInt8 × Nat) (pins : Nat → Nat) : Prop where
  blk : Rw w m.gm 29 (m.C n most)
  rl : ∃ X, Rw w m.bl 32 X ∧ ∀ j, j < n → ∃ g c, X[j]? = some (.slice (some ⟨g, 0, none⟩) 504 c) ∧ Rd w (some ⟨g, 0, none⟩) (l j).1 ∧ K g ∧ g ≠ m.gm ∧ g ≠ m.bl ∧ g ≠ m.bs ∧ g ≠ m.bp ∧ g ≠ m.bz
  rs : ∃ X, Rw w m.bs 33 X ∧ ∀ j, j < n → X[j]? = some (.int .u64 ((l j).2 : Int))
  rp : ∃ X, Rw w m.bp 3 X ∧ ∀ j, j < n → X[j]? = some (.int .i64 (pins j : Int))
  rz : ∃ X, Rw w m.bz 33 X ∧ ∀ j, j < n → ∃ s : Nat, X[j]? = some (.int .u64 (s : Int))
  ne : m.bs ≠ m.bz
  K1 : K m.gm
  K2 : K m.bl
  K3 : K m.bs
  K4 : K m.bp
  K5 : K m.bz
  len : ∀ j, j < n → (l j).1.length = 504
  xt : ∀ a, a ∈ m.xs → K a.1 ∧ Rw w a.1 a.2.1 a.2.2 ∧ a.1 ≠ m.gm ∧ a.1 ≠ m.bl ∧ a.1 ≠ m.bs ∧ a.1 ≠ m.bp ∧ a.1 ≠ m.bz
section
variable {w w' : World} {m : Mb} {K K' : Nat → Prop} {n most : Nat} {l : Nat → List UInt8 × Nat} {pins : Nat → Nat}
theorem Rd.of_block {x : List UInt8} {g : Nat} (h : Rd w (some ⟨g, 0, none⟩) x) (hk : w'.heap[g]? = w.heap[g]?) : Rd w' (some ⟨g, 0, none⟩) x := fun hn => by
  obtain ⟨b, off, hA, hc⟩ := h hn
  injection hA with hA
  injection hA with e1 e2
  subst e1 e2
  exact ⟨_, _, rfl, fun j u hu => (World.cell?_of_block hk).trans (hc j u hu)⟩
theorem Mo.keep (h : Mo w m K n most l pins) (hk : ∀ k, K k → w'.heap[k]? = w.heap[k]?) : Mo w' m K n most l pins := by
  obtain ⟨X1, r1, f1⟩ := h.rl
  obtain ⟨X2, r2, f2⟩ := h.rs
  obtain ⟨X3, r3, f3⟩ := h.rp
  obtain ⟨X4, r4, f4⟩ := h.rz
  exact ⟨(hk _ h.K1).trans h.blk, ⟨X1, (hk _ h.K2).trans r1, fun j hj => by
    obtain ⟨g, c, a1, a2, a3, a4⟩ := f1 j hj
    exact ⟨g, c, a1, a2.of_block (hk g a3), a3, a4⟩⟩, ⟨X2, (hk _ h.K3).trans r2, f2⟩, ⟨X3, (hk _ h.K4).trans r3, f3⟩, ⟨X4, (hk _ h.K5).trans r4, f4⟩, h.ne, h.K1, h.K2, h.K3, h.K4, h.K5, h.len, fun a ha => ⟨(h.xt a ha).1, (hk _ (h.xt a ha).1).trans (h.xt a ha).2.1, (h.xt a ha).2.2⟩⟩
theorem Mo.lt (h : Mo w m K n most l pins) : m.gm < w.heap.size ∧ m.bl < w.heap.size ∧ m.bs < w.heap.size ∧ m.bp < w.heap.size ∧ m.bz < w.heap.size := by
  obtain ⟨X1, r1, f1⟩ := h.rl
  obtain ⟨X2, r2, f2⟩ := h.rs
  obtain ⟨X3, r3, f3⟩ := h.rp
  obtain ⟨X4, r4, f4⟩ := h.rz
  exact ⟨h.blk.lt, r1.lt, r2.lt, r3.lt, r4.lt⟩
theorem Mo.c0 (h : Mo w m K n most l pins) : w.cell? ⟨m.gm, 0, none⟩ = some (.slice (some ⟨m.bl, 0, none⟩) n m.cl) := h.blk.cell (i := 0) rfl
theorem Mo.c1 (h : Mo w m K n most l pins) : w.cell? ⟨m.gm, 1, none⟩ = some (.slice (some ⟨m.bs, 0, none⟩) n m.cs) := h.blk.cell (i := 1) rfl
theorem Mo.c2 (h : Mo w m K n most l pins) : w.cell? ⟨m.gm, 2, none⟩ = some (.slice (some ⟨m.bp, 0, none⟩) n m.cp) := h.blk.cell (i := 2) rfl
theorem Mo.c3 (h : Mo w m K n most l pins) : w.cell? ⟨m.gm, 3, none⟩ = some (.slice (some ⟨m.bz, 0, none⟩) n m.cz) := h.blk.cell (i := 3) rfl
theorem Mo.c4 (h : Mo w m K n most l pins) : w.cell? ⟨m.gm, 4, none⟩ = some (.int .i64 (most : Int)) := h.blk.cell (i := 4) rfl
theorem Mo.s (h : Mo w m K n most l pins) {j : Nat} (hj : j < n) : w.cell? ⟨m.bs, j, none⟩ = some (.int .u64 ((l j).2 : Int)) := by
  obtain ⟨X, r, f⟩ := h.rs
  exact r.cell (f j hj)
theorem Mo.p (h : Mo w m K n most l pins) {j : Nat} (hj : j < n) : w.cell? ⟨m.bp, j, none⟩ = some (.int .i64 (pins j : Int)) := by
  obtain ⟨X, r, f⟩ := h.rp
  exact r.cell (f j hj)
theorem Mo.z (h : Mo w m K n most l pins) {j : Nat} (hj : j < n) : ∃ s : Nat, w.cell? ⟨m.bz, j, none⟩ = some (.int .u64 (s : Int)) := by
  obtain ⟨X, r, f⟩ := h.rz
  obtain ⟨s, hs⟩ := f j hj
  exact ⟨s, r.cell hs⟩
theorem Mo.pg (h : Mo w m K n most l pins) {j : Nat} (hj : j < n) : ∃ g c, w.cell? ⟨m.bl, j, none⟩ = some (.slice (some ⟨g, 0, none⟩) 504 c) ∧ Rd w (some ⟨g, 0, none⟩) (l j).1 := by
  obtain ⟨X, r, f⟩ := h.rl
  obtain ⟨g, c, a1, a2, -⟩ := f j hj
  exact ⟨g, c, r.cell a1, a2⟩
theorem mset_get {X : List Value} {i j : Nat} {v : Value} (hi : ∃ u, X[i]? = some u) : (X.set i v)[j]? = if j = i then some v else X[j]? := by
  obtain ⟨u, hu⟩ := hi
  have := (List.getElem?_eq_some_iff.1 hu).1
  by_cases e : j = i
  · subst e
    rw [if_pos rfl, List.getElem?_set_self this]
  · rw [if_neg e, List.getElem?_set_ne (fun h => e h.symm)]
theorem apart_of {t t' : Nat} {b b' : Nat} {X X' : List Value} (h : Rw w b t X) (h' : Rw w b' t' X') (ht : t ≠ t') : b ≠ b' := h.apart h' ht
theorem cell_other {b i k : Nat} {v : Value} (h : k ≠ b) : (w.setCell ⟨b, i, none⟩ v).heap[k]? = w.heap[k]? := Below.heap_setCell w ⟨b, i, none⟩ v k h
/-- How often a page is pinned, written. -/
theorem Mo.putP (h : Mo w m K n most l pins) {i : Nat} (hi : i < n) (x : Nat) : Mo (w.setCell ⟨m.bp, i, none⟩ (.int .i64 (x : Int))) m K n most l (fun j => if j = i then x else pins j) := by
  obtain ⟨X1, r1, f1⟩ := h.rl
  obtain ⟨X2, r2, f2⟩ := h.rs
  obtain ⟨X3, r3, f3⟩ := h.rp
  obtain ⟨X4, r4, f4⟩ := h.rz
  have n0 : m.gm ≠ m.bp := apart_of h.blk r3 (by decide)
  have n1 : m.bl ≠ m.bp := apart_of r1 r3 (by decide)
  have n2 : m.bs ≠ m.bp := apart_of r2 r3 (by decide)
  have n4 : m.bz ≠ m.bp := apart_of r4 r3 (by decide)
  exact ⟨(cell_other n0).trans h.blk, ⟨X1, (cell_other n1).trans r1, fun j hj => by
    obtain ⟨g, c, a1, a2, a3, a4, a5, a6, a7, a8⟩ := f1 j hj
    exact ⟨g, c, a1, a2.of_block (cell_other a7), a3, a4, a5, a6, a7, a8⟩⟩, ⟨X2, (cell_other n2).trans r2, f2⟩, ⟨X3.set i _, r3.set i _, fun j hj => by
    rw [mset_get ⟨_, f3 i hi⟩]
    by_cases e : j = i
    · rw [if_pos e, if_pos e]
    · rw [if_neg e, if_neg e]; exact f3 j hj⟩, ⟨X4, (cell_other n4).trans r4, f4⟩, h.ne, h.K1, h.K2, h.K3, h.K4, h.K5, h.len, fun a ha => by
    obtain ⟨q1, q2, q3, q4, q5, q6, q7⟩ := h.xt a ha
    exact ⟨q1, (cell_other q6).trans q2, q3, q4, q5, q6, q7⟩⟩
/-- Since when it is dirty, written. -/
theorem Mo.putZ (h : Mo w m K n most l pins) {i : Nat} (hi : i < n) (x : Nat) : Mo (w.setCell ⟨m.bz, i, none⟩ (.int .u64 (x : Int))) m K n most l pins := by
  obtain ⟨X1, r1, f1⟩ := h.rl
  obtain ⟨X2, r2, f2⟩ := h.rs
  obtain ⟨X3, r3, f3⟩ := h.rp
  obtain ⟨X4, r4, f4⟩ := h.rz
  have n0 : m.gm ≠ m.bz := apart_of h.blk r4 (by decide)
  have n1 : m.bl ≠ m.bz := apart_of r1 r4 (by decide)
  have n3 : m.bp ≠ m.bz := apart_of r3 r4 (by decide)
  exact ⟨(cell_other n0).trans h.blk, ⟨X1, (cell_other n1).trans r1, fun j hj => by
    obtain ⟨g, c, a1, a2, a3, a4, a5, a6, a7, a8⟩ := f1 j hj
    exact ⟨g, c, a1, a2.of_block (cell_other a8), a3, a4, a5, a6, a7, a8⟩⟩, ⟨X2, (cell_other h.ne).trans r2, f2⟩, ⟨X3, (cell_other n3).trans r3, f3⟩, ⟨X4.set i _, r4.set i _, fun j hj => by
    obtain ⟨u, hu⟩ := f4 i hi
    rw [mset_get ⟨_, hu⟩]
    by_cases e : j = i
    · rw [if_pos e]; exact ⟨x, rfl⟩
    · rw [if_neg e]; exact f4 j hj⟩, h.ne, h.K1, h.K2, h.K3, h.K4, h.K5, h.len, fun a ha => by
    obtain ⟨q1, q2, q3, q4, q5, q6, q7⟩ := h.xt a ha
    exact ⟨q1, (cell_other q7).trans q2, q3, q4, q5, q6, q7⟩⟩
/-- A page's record, written. -/
theorem Mo.putS (h : Mo w m K n most l pins) {i : Nat} (hi : i < n) (x : Nat) : Mo (w.setCell ⟨m.bs, i, none⟩ (.int .u64 (x : Int))) m K n most (fun j => if j = i then ((l j).1, x) else l j) pins := by
  obtain ⟨X1, r1, f1⟩ := h.rl
  obtain ⟨X2, r2, f2⟩ := h.rs
  obtain ⟨X3, r3, f3⟩ := h.rp
  obtain ⟨X4, r4, f4⟩ := h.rz
  have n0 : m.gm ≠ m.bs := apart_of h.blk r2 (by decide)
  have n1 : m.bl ≠ m.bs := apart_of r1 r2 (by decide)
  have n3 : m.bp ≠ m.bs := apart_of r3 r2 (by decide)
  have el : ∀ j, (if j = i then ((l j).1, x) else l j).1 = (l j).1 := fun j => by split <;> rfl
  exact ⟨(cell_other n0).trans h.blk, ⟨X1, (cell_other n1).trans r1, fun j hj => by
    obtain ⟨g, c, a1, a2, a3, a4, a5, a6, a7, a8⟩ := f1 j hj
    exact ⟨g, c, a1, by rw [el]; exact a2.of_block (cell_other a6), a3, a4, a5, a6, a7, a8⟩⟩, ⟨X2.set i _, r2.set i _, fun j hj => by
    rw [mset_get ⟨_, f2 i hi⟩]
    by_cases e : j = i
    · rw [if_pos e, if_pos e]
    · rw [if_neg e, if_neg e]; exact f2 j hj⟩, ⟨X3, (cell_other n3).trans r3, f3⟩, ⟨X4, (cell_other (fun e => h.ne e.symm)).trans r4, f4⟩, h.ne, h.K1, h.K2, h.K3, h.K4, h.K5, fun j hj => by rw [el]; exact h.len j hj, fun a ha => by
    obtain ⟨q1, q2, q3, q4, q5, q6, q7⟩ := h.xt a ha
    exact ⟨q1, (cell_other q5).trans q2, q3, q4, q5, q6, q7⟩⟩
/-- A page, written: another block. -/
theorem Mo.putL (h : Mo w m K n most l pins) {i : Nat} (hi : i < n) (g c : Nat) (x : List UInt8) (hr : Rd w (some ⟨g, 0, none⟩) x) (hx : x.length = 504) (hg : g ≠ m.gm ∧ g ≠ m.bl ∧ g ≠ m.bs ∧ g ≠ m.bp ∧ g ≠ m.bz) : Mo (w.setCell ⟨m.bl, i, none⟩ (.slice (some ⟨g, 0, none⟩) 504 c)) m (fun k => K k ∨ k = g) n most (fun j => if j = i then (x, (l j).2) else l j) pins := by
  obtain ⟨X1, r1, f1⟩ := h.rl
  obtain ⟨X2, r2, f2⟩ := h.rs
  obtain ⟨X3, r3, f3⟩ := h.rp
  obtain ⟨X4, r4, f4⟩ := h.rz
  have n0 : m.gm ≠ m.bl := apart_of h.blk r1 (by decide)
  have n2 : m.bs ≠ m.bl := apart_of r2 r1 (by decide)
  have n3 : m.bp ≠ m.bl := apart_of r3 r1 (by decide)
  have n4 : m.bz ≠ m.bl := apart_of r4 r1 (by decide)
  have el : ∀ j, (if j = i then (x, (l j).2) else l j).2 = (l j).2 := fun j => by split <;> rfl
  exact ⟨(cell_other n0).trans h.blk, ⟨X1.set i _, r1.set i _, fun j hj => by
    obtain ⟨g0, c0, a0, -⟩ := f1 i hi
    rw [mset_get ⟨_, a0⟩]
    by_cases e : j = i
    · rw [if_pos e, if_pos e]
      exact ⟨g, c, rfl, hr.of_block (cell_other hg.2.1), .inr rfl, hg⟩
    · rw [if_neg e, if_neg e]
      obtain ⟨g, c, a1, a2, a3, a4, a5, a6, a7, a8⟩ := f1 j hj
      exact ⟨g, c, a1, a2.of_block (cell_other a5), .inl a3, a4, a5, a6, a7, a8⟩⟩, ⟨X2, (cell_other n2).trans r2, fun j hj => by rw [el]; exact f2 j hj⟩, ⟨X3, (cell_other n3).trans r3, f3⟩, ⟨X4, (cell_other n4).trans r4, f4⟩, h.ne, .inl h.K1, .inl h.K2, .inl h.K3, .inl h.K4, .inl h.K5, fun j hj => by
    by_cases e : j = i
    · rw [if_pos e]; exact hx
    · rw [if_neg e]; exact h.len j hj, fun a ha => by
    obtain ⟨q1, q2, q3, q4, q5, q6, q7⟩ := h.xt a ha
    exact ⟨.inl q1, (cell_other q4).trans q2, q3, q4, q5, q6, q7⟩⟩
end
/-- The model beside the laws' world. -/
def Ml (w0 w : World) (b g q p : Nat) (m : Mb) (n most : Nat) (l : Nat → List UInt8 × Nat) (pins : Nat → Nat) (S : St) : Prop := ∃ K, Wk w0 w b g q p K w S ∧ Mo w m K n most l pins ∧ ∀ k, K k → w0.heap.size ≤ k ∧ k ≠ b
section
variable {w0 w w' wr : World} {b g q p c : Nat} {m : Mb} {K K' : Nat → Prop} {n most : Nat} {l l' : Nat → List UInt8 × Nat} {pins pins' : Nat → Nat} {S S' : St}
theorem Ml.of (hm : Mo wr m K n most l pins) (hb : ∀ k, K k → w0.heap.size ≤ k ∧ k ≠ b) (hw : Wk w0 w b g q p K wr S) : Ml w0 w b g q p m n most l pins S := ⟨K, hw.here, hm.keep fun k hk => (hw.same k hk).2, hb⟩
theorem Ml.ext_ (h : Ml w0 w b g q p m n most l pins S) (hx : Ext w w') : Ml w0 w' b g q p m n most l pins S := by
  obtain ⟨K, h1, h2, h3⟩ := h
  exact Ml.of h2 h3 (h1.ext_ hx)
theorem Ml.ext (h : Ml w0 w b g q p m n most l pins S) : Ext w0 w := by obtain ⟨K, h1, h2, h3⟩ := h; exact h1.ext
theorem Ml.mo (h : Ml w0 w b g q p m n most l pins S) : ∃ K, Mo w m K n most l pins := by obtain ⟨K, h1, h2, h3⟩ := h; exact ⟨K, h2⟩
theorem Ml.v0 (h : Ml w0 w b g q p m n most l pins S) : w.cell? ⟨b, 0, none⟩ = some (.pointer (some ⟨g, 0, none⟩)) := by obtain ⟨K, h1, h2, h3⟩ := h; exact h1.c0
theorem Ml.v1 (h : Ml w0 w b g q p m n most l pins S) : w.cell? ⟨b, 1, none⟩ = some (.pointer (some ⟨q, 0, none⟩)) := by obtain ⟨K, h1, h2, h3⟩ := h; exact h1.c1
theorem Ml.v2 (h : Ml w0 w b g q p m n most l pins S) : w.cell? ⟨b, 2, none⟩ = some (.pointer (some ⟨p, 0, none⟩)) := by obtain ⟨K, h1, h2, h3⟩ := h; exact h1.c2
/-- A store into a block of the model's. -/
theorem Ml.put (h : Ml w0 w b g q p m n most l pins S) (bk i : Nat) (v : Value) (hk : ∀ K, Mo w m K n most l pins → K bk) (hm : ∀ K, Mo w m K n most l pins → Mo (w.setCell ⟨bk, i, none⟩ v) m K n most l' pins') : Ml w0 (w.setCell ⟨bk, i, none⟩ v) b g q p m n most l' pins' S := by
  obtain ⟨K, h1, h2, h3⟩ := h
  have hkb := hk K h2
  have hw : Wk w0 (w.setCell ⟨bk, i, none⟩ v) b g q p K (w.setCell ⟨bk, i, none⟩ v) S := h1.turn rfl rfl rfl (by simp) (fun k hk hn => cell_other (fun e => hn (by rw [e]; exact hkb))) (fun hh => (h3 b hh).2 rfl) (fun k hk => (h3 k hk).1) (fun k hk => .inl hk)
  exact ⟨K, hw, hm K h2, h3⟩
theorem Ml.putP (h : Ml w0 w b g q p m n most l pins S) {i : Nat} (hi : i < n) (x : Nat) : Ml w0 (w.setCell ⟨m.bp, i, none⟩ (.int .i64 (x : Int))) b g q p m n most l (fun j => if j = i then x else pins j) S := h.put _ _ _ (fun K hk => hk.K4) (fun K hk => hk.putP hi x)
theorem Ml.putZ (h : Ml w0 w b g q p m n most l pins S) {i : Nat} (hi : i < n) (x : Nat) : Ml w0 (w.setCell ⟨m.bz, i, none⟩ (.int .u64 (x : Int))) b g q p m n most l pins S := h.put _ _ _ (fun K hk => hk.K5) (fun K hk => hk.putZ hi x)
theorem Ml.putS (h : Ml w0 w b g q p m n most l pins S) {i : Nat} (hi : i < n) (x : Nat) : Ml w0 (w.setCell ⟨m.bs, i, none⟩ (.int .u64 (x : Int))) b g q p m n most (fun j => if j = i then ((l j).1, x) else l j) pins S := h.put _ _ _ (fun K hk => hk.K3) (fun K hk => hk.putS hi x)
theorem Ml.putL (h : Ml w0 w b g q p m n most l pins S) {i : Nat} (hi : i < n) (gq cq : Nat) (x : List UInt8) (hr : Rd w' (some ⟨gq, 0, none⟩) x) (hx : x.length = 504) (hX : Ext w w') (hg : w.heap.size ≤ gq) (hq : gq < w'.heap.size) : Ml w0 (w'.setCell ⟨m.bl, i, none⟩ (.slice (some ⟨gq, 0, none⟩) 504 cq)) b g q p m n most (fun j => if j = i then (x, (l j).2) else l j) pins S := by
  obtain ⟨K, h1, h2, h3⟩ := h
  obtain ⟨q1, q2, q3, q4, q5⟩ := h2.lt
  have h2' : Mo w' m K n most l pins := h2.keep fun k hk => Below.block hX k (h1.same k hk).1
  have hm := h2'.putL hi gq cq x hr hx ⟨by omega, by omega, by omega, by omega, by omega⟩
  have hb0 : b < w.heap.size := by
    have := h1.c0
    exact World.block_lt_of_cell? w _ this
  have hw0 : w0.heap.size ≤ w.heap.size := h1.ext.size
  refine ⟨_, h1.turn (K' := fun k => K k ∨ k = gq) hX.os hX.tape hX.output (by have := hX.size; simpa using this) (fun k hk hn => (cell_other (fun e => hn (by rw [e]; exact h2.K2))).trans (Below.block hX k hk)) (fun hh => (h3 b hh).2 rfl) (fun k hk => (h3 k hk).1) (fun k hk => ?_), hm, fun k hk => ?_⟩
  · rcases hk with hk | rfl
    · exact .inl hk
    · exact .inr ⟨hg, by simpa using hq⟩
  · rcases hk with hk | rfl
    · exact h3 k hk
    · exact ⟨by omega, by omega⟩
/-- A block of the call's own beside it. -/
theorem Ml.more (h : Ml w0 w b g q p m n most l pins S) (t : TypeId) (vs : List Value) : Ml w0 (w.alloc (.cells vs.toArray t)) b g q p { m with xs := (w.heap.size, t, vs) :: m.xs } n most l pins S := by
  obtain ⟨K, h1, h2, h3⟩ := h
  obtain ⟨q1, q2, q3, q4, q5⟩ := h2.lt
  have hX := Ext.alloc w (.cells vs.toArray t)
  have h2' : Mo (w.alloc (.cells vs.toArray t)) m K n most l pins := h2.keep fun k hk => Below.block hX k (h1.same k hk).1
  have hb0 : b < w.heap.size := World.block_lt_of_cell? w _ h1.c0
  have hw0 : w0.heap.size ≤ w.heap.size := h1.ext.size
  refine ⟨fun k => K k ∨ k = w.heap.size, h1.turn (K' := fun k => K k ∨ k = w.heap.size) hX.os hX.tape hX.output hX.size (fun k hk hn => Below.block hX k hk) (fun hh => (h3 b hh).2 rfl) (fun k hk => (h3 k hk).1) (fun k hk => ?_), ?_, fun k hk => ?_⟩
  · rcases hk with hk | rfl
    · exact .inl hk
    · exact .inr ⟨Nat.le_refl _, (Rw.new w t vs).lt⟩
  · obtain ⟨X1, r1, f1⟩ := h2'.rl
    refine ⟨h2'.blk, ⟨X1, r1, fun j hj => ?_⟩, h2'.rs, h2'.rp, h2'.rz, h2'.ne, .inl h2'.K1, .inl h2'.K2, .inl h2'.K3, .inl h2'.K4, .inl h2'.K5, h2'.len, fun a ha => ?_⟩
    · obtain ⟨g, c, a1, a2, a3, a4⟩ := f1 j hj
      exact ⟨g, c, a1, a2, .inl a3, a4⟩
    · rcases List.mem_cons.1 ha with rfl | ha
      · exact ⟨.inr rfl, Rw.new w t vs, by show w.heap.size ≠ m.gm; omega, by show w.heap.size ≠ m.bl; omega, by show w.heap.size ≠ m.bs; omega, by show w.heap.size ≠ m.bp; omega, by show w.heap.size ≠ m.bz; omega⟩
      · obtain ⟨q1, q2⟩ := h2'.xt a ha
        exact ⟨.inl q1, q2⟩
  · rcases hk with hk | rfl
    · exact h3 k hk
    · exact ⟨hw0, by omega⟩
theorem Ml.less {xs : List (Nat × TypeId × List Value)} (h : Ml w0 w b g q p { m with xs := xs } n most l pins S) (hx : ∀ a, a ∈ m.xs → a ∈ xs) : Ml w0 w b g q p m n most l pins S := by
  obtain ⟨K, h1, h2, h3⟩ := h
  exact ⟨K, h1, ⟨h2.blk, h2.rl, h2.rs, h2.rp, h2.rz, h2.ne, h2.K1, h2.K2, h2.K3, h2.K4, h2.K5, h2.len, fun a ha => h2.xt a (hx a ha)⟩, h3⟩
/-- What stands in such a block. -/
theorem Ml.xcell {a : Nat × TypeId × List Value} (h : Ml w0 w b g q p m n most l pins S) (ha : a ∈ m.xs) {j : Nat} {v : Value} (hv : a.2.2[j]? = some v) : w.cell? ⟨a.1, j, none⟩ = some v := by
  obtain ⟨K, h1, h2, h3⟩ := h
  exact (h2.xt a ha).2.1.cell hv
/-- Nothing turns but what was drawn. -/
def DrK (w : World) (r : Value) (e : Ending) (w' : World) : Prop := e = .returned r ∧ ∃ k, w' = w.drewN k
theorem DrK.ext {r : Value} {e : Ending} (h : DrK w r e w') : Ext w w' := by
  obtain ⟨-, k, rfl⟩ := h
  exact (Ext.refl w).drewN k
theorem drewN_drewN (w : World) (i j : Nat) : (w.drewN i).drewN j = w.drewN (i + j) := by
  unfold World.drewN
  simp [Nat.add_assoc]
set_option maxRecDepth 20000 in
set_option maxHeartbeats 1600000 in
theorem pinned_any (h : Mo w m K n most l pins) (hn : n ≤ 8) : Calls Tryz.prog 51 #[.pointer (some ⟨m.gm, 0, none⟩)] w (DrK w (.int .i64 (cP pins n : Int))) := by
  have H := hide h
  have HN := hide hn
  have HCB : Hid (∀ i, cP pins i ≤ i) := hide (fun i => by
    induction i with
    | zero => exact Nat.le_refl _
    | succ i ih =>
      show cP pins i + _ ≤ i + 1
      split <;> omega)
  clear h hn
  go_enter Tryz.func51, Tryz.ntmps51
  go_upto_region 3 with fail
  go_loopw [3, 4] (fun x y wr => ∃ i : Nat, y = .int .i64 (i : Int) ∧ x = .int .i64 (cP pins i : Int) ∧ Hid (i ≤ n) ∧ Hid (∃ k, wr = w.drewN k)) (fun _ y _ => n - (intOf y).toNat)
  case atStart => exact ⟨0, rfl, rfl, hide (Nat.zero_le _), hide ⟨0, rfl⟩⟩
  case round =>
    obtain ⟨i, rfl, rfl, HI, HR⟩ := hrel
    have HM : Hid (Mo wr m K n most l pins) := hide (by obtain ⟨k, rfl⟩ := HR.out; exact H.out.keep fun _ _ => rfl)
    have c2 := HM.out.c2
    by_cases hi : i < n
    · have hii : (i : Int) < (n : Int) := by omega
      have d1 := HM.out.p hi
      have hkw : IntKind.i64.wrap ((i : Int) + 1) = ((i + 1 : Nat) : Int) := by rw [IntKind.wrap_i64]; have := HN.out; omega
      have hkc : IntKind.i64.wrap ((cP pins i : Int) + 1) = ((cP pins i + 1 : Nat) : Int) := by rw [IntKind.wrap_i64]; have := HN.out; have := HCB.out i; omega
      obtain ⟨pc, HPC⟩ : ∃ pc, Hid (cP pins i = pc) := ⟨_, hide rfl⟩
      obtain ⟨pj, HPJ⟩ : ∃ pj, Hid (pins i = pj) := ⟨_, hide rfl⟩
      have HS : Hid (cP pins (i + 1) = pc + (if 0 < pj then 1 else 0)) := hide (by rw [← HPC.out, ← HPJ.out]; rfl)
      obtain ⟨i1, HI1⟩ : ∃ i1, Hid (i + 1 = i1) := ⟨_, hide rfl⟩
      obtain ⟨pc1, HPC1⟩ : ∃ pc1, Hid (pc + 1 = pc1) := ⟨_, hide rfl⟩
      rw [HPC.out] at hkc ⊢
      rw [HPC1.out] at hkc
      rw [HPJ.out] at d1
      rw [HI1.out] at hkw HS
      have HII := hide hi
      clear hi
      by_cases hp : 0 < pj
      · have hpi : (0 : Int) < (pj : Int) := by omega
        have HP := hide hp
        clear hp
        go_wp2
        refine ⟨⟨i1, rfl, ?_, hide (by have := HII.out; have := HI1.out; omega), hide ?_⟩, ?_⟩
        · rw [HS.out, if_pos HP.out, HPC1.out]
        · obtain ⟨k, hk⟩ := HR.out
          rw [hk]
          first | exact ⟨_, rfl⟩ | exact ⟨_, drewN_drewN w k _⟩
        · show n - ((i1 : Int)).toNat < n - ((i : Int)).toNat
          have := HII.out; have := HI1.out; omega
      · obtain rfl : pj = 0 := by omega
        go_wp2
        refine ⟨⟨i1, rfl, ?_, hide (by have := HII.out; have := HI1.out; omega), hide ?_⟩, ?_⟩
        · rw [HS.out, if_neg hp, Nat.add_zero]
        · obtain ⟨k, hk⟩ := HR.out
          rw [hk]
          first | exact ⟨_, rfl⟩ | exact ⟨_, drewN_drewN w k _⟩
        · show n - ((i1 : Int)).toNat < n - ((i : Int)).toNat
          have := HII.out; have := HI1.out; omega
    · obtain rfl : i = n := by have := HI.out; omega
      clear hi
      go_wp2
      go_ret
      refine ⟨rfl, ?_⟩
      obtain ⟨k, hk⟩ := HR.out
      rw [hk]
      first | exact ⟨_, rfl⟩ | exact ⟨_, drewN_drewN w k _⟩
set_option maxRecDepth 20000 in
set_option maxHeartbeats 1600000 in
theorem may_any (h : Mo w m K n most l pins) (hn : n ≤ 8) {i : Nat} (hi : i < n) : Calls Tryz.prog 24 #[.pointer (some ⟨m.gm, 0, none⟩), .int .i64 (i : Int)] w (DrK w (.bool (decide (0 < pins i ∨ cP pins n < most)))) := by
  have c2 := h.c2
  have d1 := h.p hi
  have hii : (i : Int) < (n : Int) := by omega
  have C4 : Hid (∀ k, (w.drewN k).cell? ⟨m.gm, 4, none⟩ = some (.int .i64 (most : Int))) := hide (fun _ => h.c4)
  have KP : Hid (∀ k, Calls Tryz.prog 51 #[.pointer (some ⟨m.gm, 0, none⟩)] (w.drewN k) (DrK (w.drewN k) (.int .i64 (cP pins n : Int)))) := hide (fun k => pinned_any (h.keep fun _ _ => rfl) hn)
  obtain ⟨pn, HPN⟩ : ∃ pn, Hid (cP pins n = pn) := ⟨_, hide rfl⟩
  obtain ⟨pj, HPJ⟩ : ∃ pj, Hid (pins i = pj) := ⟨_, hide rfl⟩
  obtain ⟨r, HR⟩ : ∃ r, Hid (decide (0 < pins i ∨ cP pins n < most) = r) := ⟨_, hide rfl⟩
  have HR2 : Hid (r = decide (0 < pj ∨ pn < most)) := hide (by rw [← HR.out, HPJ.out, HPN.out])
  rw [HR.out]
  rw [HPN.out] at KP
  rw [HPJ.out] at d1
  clear h hn hi
  go_enter Tryz.func24, Tryz.ntmps24
  go_upto_region 1 with fail
  by_cases hp : 0 < pj
  · have hd : decide ((0 : Int) < (pj : Int)) = true := decide_eq_true (by omega)
    obtain rfl : r = true := HR2.out.trans (decide_eq_true (.inl hp))
    go_quiet (fail)
    go_wp2
    go_ret
    exact ⟨rfl, _, rfl⟩
  · have hd : decide ((0 : Int) < (pj : Int)) = false := decide_eq_false (by omega)
    have hr : r = decide (pn < most) := HR2.out.trans (by
      by_cases e : pn < most
      · rw [decide_eq_true (.inr e), decide_eq_true e]
      · rw [decide_eq_false (fun hh => hh.elim hp e), decide_eq_false e])
    subst hr
    have c4 : w.cell? ⟨m.gm, 4, none⟩ = some (.int .i64 (most : Int)) := C4.out 0
    go_quiet ((go_at_call 51; exact Calls.quiet_of (KP.out _)))
    go_wp2
    go_ret
    exact ⟨rfl, _, rfl⟩
end
end Go.Proofs.YtnkcneccolbbdaaGreatDoor
namespace Go.Proofs.YtnkcneccolbbdaaGreatDoor
open Go.RowKit

theorem over_at (l : List UInt8) (off : Nat) (m : List UInt8) (h : off + m.length ≤ l.length) (j : Nat) : (over l off m)[j]? = if j < off then l[j]? else if j < off + m.length then m[j - off]? else l[j]? := by
  have h1 : (l.take off).length = off := by rw [List.length_take]; omega
  unfold over
  by_cases h2 : j < off
  · rw [if_pos h2, List.getElem?_append_left (by omega), List.getElem?_take_of_lt h2]
  · rw [if_neg h2, List.getElem?_append_right (by omega), h1]
    by_cases h3 : j < off + m.length
    · rw [if_pos h3, List.getElem?_append_left (by omega)]
    · rw [if_neg h3, List.getElem?_append_right (by omega), List.getElem?_drop]
      congr 1
      omega
theorem over_step (l : List UInt8) (off : Nat) (x : List UInt8) (k : Nat) (u : UInt8) (h : off + x.length ≤ l.length) (hu : x[k]? = some u) : (over l off (x.take k)).set (off + k) u = over l off (x.take (k + 1)) := by
  have hk : k < x.length := (List.getElem?_eq_some_iff.1 hu).1
  have l1 : (x.take k).length = k := by rw [List.length_take]; omega
  have l2 : (x.take (k + 1)).length = k + 1 := by rw [List.length_take]; omega
  have hl := over_length l off (x.take k) (by omega)
  apply List.ext_getElem?
  intro j
  rw [over_at _ _ _ (by omega), l2]
  by_cases e : j = off + k
  · subst e
    rw [List.getElem?_set_self (by omega), if_neg (by omega), if_pos (by omega), show off + k - off = k from by omega, List.getElem?_take_of_lt (by omega), hu]
  · rw [List.getElem?_set_ne (fun h => e h.symm), over_at _ _ _ (by omega), l1]
    by_cases h1 : j < off
    · rw [if_pos h1, if_pos h1]
    · rw [if_neg h1, if_neg h1]
      by_cases h2 : j < off + k
      · rw [if_pos h2, if_pos (by omega), List.getElem?_take_of_lt (by omega), List.getElem?_take_of_lt (by omega)]
      · rw [if_neg h2, if_neg (by omega)]
theorem over_zero (l : List UInt8) (off : Nat) (x : List UInt8) : over l off (x.take 0) = l := by simp [over]
/-- A page in the making. -/
def Pq (w : World) (q : Nat) (x : List UInt8) : Prop := ∃ R, Rw w q 5 (bs x ++ R)
section
variable {w0 w w' : World} {b g q p c : Nat} {m : Mb} {n most : Nat} {l : Nat → List UInt8 × Nat} {pins : Nat → Nat} {S : St} {x : List UInt8} {gq : Nat}
theorem Pq.rd (h : Pq w gq x) : Rd w (some ⟨gq, 0, none⟩) x := fun _ => by
  obtain ⟨R, h⟩ := h
  refine ⟨gq, 0, rfl, fun j u hu => ?_⟩
  rw [Nat.zero_add]
  refine h.cell ?_
  have hj := (List.getElem?_eq_some_iff.1 hu).1
  rw [List.getElem?_append_left (by rw [bs_length]; exact hj), bs_get, hu]
  rfl
theorem Pq.lt (h : Pq w gq x) : gq < w.heap.size := by obtain ⟨R, h⟩ := h; exact h.lt
theorem Pq.frozen (h : Pq w gq x) (i : Nat) : w.frozen? ⟨gq, i, none⟩ = false := by obtain ⟨R, h⟩ := h; exact h.frozen i
theorem Pq.has (h : Pq w gq x) {j : Nat} (hj : j < x.length) : ∃ u, w.cell? ⟨gq, j, none⟩ = some u := by
  obtain ⟨R, h⟩ := h
  have hl : j < (bs x ++ R).length := by rw [List.length_append, bs_length]; omega
  exact ⟨_, h.cell (List.getElem?_eq_getElem hl)⟩
theorem Pq.set (h : Pq w gq x) {j : Nat} (hj : j < x.length) (u : UInt8) : Pq (w.setCell ⟨gq, j, none⟩ (.int .u8 (u.toNat : Int))) gq (x.set j u) := by
  obtain ⟨R, h⟩ := h
  refine ⟨R, ?_⟩
  rw [← bs_set, ← List.set_append_left _ _ (by rw [bs_length]; exact hj)]
  exact h.set j _
theorem Pq.ext (h : Pq w gq x) (hx : Ext w w') : Pq w' gq x := by obtain ⟨R, h⟩ := h; exact ⟨R, h.ext hx⟩
theorem own_pq {B : Nat} {v : Value} (h : Own w B v x) (hx : x ≠ []) : ∃ gq cq, v = .slice (some ⟨gq, 0, none⟩) x.length cq ∧ B ≤ gq ∧ Pq w gq x := by
  rcases h.2 with ⟨-, h0⟩ | ⟨gq, cap, cur, rfl, hb, hg, hnc, hcm, hcs, htk⟩
  · exact absurd (List.length_eq_zero_iff.1 h0) hx
  · refine ⟨gq, cap, rfl, hb, cur.toList.drop (x.length * 1), ?_⟩
    unfold Rw
    rw [hg, ← htk, List.take_append_drop]
theorem Mo.fl {K : Nat → Prop} (h : Mo w m K n most l pins) (i : Nat) : w.frozen? ⟨m.bl, i, none⟩ = false ∧ w.frozen? ⟨m.bs, i, none⟩ = false ∧ w.frozen? ⟨m.bp, i, none⟩ = false ∧ w.frozen? ⟨m.bz, i, none⟩ = false := by
  obtain ⟨X1, r1, f1⟩ := h.rl
  obtain ⟨X2, r2, f2⟩ := h.rs
  obtain ⟨X3, r3, f3⟩ := h.rp
  obtain ⟨X4, r4, f4⟩ := h.rz
  exact ⟨r1.frozen i, r2.frozen i, r3.frozen i, r4.frozen i⟩
set_option maxRecDepth 20000 in
set_option maxHeartbeats 3200000 in
theorem mwrite_any (h : Ml w0 w b g q p m n most l pins S) (hn : n ≤ 8) {i : Nat} (hi : i < n) (off : Nat) (P : Option Addr) (cp : Nat) (k : Nat) (hr : Rd w P x) (hx : x.length = k) (hk : off + k ≤ 504) (at_ : Nat) :
    Calls Tryz.prog 52 #[.pointer (some ⟨m.gm, 0, none⟩), .int .i64 (i : Int), .int .i64 (off : Int), .slice P k cp, .int .u64 (at_ : Int)] w (fun e w' => e = .returned (.tuple #[]) ∧ Ml w0 w' b g q p m n most (fun j => if j = i then (over (l i).1 off x, at_) else l j) pins S) := by
  have H := hide h
  have HN := hide hn
  have HI := hide hi
  have HR := hide hr
  have HX := hide hx
  have HK := hide hk
  obtain ⟨K, mo⟩ := h.mo
  have c0 := mo.c0
  obtain ⟨pg, pc, d0, hrp⟩ := mo.pg hi
  have hl5 := mo.len i hi
  obtain ⟨y, HY⟩ : ∃ y, Hid ((l i).1 = y) := ⟨_, hide rfl⟩
  rw [HY.out] at hrp hl5
  have HRP := hide hrp
  have HL5 := hide hl5
  have hii : (i : Int) < (n : Int) := by omega
  clear h hn hi hr hx hk mo hrp hl5
  go_enter Tryz.func52, Tryz.ntmps52
  go_upto_region 2 with (at_builtin; refine wpList_cat rfl (.tmp 12) (.tmp 19) rfl w.heap.size _ [] y _ 504 pc rfl rfl HL5.out.symm (Own.nil w _) HRP.out (Nat.le_refl _) (by rw [List.length_nil, HL5.out]; decide) ?_; intro v2 w2 hown hb; rw [List.nil_append] at hown; obtain ⟨gq, cq, hv2, hgq, hpq⟩ := own_pq hown (by intro e; have := HL5.out; rw [e] at this; cases this); rw [HL5.out] at hv2; subst hv2; have HGQ := hide hgq; have HPQ := hide hpq; have HX2 : Hid (Ext w w2) := hide hb; clear hown hb hgq hpq)
  clear c0 d0
  go_upto_region 3 with fail
  go_loopw [11] (fun v wr => ∃ kk : Nat, v = .int .i64 (kk : Int) ∧ Hid (kk ≤ k) ∧ Hid (Pq wr gq (over y off (x.take kk))) ∧ Hid (Ext w wr)) (fun v _ => k - (intOf v).toNat)
  case atStart => exact ⟨0, rfl, hide (Nat.zero_le _), hide (by rw [over_zero]; exact HPQ.out), HX2⟩
  case round =>
    obtain ⟨kk, rfl, HKK, HQ, HXR⟩ := hrel
    clear HPQ HX2
    by_cases hk : kk < k
    · have hki : (kk : Int) < (k : Int) := by omega
      obtain ⟨ab, ao, u, rfl, hu, hcx⟩ := (HR.out.ext HXR.out).at (k := kk) (by rw [HX.out]; exact hk)
      obtain ⟨o, HO⟩ : ∃ o, Hid (off + kk = o) := ⟨_, hide rfl⟩
      have HLO : Hid ((over y off (x.take kk)).length = 504) := hide (by rw [over_length _ _ _ (by rw [List.length_take, HL5.out]; have := HK.out; omega), HL5.out])
      have ho : o < (over y off (x.take kk)).length := by rw [HLO.out]; have := HO.out; have := HK.out; omega
      have hw1 : IntKind.i64.wrap ((off : Int) + (kk : Int)) = (o : Int) := by rw [IntKind.wrap_i64]; have := HO.out; have := HK.out; omega
      have hw2 : IntKind.i64.wrap ((kk : Int) + 1) = ((kk + 1 : Nat) : Int) := by rw [IntKind.wrap_i64]; have := HK.out; omega
      obtain ⟨k1, HK1⟩ : ∃ k1, Hid (kk + 1 = k1) := ⟨_, hide rfl⟩
      rw [HK1.out] at hw2
      have ho1 : (o : Int) < 504 := by have := HO.out; have := HK.out; omega
      have ho2 : o < 504 := by have := HO.out; have := HK.out; omega
      obtain ⟨cu, hcu⟩ := HQ.out.has ho
      have hfz := HQ.out.frozen o
      have HQ2 : Hid (Pq (wr.setCell ⟨gq, o, none⟩ (.int .u8 (u.toNat : Int))) gq (over y off (x.take k1))) := hide (by
        rw [← HK1.out, ← over_step y off x kk u (by rw [HX.out, HL5.out]; exact HK.out) hu, HO.out]
        exact HQ.out.set ho u)
      have HX3 : Hid (Ext w (wr.setCell ⟨gq, o, none⟩ (.int .u8 (u.toNat : Int)))) := hide (Below.setCell (p := ⟨gq, o, none⟩) HXR.out HGQ.out _)
      have HKI := hide hk
      clear hk ho hu HQ HXR
      go_wp2
      refine ⟨⟨k1, rfl, hide (by have := HKI.out; have := HK1.out; omega), HQ2, HX3⟩, ?_⟩
      show k - ((k1 : Int)).toNat < k - ((kk : Int)).toNat
      have := HKI.out; have := HK1.out; omega
    · obtain rfl : kk = k := by have := HKK.out; omega
      clear hk
      have HQF : Hid (Pq wr gq (over y off x)) := hide (by
        have h0 := HQ.out
        rw [← HX.out, List.take_length] at h0
        exact h0)
      have HOL : Hid ((over y off x).length = 504) := hide (by rw [over_length _ _ _ (by rw [HX.out, HL5.out]; exact HK.out), HL5.out])
      have HM1 := hide (H.out.ext_ HXR.out)
      obtain ⟨K1, mo1⟩ := HM1.out.mo
      have c0 := mo1.c0
      obtain ⟨pg1, pc1, d0, -⟩ := mo1.pg HI.out
      have f0 := (mo1.fl i).1
      obtain ⟨w5, HW5⟩ : ∃ w5, Hid (wr.setCell ⟨m.bl, i, none⟩ (.slice (some ⟨gq, 0, none⟩) 504 cq) = w5) := ⟨_, hide rfl⟩
      have HM2 : Hid (Ml w0 w5 b g q p m n most (fun j => if j = i then (over y off x, (l j).2) else l j) pins S) := hide (by
        rw [← HW5.out]
        exact H.out.putL HI.out gq cq (over y off x) HQF.out.rd HOL.out HXR.out HGQ.out HQF.out.lt)
      clear mo1 HQ
      go_upto_region 7 with fail
      rw [HW5.out]
      clear c0 d0 f0
      obtain ⟨K2, mo2⟩ := HM2.out.mo
      have c1 := mo2.c1
      have d1 := mo2.s HI.out
      have f1 := (mo2.fl i).2.1
      obtain ⟨w6, HW6⟩ : ∃ w6, Hid (w5.setCell ⟨m.bs, i, none⟩ (.int .u64 (at_ : Int)) = w6) := ⟨_, hide rfl⟩
      have HM3 : Hid (Ml w0 w6 b g q p m n most (fun j => if j = i then (over (l i).1 off x, at_) else l j) pins S) := hide (by
        have h0 := HM2.out.putS HI.out at_
        rw [HW6.out] at h0
        have e : (fun j => if j = i then (((if j = i then (over y off x, (l j).2) else l j) : List UInt8 × Nat).1, at_) else (if j = i then (over y off x, (l j).2) else l j)) = (fun j => if j = i then (over (l i).1 off x, at_) else l j) := by
          funext j
          by_cases e : j = i
          · simp only [if_pos e, HY.out]
          · simp only [if_neg e]
        rw [e] at h0
        exact h0)
      clear mo2
      go_upto_region 8 with fail
      rw [HW6.out]
      clear c1 d1 f1
      obtain ⟨K3, mo3⟩ := HM3.out.mo
      have c3 := mo3.c3
      obtain ⟨s, d3⟩ := mo3.z HI.out
      have f3 := (mo3.fl i).2.2.2
      clear mo3
      by_cases hs : s = 0
      · subst hs
        go_wp2
        go_end0
        exact ⟨rfl, HM3.out.putZ HI.out at_⟩
      · have hsi : ¬ ((s : Int) = 0) := by omega
        go_wp2
        go_end0
        exact ⟨rfl, HM3.out⟩
end
end Go.Proofs.YtnkcneccolbbdaaGreatDoor
namespace Go.Proofs.YtnkcneccolbbdaaGreatDoor
open Go.RowKit

section
variable {w0 w wr : World} {b g q p c n : Nat} {K : Nat → Prop} {S : St}
set_option maxRecDepth 20000 in
set_option maxHeartbeats 3200000 in
theorem wksure_any (h : Wk w0 w b g q p K wr S) (g0 : Good S) (ft : S.Fit c) (hat : S.P.at_ = 41) (hpg : S.P.pages = n) (hn8 : n ≤ 8) : Calls Tryz.prog 8 #[.pointer (some ⟨b, 0, none⟩), .int .i64 (n : Int)] w (fun e w' => e = .returned (.bool true) ∧ Ext w w') := by
  have H := hide h
  have HFT := hide ft
  have HG := hide g0
  have HN8 := hide hn8
  have HDL : Hid (41 + n ≤ S.D.dur.length) := hide (by have h1 := ft.pool.at_; rw [hat, hpg] at h1; exact h1)
  have HAT := hide hat
  have HPG := hide hpg
  clear h ft g0 hat hpg hn8
  go_enter Tryz.func8, Tryz.ntmps8
  go_upto_region 2 with fail
  go_loopw [5] (fun x wq => ∃ i : Nat, x = .int .i64 (i : Int) ∧ Hid (i ≤ n) ∧ Hid (Ext w wq)) (fun x _ => n - (intOf x).toNat)
  case atStart => exact ⟨0, rfl, hide (Nat.zero_le _), hide (Ext.refl _)⟩
  case round =>
    obtain ⟨i, rfl, HI, HX⟩ := hrel
    have HW := hide (H.out.ext_ HX.out)
    have c0 := HW.out.c0
    by_cases hi : i < n
    · have hii : (i : Int) < (n : Int) := by omega
      have hkw : IntKind.i64.wrap ((i : Int) + 1) = ((i + 1 : Nat) : Int) := by rw [IntKind.wrap_i64]; have := HN8.out; omega
      obtain ⟨s, HS⟩ : ∃ s : Int, Hid (((41 + i : Nat) : Int) = s) := ⟨_, hide rfl⟩
      have hsw : IntKind.i64.wrap (41 + (i : Int)) = s := by rw [IntKind.wrap_i64]; have := HS.out; have := HN8.out; omega
      obtain ⟨l, HL⟩ : ∃ l, Hid (S.D.at (41 + i) = l) := ⟨_, hide rfl⟩
      have HLL : Hid (l.length = 512) := hide (by rw [← HL.out]; exact at_len HFT.out.bd _ (by have := HDL.out; omega))
      have HGE : Hid (gE S.D s = 0 ∧ gB S.D s = l) := hide (by
        rw [← HS.out]
        have h1 := HDL.out
        have h2 : ¬ (((41 + i : Nat) : Int) < 0 ∨ (S.D.dur.length : Int) ≤ ((41 + i : Nat) : Int)) := by omega
        have h3 : ¬ S.D.off = true := by rw [HG.out.awk.1]; decide
        unfold gE gB
        rw [if_neg h2, if_neg h2, if_neg h3, if_neg h3, Int.toNat_natCast]
        exact ⟨rfl, HL.out⟩)
      have KR : Hid (Calls Tryz.prog 27 #[.pointer (some ⟨g, 0, none⟩), .int .i64 s] wr (fun e w' => ∃ A c, e = .returned (.tuple #[.slice A 512 c, .int .i64 0]) ∧ Rd w' A l ∧ Ext wr w')) := hide ((wk_dread HW.out HFT.out.bd s).mono fun e w' hh => by
        obtain ⟨A, n, c, he, hn, -, hr, hx⟩ := hh
        rw [HGE.out.2] at hn hr
        rw [HLL.out] at hn
        subst hn
        rw [HGE.out.1] at he
        exact ⟨A, c, he, hr, hx⟩)
      obtain ⟨ls, HLS⟩ : ∃ ls : Nat, Hid ((ls : Int) = num (l.take 8)) := ⟨(num (l.take 8)).toNat, hide (by have := (num_bound (l.take 8)).1; omega)⟩
      have HRN : Hid (rdNum l 0 = ((ls : Int), 8, 0)) := hide (by
        unfold rdNum
        rw [HLL.out, if_neg (by omega), if_neg (by omega), HLS.out]
        rfl)
      have KU : Hid (∀ W A cc, Rd W A l → Calls Tryz.prog 28 #[.slice A 512 cc, .int .i64 0] W (Same W (.tuple #[.int .u64 (ls : Int), .int .i64 8, .int .i64 0]))) := hide (fun W A cc hr => by
        have k1 := rreadUint_any A cc l 0 W hr (by rw [HLL.out]; decide) (by decide)
        rw [HRN.out, HLL.out] at k1
        exact k1)
      obtain ⟨su, HSU⟩ : ∃ su, Hid (S.L.sure = su) := ⟨_, hide rfl⟩
      have KSU : Hid (∀ W, Ext wr W → Calls Tryz.prog 20 #[.pointer (some ⟨q, 0, none⟩)] W (Same W (.int .u64 (su : Int)))) := hide (fun W hW => by
        have k1 := wk_sure (HW.out.ext_ hW)
        rw [HSU.out] at k1
        exact k1)
      have hwal : ls < su ∨ ls = 0 := by
        have h1 := HG.out.wal i (by rw [HPG.out]; exact hi)
        rw [HAT.out, HL.out, HSU.out] at h1
        have h2 : (frameB l).last = ls := by
          unfold frameB
          show (num (l.take 8)).toNat = ls
          have := HLS.out
          omega
        rw [h2] at h1
        exact h1
      have HWL := hide hwal
      have HII := hide hi
      obtain ⟨i1, HI1⟩ : ∃ i1, Hid (i + 1 = i1) := ⟨_, hide rfl⟩
      rw [HI1.out] at hkw
      clear hwal hi
      go_upto_region 6 with (first
        | (go_at_call 27; (with_reducible refine KR.out.mono ?_); rintro e w2 ⟨A2, cc2, rfl, hr2, hx2⟩; have HR2 := hide hr2; have HX2 := hide hx2; clear hr2 hx2)
        | (go_at_call 28; (with_reducible refine (KU.out w2 A2 cc2 HR2.out).mono ?_); rintro e w3 ⟨rfl, hw3⟩; subst hw3))
      have d1 := (HW.out.ext_ HX2.out).c1
      by_cases hl : ls < su
      · have hli : ¬ (su : Int) ≤ (ls : Int) := by omega
        go_wp2_with (go_at_call 20; (with_reducible refine (KSU.out w2 HX2.out).mono ?_); rintro e w4 ⟨rfl, hw4⟩; subst hw4)
        refine ⟨⟨i1, rfl, hide (by have := HII.out; have := HI1.out; omega), hide (HX.out.trans HX2.out)⟩, ?_⟩
        show n - ((i1 : Int)).toNat < n - ((i : Int)).toNat
        have := HII.out; have := HI1.out; omega
      · obtain rfl : ls = 0 := by have := HWL.out; omega
        have hli : (su : Int) ≤ 0 := by omega
        go_wp2_with (go_at_call 20; (with_reducible refine (KSU.out w2 HX2.out).mono ?_); rintro e w4 ⟨rfl, hw4⟩; subst hw4)
        refine ⟨⟨i1, rfl, hide (by have := HII.out; have := HI1.out; omega), hide (HX.out.trans HX2.out)⟩, ?_⟩
        show n - ((i1 : Int)).toNat < n - ((i : Int)).toNat
        have := HII.out; have := HI1.out; omega
    · obtain rfl : i = n := by have := HI.out; omega
      clear hi
      go_wp2
      go_ret
      exact ⟨rfl, HX.out⟩
end
end Go.Proofs.YtnkcneccolbbdaaGreatDoor
namespace Go.Proofs.YtnkcneccolbbdaaGreatDoor
open Go.RowKit

theorem xcell {w w' : World} (h : Ext w w') {a : Addr} {v : Value} (hc : w.cell? a = some v) : w'.cell? a = some v := (World.cell?_of_block (Below.block h a.block (World.block_lt_of_cell? w _ hc))).trans hc
theorem rise_len {n : Nat} : ∀ (zs : List (Nat × Nat)) (a : Nat), zs.Pairwise (fun x y => x.1 < y.1) → (∀ r ∈ zs, a ≤ r.1 ∧ r.1 < n) → zs.length ≤ n - a
  | [], a, _, _ => Nat.zero_le _
  | r :: zs, a, h, hb => by
    obtain ⟨h1, h2⟩ := List.pairwise_cons.1 h
    have h3 := hb r (List.mem_cons_self ..)
    have := rise_len zs (r.1 + 1) h2 (fun x hx => ⟨h1 x hx, (hb x (List.mem_cons_of_mem _ hx)).2⟩)
    rw [List.length_cons]
    omega
section
variable {w0 w w' : World} {b g q p c : Nat} {m : Mb} {n fr most : Nat} {l : Nat → List UInt8 × Nat} {pins : Nat → Nat} {S : St} {zs : List (Nat × Nat)}
theorem pv_sec (h : Pv S n fr l pins c) {i : Nat} (hi : i < n) : gE S.D ((41 + i : Nat) : Int) = 0 ∧ (gB S.D ((41 + i : Nat) : Int)) = S.D.at (41 + i) ∧ (S.D.at (41 + i)).length = 512 := by
  have hd := h.dur
  have h2 : ¬ (((41 + i : Nat) : Int) < 0 ∨ (S.D.dur.length : Int) ≤ ((41 + i : Nat) : Int)) := by omega
  have h3 : ¬ S.D.off = true := by rw [h.good.awk.1]; decide
  unfold gE gB
  rw [if_neg h2, if_neg h2, if_neg h3, if_neg h3, Int.toNat_natCast]
  exact ⟨rfl, rfl, at_len h.fit.bd _ (by omega)⟩
theorem dirty_told (h : Pv S n fr l pins c) (hz : DiL S.P zs) : ∀ r ∈ zs, r.1 < n ∧ 0 < r.2 ∧ r.2 ≤ (l r.1).2 := fun r hr => by
  obtain ⟨i, s⟩ := r
  rcases (hz.mem i s).1 hr with h1 | ⟨-, f, h1, h2, h3⟩
  · exact h.dW i s h1
  · have hi : i < n := by rw [← h.pages]; exact (h.fit.pool.page i f h1).1
    have h4 := h.dF i f h1 h2
    have h5 := congrArg Prod.snd (h.frame hi h1)
    have h5 : f.last = (l i).2 := h5
    show i < n ∧ 0 < s ∧ s ≤ (l i).2
    exact ⟨hi, by omega, by omega⟩
theorem dirty_not (h : Pv S n fr l pins c) (hz : DiL S.P zs) {i : Nat} (hi : i < n) (hn : ∀ r ∈ zs, r.1 ≠ i) : (S.D.at (41 + i)).drop 8 = (l i).1 := by
  have hW : S.P.W i = none := by
    cases hw : S.P.W i with
    | none => rfl
    | some s => exact absurd rfl (hn (i, s) ((hz.mem i s).2 (.inl hw)))
  rw [← h.cont i hi]
  have hat := h.at_
  unfold Proofs.YtnkcneccolbbdaaGreatDoor.cont
  cases hH : S.P.H i with
  | none =>
    show _ = (frameB (S.D.at (S.P.at_ + i))).by_
    rw [hat]
    rfl
  | some f =>
    have hc : f.ch = false := by
      cases hc : f.ch with
      | false => rfl
      | true => exact absurd rfl (hn (i, f.since) ((hz.mem i f.since).2 (.inr ⟨hW, f, hH, hc, rfl⟩)))
    have h1 := congrArg Prod.fst (h.good.same i f hH hc)
    rw [hat] at h1
    exact h1.symm
theorem info_u64n : (Tryz.prog.info? 33).map (fun i => (i.zero, i.size, i.bytes)) = some (some (.int .u64 0), 1, 8) := by kernel_rfl
theorem info_partsU : ∃ i0, Tryz.prog.info? 33 = some i0 ∧ i0.zero = some (.int .u64 0) ∧ i0.size = 1 ∧ i0.bytes = 8 := by
  have h := info_u64n
  cases hq : Tryz.prog.info? 33 with
  | none => rw [hq] at h; cases h
  | some i =>
    rw [hq] at h
    simp only [Option.map_some, Option.some.injEq, Prod.mk.injEq] at h
    exact ⟨i, rfl, h.1, h.2.1, h.2.2⟩
/-- A sector is read. -/
theorem ml_dread (h : Ml w0 w b g q p m n most l pins S) (pv : Pv S n fr l pins c) {i : Nat} (hi : i < n) : Calls Tryz.prog 27 #[.pointer (some ⟨g, 0, none⟩), .int .i64 ((41 + i : Nat) : Int)] w (fun e w' => ∃ A cc, e = .returned (.tuple #[.slice A 512 cc, .int .i64 0]) ∧ 512 ≤ cc ∧ Rd w' A (S.D.at (41 + i)) ∧ Ext w w') := by
  obtain ⟨K, h1, h2, h3⟩ := h
  obtain ⟨e1, e2, e3⟩ := pv_sec pv hi
  refine (wk_dread h1 pv.fit.bd ((41 + i : Nat) : Int)).mono fun e w' hh => ?_
  obtain ⟨A, n2, cc, he, hn, hcc, hr, hx⟩ := hh
  rw [e2] at hn hr
  rw [e3] at hn
  subst hn
  rw [e1] at he
  exact ⟨A, cc, he, hcc, hr, hx⟩
/-- What is behind the first eight bytes, as a text. -/
theorem sec_str {A : Option Addr} {x : List UInt8} {cc : Nat} (hr : Rd w A x) (hx : x.length = 512) (hc : 512 ≤ cc) : ∃ A8, (∀ W, (Instr.sliceAt 32 (.slice A 512 cc) (some (.int .i64 8)) none none).run Tryz.prog W = .ok (.slice A8 504 (cc - 8)) W) ∧ (∀ W, Ext w W → (convert 32 9 (.slice A8 504 (cc - 8))).run Tryz.prog W = .ok (.string ⟨(x.drop 8).toArray⟩) W) :=
  ⟨cutB A cc 8, fun W => run_fromI A 512 cc 8 (by decide) W, fun W hW => str_any ((hr.ext hW).cutF hx hc 8 (by decide)) 504 (cc - 8) (by rw [List.length_drop, hx])⟩
theorem run_make8 (n : Nat) (hn : n ≤ 8) (W : World) : (Instr.makeSlice 26 (.int .i64 (n : Int)) (.int .i64 (n : Int))).run Tryz.prog W = .ok (.slice (some ⟨W.heap.size, 0, none⟩) n n) (W.alloc (.cells (madeCells #[.int .u64 0] n) 33)) := by
  obtain ⟨i0, hi, hz0, hz1, hz2⟩ := info_partsU
  have h := run_make (P := Tryz.prog) W 26 33 i0 (.int .u64 0) Tryz.underlying26 hi hz0 .i64 .i64 (n : Int) (n : Int) (by omega) (by omega) (by rw [hz2]; omega) (by omega)
  simpa [hz1, Value.cells] using h
/-- What is told of each page. -/
def TdIs (zs : List (Nat × Nat)) (k : Nat) (n : Nat) (T : List Value) (tl : Nat → Nat) : Prop := (∀ j, j < n → T[j]? = some (.int .u64 (tl j : Int))) ∧ (∀ r ∈ zs.take k, tl r.1 = r.2) ∧ ∀ j, (∀ r ∈ zs.take k, r.1 ≠ j) → tl j = 0
theorem tdIs_zero (zs : List (Nat × Nat)) (n : Nat) : TdIs zs 0 n (List.replicate n (.int .u64 0)) (fun _ => 0) := ⟨fun j hj => by rw [List.getElem?_replicate, if_pos hj]; rfl, fun r hr => by simp at hr, fun _ _ => rfl⟩
theorem tdIs_step {zs : List (Nat × Nat)} {k n : Nat} {T : List Value} {tl : Nat → Nat} (h : TdIs zs k n T tl) (hr : zs.Pairwise (fun a b => a.1 < b.1)) {i s : Nat} (hz : zs[k]? = some (i, s)) (hi : i < n) : TdIs zs (k + 1) n (T.set i (.int .u64 (s : Int))) (fun j => if j = i then s else tl j) := by
  have hk := (List.getElem?_eq_some_iff.1 hz).1
  have htk : zs.take (k + 1) = zs.take k ++ [(i, s)] := by rw [List.take_add_one, hz]; rfl
  have hlt : ∀ r ∈ zs.take k, r.1 ≠ i := fun r hh e => by
    obtain ⟨j, hj⟩ := List.getElem?_of_mem hh
    have hjk : j < k := by
      have := (List.getElem?_eq_some_iff.1 hj).1
      rw [List.length_take] at this
      omega
    rw [List.getElem?_take_of_lt hjk] at hj
    have h1 := (List.pairwise_iff_getElem.1 hr) j k (by omega) hk hjk
    rw [(List.getElem?_eq_some_iff.1 hj).2, (List.getElem?_eq_some_iff.1 hz).2] at h1
    have h1 : r.1 < i := h1
    omega
  refine ⟨fun j hj => ?_, fun r hh => ?_, fun j hh => ?_⟩
  · rw [mset_get ⟨_, h.1 i hi⟩]
    by_cases e : j = i
    · simp only [if_pos e]
    · simp only [if_neg e]; exact h.1 j hj
  · rw [htk, List.mem_append] at hh
    rcases hh with hh | hh
    · simp only [if_neg (hlt r hh)]
      exact h.2.1 r hh
    · obtain rfl : r = (i, s) := by simpa using hh
      simp only [if_true]
  · rw [htk] at hh
    have h1 : i ≠ j := hh (i, s) (by simp)
    have h2 : ¬ j = i := fun e => h1 e.symm
    simp only [if_neg h2]
    exact h.2.2 j (fun r hr2 => hh r (List.mem_append_left _ hr2))
/-- The page told last. -/
def lastOf (zs : List (Nat × Nat)) (k : Nat) : Int := match k with
  | 0 => -1
  | k + 1 => match zs[k]? with
    | some r => (r.1 : Int)
    | none => -1
theorem lastOf_lt {zs : List (Nat × Nat)} (hr : zs.Pairwise (fun a b => a.1 < b.1)) {k i s : Nat} (hz : zs[k]? = some (i, s)) : lastOf zs k < (i : Int) := by
  unfold lastOf
  cases k with
  | zero => show (-1 : Int) < _; omega
  | succ k =>
    have hk := (List.getElem?_eq_some_iff.1 hz).1
    show (match zs[k]? with | some r => (r.1 : Int) | none => -1) < _
    rw [List.getElem?_eq_getElem (show k < zs.length by omega)]
    have h1 := (List.pairwise_iff_getElem.1 hr) k (k + 1) (by omega) hk (by omega)
    rw [(List.getElem?_eq_some_iff.1 hz).2] at h1
    show ((zs[k]).1 : Int) < _
    have h1 : zs[k].1 < i := h1
    omega
set_option maxRecDepth 20000 in
set_option maxHeartbeats 6400000 in
theorem mdirty_any (h : Ml w0 w b g q p m n most l pins S) (pv : Pv S n fr l pins c) (hn : n ≤ 8) (hc : c < 100000) (hs : SortC) : Calls Tryz.prog 10 #[.pointer (some ⟨m.gm, 0, none⟩), .pointer (some ⟨b, 0, none⟩)] w (fun e w' => e = .returned (.bool true) ∧ Ml w0 w' b g q p m n most l pins { S with P := settleP S.L S.P }) := by
  obtain ⟨S4, HS4⟩ : ∃ S4, Hid ({ S with P := settleP S.L S.P } = S4) := ⟨_, hide rfl⟩
  have HPV : Hid (Pv S4 n fr l pins c) := hide (by rw [← HS4.out]; exact pv.settle)
  have H := hide h
  have HN := hide hn
  have KD : Hid (Calls Tryz.prog 12 #[.pointer (some ⟨p, 0, none⟩)] w (fun e w' => ∃ A cc zs, e = .returned (.slice A zs.length cc) ∧ DiL S4.P zs ∧ DRow w' A zs ∧ Ml w0 w' b g q p m n most l pins S4)) := hide (by
    obtain ⟨K, h1, h2, h3⟩ := h
    refine (wk_dirty h1 pv.fit hc hs).mono fun e w' hh => ?_
    obtain ⟨A, cc, zs, he, hz, hd, hw⟩ := hh
    rw [HS4.out] at hw
    exact ⟨A, cc, zs, he, by rw [← HS4.out]; exact hz, hd, Ml.of h2 h3 hw⟩)
  have e2 := h.v2
  rw [HS4.out]
  clear h pv hn hc hs
  go_enter Tryz.func10, Tryz.ntmps10
  go_upto_region 3 with (go_at_call 12; (with_reducible refine KD.out.mono ?_); rintro e w2 ⟨A, cc, zs, rfl, hz, hd, hm2⟩; have HZ := hide hz; have HD := hide hd; have HM2 := hide hm2; clear hz hd hm2)
  clear e2
  obtain ⟨K2, mo2⟩ := HM2.out.mo
  have c0 := mo2.c0
  have hmk := run_make8 n HN.out
  clear mo2
  have HXA := hide (Ext.alloc w2 (.cells (madeCells #[.int .u64 0] n) 33))
  have HRA : Hid (Rw (w2.alloc (.cells (madeCells #[.int .u64 0] n) 33)) w2.heap.size 33 (List.replicate n (.int .u64 0))) := hide (by
    have h0 := Rw.new w2 33 (madeCells #[.int .u64 0] n).toList
    rw [Array.toArray_toList, toList_madeCells_one] at h0
    exact h0)
  have HZN : Hid (∀ r ∈ zs, r.1 < n ∧ 0 < r.2 ∧ r.2 ≤ (l r.1).2) := hide (dirty_told HPV.out HZ.out)
  have HZL : Hid (zs.length ≤ 8) := hide (by have := rise_len zs 0 HZ.out.rise (fun r hr => ⟨Nat.zero_le _, (HZN.out r hr).1⟩); have := HN.out; omega)
  obtain ⟨zn, HZE⟩ : ∃ zn, Hid (zs.length = zn) := ⟨_, hide rfl⟩
  rw [HZE.out]
  go_upto_region 5 with fail
  obtain ⟨gt, HGT⟩ : ∃ gt, Hid (w2.heap.size = gt) := ⟨_, hide rfl⟩
  obtain ⟨w3, HW3⟩ : ∃ w3, Hid (w2.alloc (.cells (madeCells #[.int .u64 0] n) 33) = w3) := ⟨_, hide rfl⟩
  rw [HGT.out, HW3.out] at HRA
  rw [HW3.out] at HXA
  rw [HGT.out, HW3.out]
  clear c0 hmk
  go_loopw [6, 8] (fun la kv wr => ∃ (k : Nat) (T : List Value) (tl : Nat → Nat), la = .int .i64 (lastOf zs k) ∧ kv = .int .i64 (k : Int) ∧ Hid (k ≤ zn) ∧ Hid (TdIs zs k n T tl) ∧ Hid (Rw wr gt 33 T) ∧ Hid (Ext w2 wr)) (fun _ kv _ => zn - (intOf kv).toNat)
  case atStart => exact ⟨0, _, _, rfl, rfl, hide (Nat.zero_le _), hide (tdIs_zero zs n), HRA, HXA⟩
  case round =>
    obtain ⟨k, T, tl, rfl, rfl, HKL, HT, HR, HX⟩ := hrel
    clear HRA HXA
    by_cases hk : k < zn
    · obtain ⟨⟨i, s⟩, hzk⟩ : ∃ r, zs[k]? = some r := ⟨_, List.getElem?_eq_getElem (by rw [HZE.out]; exact hk)⟩
      obtain ⟨h1, h2, h3⟩ := HZN.out (i, s) (List.mem_of_getElem? hzk)
      have h1 : i < n := h1
      have h2 : 0 < s := h2
      have h4 := lastOf_lt HZ.out.rise hzk
      obtain ⟨la, HLA⟩ : ∃ la, Hid (lastOf zs k = la) := ⟨_, hide rfl⟩
      rw [HLA.out] at h4 ⊢
      obtain ⟨k1, HK1⟩ : ∃ k1, Hid (k + 1 = k1) := ⟨_, hide rfl⟩
      have HLN : Hid (lastOf zs k1 = (i : Int)) := hide (by
        rw [← HK1.out]
        show (match zs[k]? with | some r => (r.1 : Int) | none => -1) = _
        rw [hzk])
      obtain ⟨ga, rfl, hcell⟩ := HD.out (by intro e; rw [e] at hzk; cases hzk)
      obtain ⟨x0, x1⟩ := hcell k (i, s) hzk
      have z0 := xcell HX.out x0
      have z1 := xcell HX.out x1
      have HM3 := hide (HM2.out.ext_ HX.out)
      obtain ⟨K3, mo3⟩ := HM3.out.mo
      have c0 := mo3.c0
      have hki : (k : Int) < (zn : Int) := by omega
      have hii : (i : Int) < (n : Int) := by omega
      have hiln : ¬ (i : Int) ≤ la := by omega
      have hinn : ¬ (n : Int) ≤ (i : Int) := by omega
      have hsn : ¬ (s : Int) = 0 := by omega
      have hkw : IntKind.i64.wrap ((k : Int) + 1) = (k1 : Int) := by rw [IntKind.wrap_i64]; have := HK1.out; have := HZL.out; have := HZE.out; omega
      have HT1 : Hid (TdIs zs k1 n (T.set i (.int .u64 (s : Int))) (fun j => if j = i then s else tl j)) := hide (by rw [← HK1.out]; exact tdIs_step HT.out HZ.out.rise hzk h1)
      have t0 := HR.out.cell (HT.out.1 i h1)
      have t1 := HR.out.frozen i
      have HR1 := hide (HR.out.set i (.int .u64 (s : Int)))
      have HX1 : Hid (Ext w2 (wr.setCell ⟨gt, i, none⟩ (.int .u64 (s : Int)))) := hide (Below.setCell (p := ⟨gt, i, none⟩) HX.out (by rw [HGT.out]; exact Nat.le_refl _) _)
      have HKI := hide hk
      have HCL : Hid (∀ W, Ext wr W → W.cell? ⟨ga, k * 2, none⟩ = some (.int .i64 (i : Int)) ∧ W.cell? ⟨ga, k * 2 + 1, none⟩ = some (.int .u64 (s : Int)) ∧ W.cell? ⟨gt, i, none⟩ = some (.int .u64 (tl i : Int)) ∧ W.frozen? ⟨gt, i, none⟩ = false) := hide (fun W hW => ⟨xcell hW z0, xcell hW z1, xcell hW t0, (HR.out.ext hW).frozen i⟩)
      clear hk hzk h2 h3 x0 x1 hcell mo3 h1 h4
      go_upto_region 7 with fail
      go_quiet (fail)
      clear c0 z0 z1 t0 t1
      have HXQ : Hid (∀ m, Ext wr (wr.drewN m)) := hide (fun m => (Ext.refl _).drewN m)
      obtain ⟨z0, z1, t0, t1⟩ := HCL.out _ (HXQ.out nq)
      go_wp2
      refine ⟨⟨k1, _, _, by rw [HLN.out], rfl, hide (by have := HKI.out; have := HK1.out; omega), HT1, HR1, hide (Below.setCell (p := ⟨gt, i, none⟩) (Below.trans HX.out (HXQ.out nq |> fun h => ⟨h.os, h.tape, h.output, h.size, fun k hk => h.block k (Nat.lt_of_lt_of_le hk HX.out.size)⟩)) (by rw [HGT.out]; exact Nat.le_refl _) _)⟩, ?_⟩
      show zn - ((k1 : Int)).toNat < zn - ((k : Int)).toNat
      have := HKI.out; have := HK1.out; omega
    · obtain rfl : k = zn := by have := HKL.out; omega
      clear hk
      have HTN : Hid (∀ j, (∀ r ∈ zs, r.1 ≠ j) → tl j = 0) := hide (fun j hj => HT.out.2.2 j (fun r hr => hj r (List.mem_of_mem_take hr)))
      have HTY : Hid (∀ r ∈ zs, tl r.1 = r.2) := hide (fun r hr => HT.out.2.1 r (by rw [← HZE.out, List.take_length]; exact hr))
      have HTL : Hid (∀ j, j < n → (tl j = 0 → (S4.D.at (41 + j)).drop 8 = (l j).1) ∧ tl j ≤ (l j).2) := hide (fun j hj => by
        by_cases e : ∃ r ∈ zs, r.1 = j
        · obtain ⟨r, hr, rfl⟩ := e
          have h1 := HTY.out r hr
          obtain ⟨h2, h3, h4⟩ := HZN.out r hr
          exact ⟨fun hh => by omega, by omega⟩
        · have h1 : ∀ r ∈ zs, r.1 ≠ j := fun r hr hh => e ⟨r, hr, hh⟩
          exact ⟨fun _ => dirty_not HPV.out HZ.out hj h1, by rw [HTN.out j h1]; exact Nat.zero_le _⟩)
      have HTC : Hid (∀ j, j < n → T[j]? = some (.int .u64 (tl j : Int))) := hide HT.out.1
      have HGB : Hid (w2.heap.size ≤ gt) := hide (by rw [HGT.out]; exact Nat.le_refl _)
      have HML : Hid (m.gm < gt ∧ m.bl < gt ∧ m.bs < gt ∧ m.bp < gt ∧ m.bz < gt) := hide (by obtain ⟨K3, mo3⟩ := HM2.out.mo; rw [← HGT.out]; exact mo3.lt)
      have HMW := hide (HM2.out.ext_ HX.out)
      clear HT HX HM2 HD HZ HZN HZE HZL HTN HTY HGT HW3 H KD
      go_upto_region 12 with fail
      go_loopw [9] (fun v wr2 => ∃ i : Nat, v = .int .i64 (i : Int) ∧ Hid (i ≤ n) ∧ Hid (Ml w0 wr2 b g q p m n most l pins S4) ∧ Hid (Rw wr2 gt 33 T)) (fun v _ => n - (intOf v).toNat)
      case atStart => exact ⟨0, rfl, hide (Nat.zero_le _), HMW, HR⟩
      case round =>
        obtain ⟨i, rfl, HI, HM, HRT⟩ := hrel
        clear HR HMW
        obtain ⟨K3, mo3⟩ := HM.out.mo
        have c0 := mo3.c0
        clear mo3
        by_cases hi : i < n
        · have hii : (i : Int) < (n : Int) := by omega
          obtain ⟨i1, HI1⟩ : ∃ i1, Hid (i + 1 = i1) := ⟨_, hide rfl⟩
          have hkw : IntKind.i64.wrap ((i : Int) + 1) = (i1 : Int) := by rw [IntKind.wrap_i64]; have := HI1.out; have := HN.out; omega
          have t0 := HRT.out.cell (HTC.out i hi)
          obtain ⟨h1, h2⟩ := HTL.out i hi
          have HII := hide hi
          obtain ⟨tv, HTV⟩ : ∃ tv, Hid (tl i = tv) := ⟨_, hide rfl⟩
          rw [HTV.out] at h1 h2 t0
          clear hi
          by_cases ht : tv = 0
          · subst ht
            have HEQ := hide (h1 rfl)
            clear h1 h2
            have e0 := HM.out.v0
            obtain ⟨x, HXS⟩ : ∃ x, Hid (S4.D.at (41 + i) = x) := ⟨_, hide rfl⟩
            have HXL : Hid (x.length = 512) := hide (by rw [← HXS.out]; exact (pv_sec HPV.out HII.out).2.2)
            have KR := hide (ml_dread HM.out HPV.out HII.out)
            rw [HXS.out] at KR HEQ
            obtain ⟨s, HS⟩ : ∃ s : Int, Hid (((41 + i : Nat) : Int) = s) := ⟨_, hide rfl⟩
            have hsw : IntKind.i64.wrap (41 + (i : Int)) = s := by rw [IntKind.wrap_i64]; have := HS.out; have := HN.out; have := HII.out; omega
            rw [HS.out] at KR
            go_upto_region 16 with (go_at_call 27; (with_reducible refine KR.out.mono ?_); rintro e w4 ⟨A4, cc4, rfl, hc4, hr4, hx4⟩; have HC4 := hide hc4; have HR4 := hide hr4; have HX4 := hide hx4; clear hc4 hr4 hx4)
            clear c0 e0 t0
            obtain ⟨A8, hsl, hst⟩ := sec_str HR4.out HXL.out HC4.out
            have HM4 := hide (HM.out.ext_ HX4.out)
            obtain ⟨K4, mo4⟩ := HM4.out.mo
            have c0 := mo4.c0
            have c3 := mo4.c3
            obtain ⟨pg, pc, d0, hrp⟩ := mo4.pg HII.out
            obtain ⟨s0, z0⟩ := mo4.z HII.out
            have f3 := (mo4.fl i).2.2.2
            have hst1 := fun (m : Nat) => hst (w4.drewN m) ((Ext.refl _).drewN m)
            have hst2 := fun (m : Nat) => str_any (hrp.ext ((Ext.refl w4).drewN m)) 504 pc (mo4.len i HII.out)
            rw [HEQ.out] at hst1
            clear mo4 hrp hst
            go_quiet (fail)
            obtain ⟨w5, hw5⟩ : ∃ w5, w4.drewN nq = w5 := ⟨_, rfl⟩
            have HX5 : Hid (Ext w4 w5) := hide (by rw [← hw5]; exact (Ext.refl _).drewN nq)
            rw [hw5]
            clear hw5 c0 c3 d0 z0 f3 hst1 hst2 hsl
            have HM5 := hide (HM4.out.ext_ HX5.out)
            obtain ⟨K5, mo5⟩ := HM5.out.mo
            have c3 := mo5.c3
            obtain ⟨s5, z0⟩ := mo5.z HII.out
            have f3 := (mo5.fl i).2.2.2
            have HM6 : Hid (Ml w0 (w5.setCell ⟨m.bz, i, none⟩ (.int .u64 0)) b g q p m n most l pins S4) := hide (HM5.out.putZ HII.out 0)
            have HR6 : Hid (Rw (w5.setCell ⟨m.bz, i, none⟩ (.int .u64 0)) gt 33 T) := hide ((cell_other (by have := HML.out; omega)).trans ((HRT.out.ext HX4.out).ext HX5.out))
            clear mo5
            go_wp2
            refine ⟨⟨i1, rfl, hide (by have := HII.out; have := HI1.out; omega), HM6, HR6⟩, ?_⟩
            show n - ((i1 : Int)).toNat < n - ((i : Int)).toNat
            have := HII.out; have := HI1.out; omega
          · have hti : ¬ (tv : Int) = 0 := by omega
            have htl : ¬ ((l i).2 : Int) < (tv : Int) := by omega
            obtain ⟨ls, HLS⟩ : ∃ ls, Hid ((l i).2 = ls) := ⟨_, hide rfl⟩
            rw [HLS.out] at htl
            have CC : Hid (∀ W, Ext wr W → W.cell? ⟨m.gm, 1, none⟩ = some (.slice (some ⟨m.bs, 0, none⟩) n m.cs) ∧ W.cell? ⟨m.bs, i, none⟩ = some (.int .u64 (ls : Int)) ∧ W.cell? ⟨gt, i, none⟩ = some (.int .u64 (tv : Int))) := hide (fun W hW => by
              have hmw := HM.out.ext_ hW
              obtain ⟨K6, mo6⟩ := hmw.mo
              refine ⟨mo6.c1, ?_, xcell hW t0⟩
              have h0 := mo6.s HII.out
              rw [HLS.out] at h0
              exact h0)
            obtain ⟨c1, s1, -⟩ := CC.out wr (Ext.refl _)
            clear h1 h2 ht
            go_upto_region 19 with fail
            go_quiet (fail)
            go_wp2
            refine ⟨⟨i1, rfl, hide (by have := HII.out; have := HI1.out; omega), hide (HM.out.ext_ ((Ext.refl _).drewN _)), hide (HRT.out.ext ((Ext.refl _).drewN _))⟩, ?_⟩
            show n - ((i1 : Int)).toNat < n - ((i : Int)).toNat
            have := HII.out; have := HI1.out; omega
        · obtain rfl : i = n := by have := HI.out; omega
          clear hi
          go_wp2
          go_ret
          exact ⟨rfl, HM.out⟩
end
end Go.Proofs.YtnkcneccolbbdaaGreatDoor
namespace Go.Proofs.YtnkcneccolbbdaaGreatDoor
open Go.RowKit

section
variable {w0 w w' : World} {b g q p c : Nat} {m : Mb} {n fr most : Nat} {l : Nat → List UInt8 × Nat} {pins : Nat → Nat} {S : St}
theorem clean_dil (h : Clean S) : DiL S.P [] := ⟨List.Pairwise.nil, fun i s => ⟨fun hh => (by cases hh), fun hh => by
  rcases hh with hh | ⟨-, f, h1, h2, -⟩
  · rw [h.1 i] at hh; cases hh
  · rw [h.2 i f h1] at h2; cases h2⟩⟩
theorem dil_clean {zs : List (Nat × Nat)} (h : Clean S) (hz : DiL S.P zs) : zs = [] := by
  cases zs with
  | nil => rfl
  | cons r zs =>
    exfalso
    obtain ⟨i, s⟩ := r
    rcases (hz.mem i s).1 (List.mem_cons_self ..) with hh | ⟨-, f, h1, h2, -⟩
    · rw [h.1 i] at hh; cases hh
    · rw [h.2 i f h1] at h2; cases h2
theorem clean_settle (h : Clean S) : Clean { S with P := settleP S.L S.P } := by
  obtain ⟨e1, e2, e3, e4, e5, e6, e7, e8, e9⟩ := settleP_is S.L S.P
  refine ⟨fun i => ?_, fun i f hf => h.2 i f (by rw [← e1]; exact hf)⟩
  show (settleP S.L S.P).W i = none
  cases hw : (settleP S.L S.P).W i with
  | none => rfl
  | some s =>
    have h0 := e8 i s hw
    rw [h.1 i] at h0
    cases h0
theorem fallen_same (h : Awk S.D) (hp : S.D.pen = []) : S.D.fallen [] = S.D := by
  have h0 : ∀ D : Dk, Awk D → D.pen = [] → D.fallen [] = D := fun D h hp => by
    unfold Dk.fallen
    rw [hp]
    obtain ⟨h1, h2⟩ := h
    cases D
    simp only at h1 h2 hp
    subst h1 h2 hp
    rfl
  exact h0 _ h hp
set_option maxRecDepth 20000 in
set_option maxHeartbeats 6400000 in
theorem mlasts_any (h : Ml w0 w b g q p m n most l pins S) (pv : Pv S n fr l pins c) (hn : n ≤ 8) (hcl : Clean S) (hpn : S.D.pen = []) : Calls Tryz.prog 13 #[.pointer (some ⟨m.gm, 0, none⟩), .pointer (some ⟨b, 0, none⟩)] w (fun e w' => e = .returned (.bool true) ∧ Ml w0 w' b g q p m n most l pins S) := by
  have HN := hide hn
  have HPV := hide pv
  have HTL : Hid (∀ j, j < n → (S.D.at (41 + j)).drop 8 = (l j).1) := hide (fun j hj => dirty_not pv (clean_dil hcl) hj (fun r hr => by cases hr))
  have KS : Hid (Calls Tryz.prog 37 #[.pointer (some ⟨g, 0, none⟩), .slice none 0 0] w (fun e w' => e = .returned (.int .i64 0) ∧ Ml w0 w' b g q p m n most l pins S)) := hide (by
    obtain ⟨K, h1, h2, h3⟩ := h
    refine (wk_restart h1 pv.fit.bd).mono fun e w' hh => ?_
    obtain ⟨he, hw⟩ := hh
    rw [fallen_same pv.good.awk hpn] at hw
    exact ⟨he, Ml.of h2 h3 hw⟩)
  have e0 := h.v0
  clear h pv hn hcl hpn
  go_enter Tryz.func13, Tryz.ntmps13
  go_upto_region 3 with (go_at_call 37; (with_reducible refine KS.out.mono ?_); rintro e w2 ⟨rfl, hm2⟩; have HM2 := hide hm2; clear hm2)
  clear e0
  go_loopw [5] (fun v wr => ∃ i : Nat, v = .int .i64 (i : Int) ∧ Hid (i ≤ n) ∧ Hid (Ml w0 wr b g q p m n most l pins S)) (fun v _ => n - (intOf v).toNat)
  case atStart => exact ⟨0, rfl, hide (Nat.zero_le _), HM2⟩
  case round =>
    obtain ⟨i, rfl, HI, HM⟩ := hrel
    clear HM2
    obtain ⟨K3, mo3⟩ := HM.out.mo
    have c0 := mo3.c0
    clear mo3
    by_cases hi : i < n
    · have hii : (i : Int) < (n : Int) := by omega
      obtain ⟨i1, HI1⟩ : ∃ i1, Hid (i + 1 = i1) := ⟨_, hide rfl⟩
      have hkw : IntKind.i64.wrap ((i : Int) + 1) = (i1 : Int) := by rw [IntKind.wrap_i64]; have := HI1.out; have := HN.out; omega
      have HII := hide hi
      have HEQ := hide (HTL.out i hi)
      clear hi
      have e0 := HM.out.v0
      obtain ⟨x, HXS⟩ : ∃ x, Hid (S.D.at (41 + i) = x) := ⟨_, hide rfl⟩
      have HXL : Hid (x.length = 512) := hide (by rw [← HXS.out]; exact (pv_sec HPV.out HII.out).2.2)
      have KR := hide (ml_dread HM.out HPV.out HII.out)
      rw [HXS.out] at KR HEQ
      obtain ⟨s, HS⟩ : ∃ s : Int, Hid (((41 + i : Nat) : Int) = s) := ⟨_, hide rfl⟩
      have hsw : IntKind.i64.wrap (41 + (i : Int)) = s := by rw [IntKind.wrap_i64]; have := HS.out; have := HN.out; have := HII.out; omega
      rw [HS.out] at KR
      go_upto_region 6 with (go_at_call 27; (with_reducible refine KR.out.mono ?_); rintro e w4 ⟨A4, cc4, rfl, hc4, hr4, hx4⟩; have HC4 := hide hc4; have HR4 := hide hr4; have HX4 := hide hx4; clear hc4 hr4 hx4)
      clear c0 e0
      obtain ⟨A8, hsl, hst⟩ := sec_str HR4.out HXL.out HC4.out
      have HM4 := hide (HM.out.ext_ HX4.out)
      obtain ⟨K4, mo4⟩ := HM4.out.mo
      have c0 := mo4.c0
      obtain ⟨pg, pc, d0, hrp⟩ := mo4.pg HII.out
      have hst1 := fun (m : Nat) => hst (w4.drewN m) ((Ext.refl _).drewN m)
      have hst2 := fun (m : Nat) => str_any (hrp.ext ((Ext.refl w4).drewN m)) 504 pc (mo4.len i HII.out)
      rw [HEQ.out] at hst1
      clear mo4 hrp hst
      go_quiet (fail)
      go_wp2
      refine ⟨⟨i1, rfl, hide (by have := HII.out; have := HI1.out; omega), hide (HM4.out.ext_ ((Ext.refl _).drewN _))⟩, ?_⟩
      show n - ((i1 : Int)).toNat < n - ((i : Int)).toNat
      have := HII.out; have := HI1.out; omega
    · obtain rfl : i = n := by have := HI.out; omega
      clear hi
      go_wp2
      go_ret
      exact ⟨rfl, HM.out⟩
end
end Go.Proofs.YtnkcneccolbbdaaGreatDoor
