/-
  bytes.Compare, bytes.Clone, and a cell of one's own: contracts.
-/
import Derived.Test.YtmamhinpkioogaaPgS
import Derived.Lib.Bytealg
import Derived.Lib.UnsafeStr
namespace Go.Proofs.Ytmamhinpkioogaa
open Go.RowKit

/-- How two lists of bytes stand. -/
def cmpB (a b : List UInt8) : Int := Lib.compareBytes a b
theorem cmpB_lt (a b : List UInt8) : cmpB a b < 0 ↔ Op.bytesLess a b = true := by
  unfold cmpB
  induction a generalizing b with
  | nil => cases b <;> simp [Lib.compareBytes, Op.bytesLess]
  | cons x a ih =>
    cases b with
    | nil => simp [Lib.compareBytes, Op.bytesLess]
    | cons y b =>
      have h := ih b
      simp only [Lib.compareBytes, Op.bytesLess, Bool.or_eq_true, Bool.and_eq_true, decide_eq_true_eq, beq_iff_eq]
      by_cases h1 : x < y
      · simp [h1]
      · by_cases h2 : y < x
        · rw [if_neg h1, if_pos h2]
          constructor
          · intro h3; omega
          · rintro (h3 | ⟨h3, _⟩)
            · exact absurd h3 h1
            · subst h3; exact absurd h2 h1
        · rw [if_neg h1, if_neg h2, h]
          have e : x = y := by
            apply UInt8.toNat_inj.1
            rw [UInt8.lt_iff_toNat_lt] at h1 h2
            omega
          subst e
          simp
theorem cmpB_zero (a b : List UInt8) : cmpB a b = 0 ↔ a = b := by
  unfold cmpB
  induction a generalizing b with
  | nil => cases b <;> simp [Lib.compareBytes]
  | cons x a ih =>
    cases b with
    | nil => simp [Lib.compareBytes]
    | cons y b =>
      have h := ih b
      simp only [Lib.compareBytes]
      by_cases h1 : x < y
      · rw [if_pos h1]
        constructor
        · intro h3; omega
        · rintro h3; injection h3 with h3 _; subst h3; exact absurd h1 (UInt8.lt_irrefl _)
      · by_cases h2 : y < x
        · rw [if_neg h1, if_pos h2]
          constructor
          · intro h3; omega
          · rintro h3; injection h3 with h3 _; subst h3; exact absurd h2 (UInt8.lt_irrefl _)
        · rw [if_neg h1, if_neg h2, h]
          have e : x = y := by
            apply UInt8.toNat_inj.1
            rw [UInt8.lt_iff_toNat_lt] at h1 h2
            omega
          subst e
          simp
theorem run_loadBs {P : Program} {w : World} : ∀ (l : List UInt8) (a : Addr) (acc : ByteArray), (∀ j x, l[j]? = some x → w.cell? (a.add j) = some (.int .u8 x.toNat)) →
    (Extern.Bytes.loadBytes a l.length acc).run P w = .ok ⟨acc.data ++ l.toArray⟩ w
  | [], a, acc, _ => by simp [Extern.Bytes.loadBytes]
  | x :: l, a, acc, h => by
    have h0 : w.cell? a = some (.int .u8 x.toNat) := by
      have := h 0 x rfl
      simpa [Addr.add] using this
    have ih := run_loadBs (P := P) l (a.add 1) (acc.push x) (fun j y hy => by
      have := h (j + 1) y (by simpa using hy)
      have e : (a.add 1).add j = a.add (j + 1) := by
        unfold Addr.add
        by_cases hj : j = 0
        · subst hj; simp
        · simp [hj]; omega
      rw [e]; exact this)
    have hx : ((x.toNat : Int).toNat).toUInt8 = x := by simp
    simp only [List.length_cons, Extern.Bytes.loadBytes, Sem.run_bind, run_load, h0, Result.andThen, hx]
    rw [ih]
    congr 1
    apply ByteArray.ext
    simp
theorem run_bytesOf {P : Program} {w : World} {A : Option Addr} {l : List UInt8} (h : Rd w A l) (n c : Nat) (hn : l.length = n) : (Extern.Bytes.bytesOf (.slice A n c)).run P w = .ok ⟨l.toArray⟩ w := by
  subst hn
  rcases A with _ | a
  · have hl : l = [] := by
      cases l with
      | nil => rfl
      | cons x xs => obtain ⟨_, _, hA, _⟩ := h (by simp); cases hA
    subst hl
    rfl
  · have e := run_loadBs (P := P) (w := w) l a .empty (fun j x hj => h.cells rfl (by intro e; subst e; simp at hj) j _ (by rw [bs_get, hj]; rfl))
    show (Extern.Bytes.loadBytes a l.length .empty).run P w = _
    rw [e]
    congr 1
    apply ByteArray.ext
    show #[] ++ l.toArray = l.toArray
    simp
theorem run_compare {P : Program} {w : World} {A B : Option Addr} {l m : List UInt8} (hA : Rd w A l) (hB : Rd w B m) (n c p d : Nat) (hn : l.length = n) (hp : m.length = p) :
    (Extern.BytealgCompare.compare #[.slice A n c, .slice B p d]).run P w = .ok (.int .i64 (cmpB l m)) w := by
  change Sem.run P (do pure (goInt (Extern.BytealgCompare.cmp (← Extern.Bytes.bytesOf (.slice A n c)) (← Extern.Bytes.bytesOf (.slice B p d))))) w = _
  simp only [Sem.run_bind, Sem.run_pure, Result.andThen, run_bytesOf hA n c hn, run_bytesOf hB p d hp]
  rw [Lib.cmp_eq]
  rfl
set_option maxRecDepth 20000 in
set_option maxHeartbeats 800000 in
theorem compare_any {A B : Option Addr} {l m : List UInt8} (n c p d : Nat) (w : World) (hA : Rd w A l) (hB : Rd w B m) (hn : l.length = n) (hp : m.length = p) :
    Calls Try.prog 35 #[.slice A n c, .slice B p d] w (fun e w' => e = .returned (.int .i64 (cmpB l m)) ∧ w = w') := by
  have HR := hide (run_compare (P := Try.prog) hA hB n c p d hn hp)
  clear hA hB hn hp
  go_enter Try.func35, Try.ntmps35
  go_wp2
  rw [run_callFunc_extern Try.func38 (by kernel_rfl) (by kernel_rfl) (by kernel_rfl) (e := Extern.BytealgCompare.compare) (by kernel_rfl), HR.out]
  simp only [Result.andThen]
  rw [Oper.upon_value]
  go_wp2
  go_ret
  exact ⟨rfl, rfl⟩
end Go.Proofs.Ytmamhinpkioogaa
