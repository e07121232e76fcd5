/-
  The document's Drop: contract.
-/
import Derived.Test.YtmamhinpkioogaaPgW
namespace Go.Proofs.Ytmamhinpkioogaa
open Go.RowKit

def dropF (L : List Cl) (key : List UInt8) : List Cl := L.filter fun y => y.1 != key
theorem dropF_all {a : List Cl} {key : List UInt8} (h : ∀ y ∈ a, y.1 ≠ key) : dropF a key = a := by
  unfold dropF
  rw [List.filter_eq_self]
  intro y hy
  simpa using h y hy
theorem dropF_repl {L : List Cl} (hR : Rises L) (key : List UInt8) : dropF L key = repl L key [] := by
  obtain ⟨h1, h2⟩ := parts hR key
  have e1 := dropF_all (a := L.take (ix L key)) (key := key) (fun y hy => ne_of_less (h1 y hy))
  have e2 := dropF_all (a := L.drop (ix L key + if hs L key then 1 else 0)) (key := key) (fun y hy => (ne_of_less (h2 y hy)).symm)
  have es : dropF L key = dropF (L.take (ix L key)) key ++ dropF (L.drop (ix L key)) key := by
    unfold dropF
    rw [← List.filter_append, List.take_append_drop]
  unfold repl
  rw [List.append_nil, es, e1]
  congr 1
  have hat := hs_at hR key
  cases hh : hs L key with
  | false =>
    rw [hh] at e2
    simpa using e2
  | true =>
    rw [hh] at e2 hat
    obtain ⟨y, hy⟩ : ∃ y, L[ix L key]? = some y := by
      cases hq : L[ix L key]? with
      | none => rw [hq] at hat; cases hat
      | some y => exact ⟨y, rfl⟩
    rw [hy] at hat
    have hy2 : y.1 = key := by simpa using hat.symm
    obtain ⟨hlt, hyy⟩ := List.getElem?_eq_some_iff.1 hy
    rw [List.drop_eq_getElem_cons hlt, hyy]
    have : dropF (y :: L.drop (ix L key + 1)) key = dropF (L.drop (ix L key + 1)) key := by
      unfold dropF
      rw [List.filter_cons, if_neg (by rw [hy2]; simp)]
    rw [this]
    simpa using e2
theorem dropF_snoc (L : List Cl) (key : List UInt8) (k : Nat) (y : Cl) (h : L[k]? = some y) : dropF (L.take (k + 1)) key = if y.1 = key then dropF (L.take k) key else dropF (L.take k) key ++ [y] := by
  unfold dropF
  rw [List.take_add_one, h, List.filter_append]
  by_cases hk : y.1 = key
  · rw [if_pos hk]
    simp [hk]
  · rw [if_neg hk]
    simp [hk]
set_option maxRecDepth 20000 in
set_option maxHeartbeats 3200000 in
theorem rdrop_any {A : Option Addr} {L : List Cl} (key : List UInt8) (n c : Nat) (w : World) (hr : RdC w A L) (hn : L.length = n) (hl : n ≤ 10000) (hR : Rises L) :
    Calls Try.prog 26 #[.slice A n c, .string ⟨key.toArray⟩] w (Ret w (Cells (repl L key []))) := by
  have HN := hide hn
  have HL : Hid (n ≤ 10000) := hide hl
  have HR := hide hr
  obtain ⟨RD, HRD⟩ : ∃ RD, Hid (repl L key [] = RD) := ⟨_, hide rfl⟩
  have HDR := hide (dropF_repl hR key)
  rw [HRD.out] at HDR ⊢
  clear hr hn hl hR
  go_enter Try.func26, Try.ntmps26
  go_wp2
  go_loopw [5, 6] (fun ov iv wr => ∃ k : Nat, k ≤ n ∧ iv = .int .i64 (k : Int) ∧ Hid (OwnV w w.heap.size (dropF (L.take k) key) wr ov) ∧ Hid (Ext w wr)) (fun _ iv _ => n - (intOf iv).toNat)
  case atStart => exact ⟨0, Nat.zero_le _, rfl, hide ⟨[], World.ownsRow_nil _ _ _ _, rfl, fun j y h => by cases h⟩, hide (Ext.refl _)⟩
  case round =>
    obtain ⟨k, hk, rfl, HO, HX⟩ := hrel
    have hl1 : (n : Int) ≤ 10000 := by have := HL.out; omega
    have HOL : Hid ((dropF (L.take k) key).length ≤ 10000) := hide (by have h1 := List.length_filter_le (fun y : Cl => y.1 != key) (L.take k); rw [List.length_take] at h1; have := HN.out; have := HL.out; unfold dropF; omega)
    by_cases hlt : k < n
    · obtain ⟨y, hy⟩ : ∃ y, L[k]? = some y := ⟨_, List.getElem?_eq_getElem (by have := HN.out; omega)⟩
      obtain ⟨bl, off, B1, d1, B2, d2, rfl, m1, m2, g1, g2, r1, r2⟩ := (HR.out).at hy
      replace m1 := HX.out.keeps.cell m1
      replace m2 := HX.out.keeps.cell m2
      have HSN := hide (dropF_snoc L key k y hy)
      have HRY := hide (And.intro r1 (And.intro r2 (And.intro g1 g2)))
      obtain ⟨p1, HP1⟩ : ∃ p1, Hid (y.1.length = p1) := ⟨_, hide rfl⟩
      obtain ⟨p2, HP2⟩ : ∃ p2, Hid (y.2.length = p2) := ⟨_, hide rfl⟩
      rw [HP1.out] at m1
      rw [HP2.out] at m2
      have cvy := fun (t : Nat) => str_any ((r1.ext HX.out).drewN t) p1 d1 HP1.out
      have cv0 := str_any (r1.ext HX.out) p1 d1 HP1.out
      have hki : (k : Int) < (n : Int) := by omega
      have hk0 : (0 : Int) ≤ (k : Int) := by omega
      clear hy g1 g2 r1 r2
      by_cases hyk : y.1 = key
      · have hne : (y.1 == key) = true := by rw [hyk]; simp
        rw [if_pos hyk] at HSN
        clear hyk
        go_wp2
        refine ⟨⟨k + 1, by omega, by go_num, by rw [HSN.out]; exact HO, HX⟩, by simp [intOf]; omega⟩
      · have hne : (y.1 == key) = false := beq_eq_false_iff_ne.2 hyk
        rw [if_neg hyk] at HSN
        clear hyk
        go_wp2_with (first
          | ((with_reducible show wpList _ _ _ (⟨some 26, _, _, _, _, _⟩ :: _) _ _); refine wpList_gives (gives_buildSlice rfl [(0, .agg #[.slice B1 p1 d1, .slice B2 p2 d2])] rfl (build_cell _ _ _ B1 B2 p1 p2 d1 d2 rfl rfl) ⟨rfl, rfl⟩) rfl ?_)
          | (at_builtin; refine wpList_pushC rfl (.tmp 21) (.tmp 26) rfl _ (dropF (L.take k) key) y B1 B2 p1 p2 d1 d2 rfl rfl HO.out HP1.out HP2.out (by rw [← HP1.out]; exact HRY.out.2.2.1) (by rw [← HP2.out]; exact HRY.out.2.2.2) HRY.out.1 HRY.out.2.1 HX.out (by have := HOL.out; omega) ?_; intro vw2 w2 ho hx; have O2 := hide ho; have X2 := hide hx; clear ho hx))
        rw [← HSN.out] at O2
        refine ⟨⟨k + 1, by omega, by go_num, O2, X2⟩, by simp [intOf]; omega⟩
    · have hki : ¬ (k : Int) < (n : Int) := by omega
      have HLK : Hid (L.take k = L) := hide (List.take_of_length_le (by rw [HN.out]; omega))
      rw [HLK.out, HDR.out] at HO
      go_wp2
      go_ret
      exact Ret.mk HX.out (OwnV.cells HO.out HX.out)
end Go.Proofs.Ytmamhinpkioogaa
