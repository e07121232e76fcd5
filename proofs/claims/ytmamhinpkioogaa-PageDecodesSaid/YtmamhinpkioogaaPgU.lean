/-
  The document's Rises and Same: contracts.
-/
import Derived.Test.YtmamhinpkioogaaPgT
namespace Go.Proofs.Ytmamhinpkioogaa
open Go.RowKit

/-- A truth, and draws. -/
def BoolP (p : Prop) (w : World) (e : Ending) (w' : World) : Prop := ∃ b, e = .returned (.bool b) ∧ (b = true ↔ p) ∧ ∃ q, w' = w.drewN q
def adj (L : List Cl) (k : Nat) : Prop := ∀ (j : Nat) (x y : Cl), j + 1 < k → L[j]? = some x → L[j + 1]? = some y → Op.bytesLess x.1 y.1 = true
theorem rises_head {x : Cl} : ∀ {L : List Cl}, Rises L → (∀ y, L[0]? = some y → Op.bytesLess x.1 y.1 = true) → ∀ y ∈ L, Op.bytesLess x.1 y.1 = true
  | [], _, _, y, hy => by cases hy
  | z :: L, hR, h, y, hy => by
    have hz := h z rfl
    rcases List.mem_cons.1 hy with rfl | hy
    · exact hz
    · exact less_trans _ _ _ hz (hR.1 y hy)
theorem rises_of_adj : ∀ {L : List Cl}, adj L L.length → Rises L
  | [], _ => trivial
  | x :: L, h => by
    have hL : Rises L := rises_of_adj (fun j a b hj ha hb => h (j + 1) a b (by simpa using hj) ha hb)
    exact ⟨rises_head hL (fun y hy => h 0 x y (by have := (List.getElem?_eq_some_iff.1 hy).1; simp; omega) rfl hy), hL⟩
theorem adj_of_rises : ∀ {L : List Cl}, Rises L → ∀ (j : Nat) (x y : Cl), L[j]? = some x → L[j + 1]? = some y → Op.bytesLess x.1 y.1 = true
  | [], _, j, x, y, h, _ => by cases h
  | z :: L, hR, 0, x, y, h, k => by
    injection h with h
    subst h
    exact hR.1 y (List.mem_of_getElem? k)
  | z :: L, hR, j + 1, x, y, h, k => adj_of_rises hR.2 j x y h k
theorem str_any {w : World} {A : Option Addr} {l : List UInt8} (h : Rd w A l) (n c : Nat) (hn : l.length = n) : (convert 28 9 (.slice A n c)).run Try.prog w = .ok (.string ⟨l.toArray⟩) w := by
  subst hn
  exact Rd.str (P := Try.prog) (w := w) h 28 9 5 c Try.underlying28 Try.underlying5 Try.underlying9
set_option maxRecDepth 20000 in
set_option maxHeartbeats 1600000 in
theorem rrises_any {A : Option Addr} {L : List Cl} (n c : Nat) (w : World) (hr : RdC w A L) (hn : L.length = n) (hnm : n ≤ 4398046511104) :
    Calls Try.prog 21 #[.slice A n c] w (BoolP (Rises L) w) := by
  have HR := hide hr
  have HN := hide hn
  have HM := hide hnm
  clear hr hn hnm
  go_enter Try.func21, Try.ntmps21
  go_wp2
  go_loopw [3] (fun iv wr => ∃ k q : Nat, 1 ≤ k ∧ k ≤ max n 1 ∧ iv = .int .i64 (k : Int) ∧ Hid (adj L k) ∧ Hid (wr = w.drewN q)) (fun iv _ => n - (intOf iv).toNat)
  case atStart => exact ⟨1, 0, Nat.le_refl _, by omega, rfl, hide (fun j x y hj => by omega), hide rfl⟩
  case round =>
    obtain ⟨k, q, hk1, hkn, rfl, HA, HX⟩ := hrel
    have HXX : Hid (Ext w wr) := hide (by rw [HX.out]; exact (Ext.refl w).drewN q)
    by_cases hlt : k < n
    · obtain ⟨m, HKM⟩ : ∃ m, Hid (k = m + 1) := ⟨k - 1, hide (by omega)⟩
      obtain ⟨x, hx⟩ : ∃ x, L[m]? = some x := ⟨_, List.getElem?_eq_getElem (by have := HN.out; have := HKM.out; omega)⟩
      obtain ⟨y, hy⟩ : ∃ x, L[k]? = some x := ⟨_, List.getElem?_eq_getElem (by have := HN.out; omega)⟩
      obtain ⟨b, off, A1, c1, A2, c2, rfl, k1, k2, -, -, q5, q6⟩ := (HR.out.ext HXX.out).at hx
      obtain ⟨b', off', B1, d1, B2, d2, hbb, m1, m2, -, -, r5, r6⟩ := (HR.out.ext HXX.out).at hy
      injection hbb with hbb
      injection hbb with e1 e2
      subst e1 e2
      have HXY := hide (And.intro hx hy)
      obtain ⟨n1, HN1⟩ : ∃ n1, Hid (x.1.length = n1) := ⟨_, hide rfl⟩
      obtain ⟨p1, HP1⟩ : ∃ p1, Hid (y.1.length = p1) := ⟨_, hide rfl⟩
      rw [HN1.out] at k1
      rw [HP1.out] at m1
      have cv1 := fun (t : Nat) => str_any (q5.drewN t) n1 c1 HN1.out
      have cv2 := fun (t : Nat) => str_any (r5.drewN t) p1 d1 HP1.out
      have hki : (k : Int) < (n : Int) := by omega
      have hk0 : (0 : Int) ≤ (k : Int) := by omega
      have hkd : (k : Int) - 1 = (m : Int) := by have := HKM.out; omega
      have hm0 : (0 : Int) ≤ (m : Int) := by omega
      have hmn : (m : Int) < (n : Int) := by have := HKM.out; omega
      have hks : IntKind.i64.wrap (m : Int) = (m : Int) := by rw [IntKind.wrap_i64]; have := HM.out; omega
      have hkb : (k : Int) < 4398046511104 := by have := HM.out; omega
      clear hx hy q5 q6 r5 r6
      have HL : Hid (Op.bytesLess x.1 y.1 = true → adj L (k + 1)) := hide (fun h j a b hj ha hb => by
        by_cases e : j + 1 = k
        · have e2 : j = m := by have := HKM.out; omega
          rw [e] at hb
          rw [e2] at ha
          rw [HXY.out.1] at ha
          rw [HXY.out.2] at hb
          injection ha with ha
          injection hb with hb
          rw [← ha, ← hb]; exact h
        · exact HA.out j a b (by omega) ha hb)
      cases hless : Op.bytesLess x.1 y.1 with
      | true =>
        have HA2 := hide (HL.out hless)
        go_wp2
        go_quiet (fail)
        go_wp2
        clear hks
        refine ⟨⟨k + 1, q + nq, by omega, by omega, by go_num, HA2, hide (by rw [HX.out, World.drewN_drewN])⟩, by simp [intOf]; omega⟩
      | false =>
        go_wp2
        go_quiet (fail)
        go_wp2
        go_ret
        refine ⟨false, rfl, ⟨fun h => (by cases h), fun h => ?_⟩, q + nq, by rw [HX.out, World.drewN_drewN]⟩
        have := adj_of_rises h m x y HXY.out.1 (by have := HKM.out; rw [← this]; exact HXY.out.2)
        rw [hless] at this
        cases this
    · have hki : ¬ (k : Int) < (n : Int) := by omega
      have HRI : Hid (Rises L) := hide (rises_of_adj (fun j a b hj ha hb => HA.out j a b (by rw [HN.out] at hj; omega) ha hb))
      go_wp2
      go_ret
      exact ⟨true, rfl, ⟨fun _ => HRI.out, fun _ => rfl⟩, q, HX.out⟩
set_option maxRecDepth 20000 in
set_option maxHeartbeats 3200000 in
theorem rsame_any {A B : Option Addr} {L M : List Cl} (n m c d : Nat) (w : World) (hr : RdC w A L) (hs : RdC w B M) (hn : L.length = n) (hm : M.length = m) (hnm : n ≤ 4398046511104) :
    Calls Try.prog 19 #[.slice A n c, .slice B m d] w (BoolP (L = M) w) := by
  have HR := hide hr
  have HS := hide hs
  have HN := hide hn
  have HM := hide hm
  have HB := hide hnm
  clear hr hs hn hm hnm
  by_cases hnm : n = m
  · have HNM := hide hnm
    subst hnm
    go_enter Try.func19, Try.ntmps19
    go_wp2
    go_loopw [5] (fun iv wr => ∃ k q : Nat, k ≤ n ∧ iv = .int .i64 (k : Int) ∧ Hid (L.take k = M.take k) ∧ Hid (wr = w.drewN q)) (fun iv _ => n - (intOf iv).toNat)
    case atStart => exact ⟨0, 0, Nat.zero_le _, rfl, hide rfl, hide rfl⟩
    case round =>
      obtain ⟨k, q, hk, rfl, HA, HX⟩ := hrel
      have HXX : Hid (Ext w wr) := hide (by rw [HX.out]; exact (Ext.refl w).drewN q)
      by_cases hlt : k < n
      · obtain ⟨x, hx⟩ : ∃ x, L[k]? = some x := ⟨_, List.getElem?_eq_getElem (by have := HN.out; omega)⟩
        obtain ⟨y, hy⟩ : ∃ x, M[k]? = some x := ⟨_, List.getElem?_eq_getElem (by have := HM.out; omega)⟩
        obtain ⟨b, off, A1, c1, A2, c2, rfl, k1, k2, -, -, q5, q6⟩ := (HR.out.ext HXX.out).at hx
        obtain ⟨o, ofo, B1, d1, B2, d2, rfl, m1, m2, -, -, r5, r6⟩ := (HS.out.ext HXX.out).at hy
        have HXY := hide (And.intro hx hy)
        obtain ⟨n1, HN1⟩ : ∃ n1, Hid (x.1.length = n1) := ⟨_, hide rfl⟩
        obtain ⟨p1, HP1⟩ : ∃ p1, Hid (y.1.length = p1) := ⟨_, hide rfl⟩
        obtain ⟨n2, HN2⟩ : ∃ n1, Hid (x.2.length = n1) := ⟨_, hide rfl⟩
        obtain ⟨p2, HP2⟩ : ∃ p1, Hid (y.2.length = p1) := ⟨_, hide rfl⟩
        rw [HN1.out] at k1
        rw [HP1.out] at m1
        rw [HN2.out] at k2
        rw [HP2.out] at m2
        have cv1 := fun (t : Nat) => str_any (q5.drewN t) n1 c1 HN1.out
        have cv2 := fun (t : Nat) => str_any (r5.drewN t) p1 d1 HP1.out
        have cv3 := fun (t : Nat) => str_any (q6.drewN t) n2 c2 HN2.out
        have cv4 := fun (t : Nat) => str_any (r6.drewN t) p2 d2 HP2.out
        have hki : (k : Int) < (n : Int) := by omega
        have hk0 : (0 : Int) ≤ (k : Int) := by omega
        have hkb : (k : Int) < 4398046511104 := by have := HB.out; omega
        clear hx hy q5 q6 r5 r6
        have HNO : Hid (x ≠ y → ¬ L = M) := hide (fun h e => h (by
          have h1 := HXY.out.1
          rw [e, HXY.out.2] at h1
          injection h1 with h1
          exact h1.symm))
        have HYES : Hid (x = y → L.take (k + 1) = M.take (k + 1)) := hide (fun e => by rw [List.take_add_one, List.take_add_one, HXY.out.1, HXY.out.2, HA.out, e])
        by_cases e1 : x.1 = y.1
        · have hb1 : (x.1 == y.1) = true := by rw [e1]; simp
          by_cases e2 : x.2 = y.2
          · have hb2 : (x.2 == y.2) = true := by rw [e2]; simp
            have HT := hide (HYES.out (Prod.ext e1 e2))
            clear e1 e2
            go_wp2
            go_quiet (fail)
            go_wp2
            refine ⟨⟨k + 1, q + nq, by omega, by go_num, HT, hide (by rw [HX.out, World.drewN_drewN])⟩, by simp [intOf]; omega⟩
          · have hb2 : (x.2 == y.2) = false := beq_eq_false_iff_ne.2 e2
            have HF := hide (HNO.out (fun h => e2 (by rw [h])))
            clear e1 e2
            go_wp2
            go_quiet (fail)
            go_wp2
            go_ret
            exact ⟨false, rfl, ⟨fun h => (by cases h), fun h => absurd h HF.out⟩, q + nq, by rw [HX.out, World.drewN_drewN]⟩
        · have hb1 : (x.1 == y.1) = false := beq_eq_false_iff_ne.2 e1
          have HF := hide (HNO.out (fun h => e1 (by rw [h])))
          clear e1
          go_wp2
          go_quiet (fail)
          go_wp2
          go_ret
          exact ⟨false, rfl, ⟨fun h => (by cases h), fun h => absurd h HF.out⟩, q + nq, by rw [HX.out, World.drewN_drewN]⟩
      · have hki : ¬ (k : Int) < (n : Int) := by omega
        have HE : Hid (L = M) := hide (by
          have := HA.out
          rw [List.take_of_length_le (by rw [HN.out]; omega), List.take_of_length_le (by rw [HM.out]; omega)] at this
          exact this)
        go_wp2
        go_ret
        exact ⟨true, rfl, ⟨fun _ => HE.out, fun _ => rfl⟩, q, HX.out⟩
  · have hbe : ((n : Int) == (m : Int)) = false := beq_eq_false_iff_ne.2 (by omega)
    have hbe2 : ¬ ((n : Int) = (m : Int)) := by omega
    have hbe3 : ((n : Int) != (m : Int)) = true := by simp; omega
    have HF : Hid (¬ L = M) := hide (fun e => hnm (by rw [← HN.out, ← HM.out, e]))
    clear hnm
    go_enter Try.func19, Try.ntmps19
    go_wp2
    go_ret
    exact ⟨false, rfl, ⟨fun h => (by cases h), fun h => absurd h HF.out⟩, 0, rfl⟩
end Go.Proofs.Ytmamhinpkioogaa
