/-
  The document's Get.
-/
import Derived.Test.YtmabminjmcjafaaDskUp
namespace Go.Proofs.Ytmabminjmcjafaa
open Go.RowKit

/-- What a sector reads as behind so many writes. -/
def rAt (D : Dk) (k i : Nat) : List UInt8 := (D.pen.take i).foldl (fun s x => if x.1 = k then x.2 else s) (D.dur.getD k [])
theorem rAt_succ {D : Dk} {k i : Nat} {x : Nat × List UInt8} (h : D.pen[i]? = some x) : rAt D k (i + 1) = if x.1 = k then x.2 else rAt D k i := by
  unfold rAt
  rw [List.take_add_one, h]
  simp
theorem lastP_le (pen : List (Nat × List UInt8)) (k : Nat) : lastP pen k ≤ pen.length := by
  rcases lastP_at pen.length pen k rfl with h | ⟨s, h1, h2, h3⟩
  · omega
  · exact h2
theorem rAt_all (D : Dk) (k : Nat) : rAt D k D.pen.length = D.at k := by
  have key : ∀ i, i ≤ D.pen.length → rAt D k i = if lastP (D.pen.take i) k = 0 then D.dur.getD k [] else ((D.pen.take i).getD (lastP (D.pen.take i) k - 1) (0, [])).2 := by
    intro i
    induction i with
    | zero => intro _; simp [rAt, lastP_nil]
    | succ i ih =>
      intro hi
      obtain ⟨x, hx⟩ : ∃ x, D.pen[i]? = some x := ⟨_, List.getElem?_eq_getElem (by omega)⟩
      have hl : (D.pen.take i).length = i := by rw [List.length_take]; omega
      have e : D.pen.take (i + 1) = D.pen.take i ++ [x] := by rw [List.take_add_one, hx]; rfl
      rw [rAt_succ hx, e, lastP_snoc, hl]
      by_cases hk : x.1 = k
      · rw [if_pos hk, if_pos hk, if_neg (by omega)]
        simp only [Nat.add_sub_cancel, List.getD_eq_getElem?_getD]
        rw [List.getElem?_append_right (by omega), hl]
        simp
      · rw [if_neg hk, if_neg hk, ih (by omega)]
        by_cases h0 : lastP (D.pen.take i) k = 0
        · rw [if_pos h0, if_pos h0]
        · rw [if_neg h0, if_neg h0]
          have := lastP_le (D.pen.take i) k
          simp only [List.getD_eq_getElem?_getD]
          rw [List.getElem?_append_left (by omega)]
  have h := key D.pen.length (Nat.le_refl _)
  rw [List.take_length] at h
  rw [h]
  rfl
section
variable {B g gl cl c : Nat} {w : World} {A : Option Addr} {D : Dk} {rest : List Value}
theorem rget_arg (h : RefAt B w g gl cl A c rest D) (hlen : D.dur.length ≤ 4096) (i : Int) (hi : i < 0 ∨ (D.dur.length : Int) ≤ i) : Calls Try.prog 19 #[.pointer (some ⟨g, 0, none⟩), .int .i64 i] w (Same w (.tuple #[.string ⟨#[]⟩, .int .i64 1])) := by
  obtain ⟨c0, -⟩ := ref_cells h
  have hl : (D.dur.length : Int) ≤ 4096 := by omega
  generalize D.dur.length = q at *
  by_cases hlt : i < 0
  · clear h hi
    go_enter Try.func19, Try.ntmps19
    go_wp2
    go_ret2
    exact ⟨rfl, rfl⟩
  · have hge : (q : Int) ≤ i := by omega
    clear h hi
    go_enter Try.func19, Try.ntmps19
    go_wp2
    go_ret2
    exact ⟨rfl, rfl⟩
theorem rget_off (h : RefAt B w g gl cl A c rest D) (hlen : D.dur.length ≤ 4096) (k : Nat) (hk : k < D.dur.length) (hoff : D.off = true) : Calls Try.prog 19 #[.pointer (some ⟨g, 0, none⟩), .int .i64 (k : Int)] w (Same w (.tuple #[.string ⟨#[]⟩, .int .i64 8])) := by
  obtain ⟨c0, -, -, c3, -⟩ := ref_cells h
  rw [hoff] at c3
  have hl : (D.dur.length : Int) ≤ 4096 := by omega
  have hkI : (k : Int) < (D.dur.length : Int) := by omega
  generalize D.dur.length = q at *
  have h1 : ¬ (k : Int) < 0 := by omega
  have h2 : ¬ (q : Int) ≤ (k : Int) := by omega
  clear h hk hkI hoff
  go_enter Try.func19, Try.ntmps19
  go_wp2
  go_ret2
  exact ⟨rfl, rfl⟩
set_option maxRecDepth 20000 in
set_option maxHeartbeats 3200000 in
theorem rget_any (h : RefAt B w g gl cl A c rest D) (hlen : D.dur.length ≤ 4096) (hoff : D.off = false) (hf : D.pen.length < 1000000) (k : Nat) (hk : k < D.dur.length) : Calls Try.prog 19 #[.pointer (some ⟨g, 0, none⟩), .int .i64 (k : Int)] w (Same w (.tuple #[.string ⟨(D.at k).toArray⟩, .int .i64 0])) := by
  obtain ⟨c0, c1, -, c3, -⟩ := ref_cells h
  rw [hoff] at c3
  obtain ⟨s, hs⟩ : ∃ s, D.dur[k]? = some s := ⟨_, List.getElem?_eq_getElem hk⟩
  have cs : w.cell? ⟨gl, k, none⟩ = some (.string ⟨s.toArray⟩) := h.dur.cell (by rw [List.getElem?_append_left (by rw [tvs_length]; exact hk)]; exact tvs_get _ _ _ hs)
  have H := hide h
  have HS := hide (show rAt D k 0 = s from by simp [rAt, List.getD_eq_getElem?_getD, hs])
  obtain ⟨m, HM⟩ : ∃ m, Hid (D.pen.length = m) := ⟨_, hide rfl⟩
  have hm : (m : Int) < 1000000 := by have := HM.out; omega
  rw [HM.out] at c1
  obtain ⟨t, HT⟩ : ∃ t, Hid (D.at k = t) := ⟨_, hide rfl⟩
  rw [HT.out]
  have hl : (D.dur.length : Int) ≤ 4096 := by omega
  have hkI : (k : Int) < (D.dur.length : Int) := by omega
  generalize D.dur.length = q at *
  have h1 : ¬ (k : Int) < 0 := by omega
  have h2 : ¬ (q : Int) ≤ (k : Int) := by omega
  clear h hk hoff hf hs
  go_enter Try.func19, Try.ntmps19
  go_upto_region 7 with fail
  clear hkI h1 h2 cs c3 c0
  go_loopw [6, 7] (fun sv iv wr => ∃ (i : Nat) (u : List UInt8), i ≤ m ∧ iv = .int .i64 (i : Int) ∧ sv = .string ⟨u.toArray⟩ ∧ Hid (rAt D k i = u) ∧ wr = w) (fun _ iv _ => m - (intOf iv).toNat)
  case atStart => exact ⟨0, s, Nat.zero_le _, rfl, rfl, HS, rfl⟩
  case round =>
    obtain ⟨i, u, hi, rfl, rfl, HU, rfl⟩ := hrel
    by_cases hlt : i < m
    · have hii : (i : Int) < (m : Int) := by omega
      obtain ⟨x, hx⟩ : ∃ x, D.pen[i]? = some x := ⟨_, List.getElem?_eq_getElem (by rw [HM.out]; exact hlt)⟩
      have hown := H.out.pen
      obtain ⟨e1, e2⟩ := wvs_get D.pen i x hx
      obtain ⟨b, hA⟩ : ∃ b, A = some ⟨b, 0, none⟩ := by
        rcases hown.2 with ⟨_, h0⟩ | ⟨g2, cap, cur, hv, _⟩
        · rw [HM.out] at h0; omega
        · injection hv with hv; exact ⟨g2, hv⟩
      subst hA
      have k1 := hown.cells (g := b) rfl (i * 2) _ e1
      have k2 := hown.cells (g := b) rfl (i * 2 + 1) _ e2
      rw [add_flat, Nat.zero_add] at k1 k2
      have HSU := hide (rAt_succ (k := k) hx)
      clear hown e1 e2 hx
      by_cases hxk : x.1 = k
      · have hb : ((x.1 : Int) == (k : Int)) = true := by simp [hxk]
        have HU2 : Hid (rAt D k (i + 1) = x.2) := hide (by rw [HSU.out, if_pos hxk])
        clear hxk
        go_wp2
        exact ⟨⟨i + 1, x.2, by omega, by go_num, rfl, HU2, trivial⟩, by simp [intOf]; omega⟩
      · have hb : ((x.1 : Int) == (k : Int)) = false := by simp; omega
        have HU2 : Hid (rAt D k (i + 1) = u) := hide (by rw [HSU.out, if_neg hxk, HU.out])
        clear hxk
        go_wp2
        exact ⟨⟨i + 1, u, by omega, by go_num, rfl, HU2, trivial⟩, by simp [intOf]; omega⟩
    · obtain rfl : m = i := by omega
      have hii : ¬ (m : Int) < (m : Int) := by omega
      obtain rfl : u = t := by rw [← HU.out, ← HT.out, ← HM.out, rAt_all]
      go_wp2
      go_ret2
      exact ⟨rfl, rfl⟩
end
end Go.Proofs.Ytmabminjmcjafaa
