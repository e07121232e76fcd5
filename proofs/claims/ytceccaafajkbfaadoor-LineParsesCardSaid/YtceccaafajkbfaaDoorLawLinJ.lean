/-
  LineJoins: for every two texts the law answers true: the walk.
-/
import Derived.Test.YtceccaafajkbfaaDoorLinA
import Derived.Test.YtceccaafajkbfaaDoorGive
namespace Go.Proofs.YtceccaafajkbfaaDoor
open Go.RowKit

theorem wordsS_ok {l : List UInt8} (h : l.length ≤ 300) : wordsS l = resW l.length (mR l ⟨0, [], []⟩) := by unfold wordsS; rw [if_neg (by omega)]
theorem words_inr {l : List UInt8} {W : List (List UInt8)} {p : Nat} (hl : l.length ≤ 300) (h : wordsS l = (W, p, 0)) : mR l ⟨0, [], []⟩ = .inr W := by
  rw [wordsS_ok hl] at h
  cases hm : mR l ⟨0, [], []⟩ with
  | inl k => rw [hm] at h; unfold resW at h; simp at h
  | inr V => rw [hm] at h; unfold resW at h; simp at h; rw [h.1]
theorem words_inl {l : List UInt8} {W : List (List UInt8)} {p e : Nat} (hl : l.length ≤ 300) (h : wordsS l = (W, p, e)) (he : e ≠ 0) : ∃ k, mR l ⟨0, [], []⟩ = .inl k ∧ p = l.length - k ∧ e = 4 ∧ W = [] := by
  rw [wordsS_ok hl] at h
  cases hm : mR l ⟨0, [], []⟩ with
  | inl k => rw [hm] at h; unfold resW at h; simp at h; exact ⟨k, rfl, h.2.1.symm, h.2.2.symm, h.1⟩
  | inr V => rw [hm] at h; unfold resW at h; simp at h; omega
theorem joins_plain {a b : List UInt8} {Wa Wb : List (List UInt8)} {pa pb ea eb : Nat} (hl : a.length + b.length ≤ 299) (ha : wordsS a = (Wa, pa, ea)) (hb : wordsS b = (Wb, pb, eb)) (h0 : ea = 0) :
    (eb = 0 → wordsS (a ++ 32 :: b) = (Wa ++ Wb, 0, 0)) ∧ (eb ≠ 0 → (wordsS (a ++ 32 :: b)).2.2 = 4) := by
  subst h0
  have h1 := words_inr (by omega) ha
  have h2 := mR_join (x := ⟨0, [], []⟩) (fun _ => rfl) h1 b
  have h3 := mR_pre Wa b ⟨0, [], []⟩
  have e : (⟨0, [], []⟩ : Rdr).pre Wa = ⟨0, [], Wa⟩ := by unfold Rdr.pre; rw [List.append_nil]
  rw [e] at h3
  rw [wordsS_ok (by simp; omega), h2, h3]
  refine ⟨fun h0 => ?_, fun h0 => ?_⟩
  · subst h0
    rw [words_inr (by omega) hb]
    rfl
  · obtain ⟨k, hk, -⟩ := words_inl (by omega) hb h0
    rw [hk]
    rfl
theorem cat_list (a b : ByteArray) : a ++ ⟨#[32]⟩ ++ b = ⟨(a.data.toList ++ 32 :: b.data.toList).toArray⟩ := by
  apply ByteArray.ext
  apply Array.ext'
  simp
theorem wordsV_of {l : List UInt8} {W : List (List UInt8)} {p e : Nat} (h : wordsS l = (W, p, e)) {w : World} {v : Value} (hv : WordsV l w v) : ∃ v0, v = .tuple #[v0, .int .i64 (p : Int), .int .i64 (e : Int)] ∧ Txs W w v0 := by
  unfold WordsV at hv
  rw [h] at hv
  exact hv
theorem words_is {s : ByteArray} {W : List (List UInt8)} {p e : Nat} (h : wordsS s.data.toList = (W, p, e)) (w : World) (hT : Tabs w) (hz : s.size ≤ 140737488355328) :
    Calls Tryd.prog 10 #[.string s] w (Ret w fun w' v => ∃ v0, v = .tuple #[v0, .int .i64 (p : Int), .int .i64 (e : Int)] ∧ Txs W w' v0) :=
  (words_any s w hT hz).mono fun _ _ ⟨v, he, hx, hv⟩ => ⟨v, he, hx, wordsV_of h hv⟩

set_option maxRecDepth 20000 in
set_option maxHeartbeats 4000000 in
theorem lineJoins_walk (a b : ByteArray) (w : World) (hsa : a.size ≤ 140737488355328) (hsb : b.size ≤ 140737488355328) (hT : Tabs w) :
    Calls Tryd.prog 7 #[.string a, .string b] w (Ret w (Is (.bool true))) := by
  have KA := hide fun V (h : Ext w V) => awake_any V (hT.ext h)
  have KA0 := hide (KA.out w (Ext.refl _))
  by_cases ht : 299 < a.size + b.size
  · have hti : (299 : Int) < (a.size : Int) + (b.size : Int) := by omega
    clear ht
    go_enter Tryd.func7, Tryd.ntmps7
    go_wp2_with (first
      | (go_at_call 9; (with_reducible refine KA0.out.mono ?_); clear KA0; rintro e w1 ⟨v1, rfl, hx1, rfl⟩)
      | (go_at_call 9; (with_reducible refine (KA.out _ hx1).mono ?_); rintro e w2 ⟨v2, rfl, hx2, rfl⟩))
    go_ret
    exact Ret.mk (hx1.trans hx2) rfl
  · have hti : ¬ (299 : Int) < (a.size : Int) + (b.size : Int) := by omega
    have hla := size_len a
    have hlb := size_len b
    have htot : a.data.toList.length + b.data.toList.length ≤ 299 := by omega
    obtain ⟨Wa, pa, ea, HA⟩ : ∃ W p e, Hid (wordsS a.data.toList = (W, p, e)) := ⟨_, _, _, hide rfl⟩
    obtain ⟨Wb, pb, eb, HB⟩ : ∃ W p e, Hid (wordsS b.data.toList = (W, p, e)) := ⟨_, _, _, hide rfl⟩
    obtain ⟨Wc, pc, ec, HC⟩ : ∃ W p e, Hid (wordsS (a.data.toList ++ 32 :: b.data.toList) = (W, p, e)) := ⟨_, _, _, hide rfl⟩
    have K1 := hide fun V (h : Ext w V) => words_is HA.out V (hT.ext h) hsa
    have K2 := hide fun V (h : Ext w V) => words_is HB.out V (hT.ext h) hsb
    have K3 := hide fun V (h : Ext w V) => words_is (s := a ++ ⟨#[32]⟩ ++ b) (W := Wc) (p := pc) (e := ec) (by rw [cat_list]; exact HC.out) V (hT.ext h) (by rw [cat_list]; show (a.data.toList ++ 32 :: b.data.toList).toArray.size ≤ _; rw [List.size_toArray, List.length_append, List.length_cons]; omega)
    have HJ := hide fun h0 => joins_plain htot HA.out HB.out h0
    have hna := wordsS_count HA.out
    have hnb := wordsS_count HB.out
    have hnc := wordsS_count HC.out
    clear ht hla hlb htot hsa hsb
    by_cases h0 : ea = 0
    · subst h0
      by_cases h1 : eb = 0
      · have e := (HJ.out rfl).1 h1
        rw [HC.out] at e
        simp only [Prod.mk.injEq] at e
        obtain ⟨rfl, rfl, rfl⟩ := e
        subst h1
        obtain ⟨na, HNA⟩ : ∃ n, Hid (Wa.length = n) := ⟨_, rfl⟩
        obtain ⟨nb, HNB⟩ : ∃ n, Hid (Wb.length = n) := ⟨_, rfl⟩
        have HNC : Hid ((Wa ++ Wb).length = na + nb) := hide (by rw [List.length_append, HNA.out, HNB.out])
        rw [HNA.out] at hna
        rw [HNB.out] at hnb
        clear hnc
        go_enter Tryd.func7, Tryd.ntmps7
        go_wp2_with (first
          | (go_at_call 9; (with_reducible refine KA0.out.mono ?_); clear KA0; rintro e w1 ⟨v1, rfl, hx1, rfl⟩)
          | (go_at_call 10; (with_reducible refine (K1.out _ hx1).mono ?_); clear K1; rintro e w2 ⟨v2, rfl, hx2, v20, rfl, A2, c2, rfl, hc2, hr2⟩; have hx3 := hx1.trans hx2; rw [HNA.out])
          | (go_at_call 10; (with_reducible refine (K2.out _ hx3).mono ?_); clear K2; rintro e w4 ⟨v4, rfl, hx4, v40, rfl, A4, c4, rfl, hc4, hr4⟩; have hx5 := hx3.trans hx4; rw [HNB.out])
          | (go_at_call 10; (with_reducible refine (K3.out _ hx5).mono ?_); rintro e w6 ⟨v6, rfl, hx6, v60, rfl, A6, c6, rfl, hc6, hr6⟩; have hx7 := hx5.trans hx6; rw [HNC.out]))
        go_loopw [14] (fun i wr => ∃ k : Nat, k ≤ na + nb ∧ i = .int .i64 k ∧ Ext w6 wr) (fun i _ => na + nb - (intOf i).toNat)
        case atStart => exact ⟨0, Nat.zero_le _, rfl, Ext.refl _⟩
        case round =>
          obtain ⟨k, hk, rfl, hx⟩ := hrel
          by_cases hlt : k < na + nb
          · have hki : (k : Int) < (na : Int) + (nb : Int) := by omega
            have hkw : k < (Wa ++ Wb).length := by rw [HNC.out]; exact hlt
            have hg6 := tvs_get (Wa ++ Wb) k _ (List.getElem?_eq_getElem hkw)
            obtain ⟨b6, off6, rfl, hb6⟩ := (hr6.ext hx).at hg6
            by_cases hka : k < na
            · have hkai : (k : Int) < (na : Int) := by omega
              have hgea : ¬ (na : Int) ≤ (k : Int) := by omega
              have hgn : decide (na ≤ k) = false := decide_eq_false (by omega)
              have hln : decide (k < na) = true := decide_eq_true hka
              have hkwa : k < Wa.length := by rw [HNA.out]; exact hka
              have hg2 := tvs_get Wa k _ (List.getElem?_eq_getElem hkwa)
              obtain ⟨b2, off2, rfl, hb2⟩ := (hr2.ext (hx4.trans (hx6.trans hx))).at hg2
              rw [List.getElem_append_left hkwa] at hb6
              generalize Wa[k] = x at *
              clear hkw hg6 hkwa hg2
              go_wp2
              go_quiet (fail)
              go_wp2
              exact ⟨⟨k + 1, by omega, by go_num, Ext.drewN hx _⟩, by simp [intOf]; omega⟩
            · obtain ⟨j, rfl⟩ := Nat.exists_eq_add_of_le (Nat.le_of_not_lt hka)
              have hjn : j < nb := by omega
              have hkai : ¬ (na : Int) + (j : Int) < (na : Int) := by omega
              have hgea : (na : Int) ≤ (na : Int) + (j : Int) := by omega
              have hgi : decide ((na : Int) ≤ (na : Int) + (j : Int)) = true := decide_eq_true hgea
              have hli : decide ((na : Int) + (j : Int) < (na : Int)) = false := decide_eq_false hkai
              have hsub : (na : Int) + (j : Int) - (na : Int) = (j : Int) := by omega
              have hji : (j : Int) < (nb : Int) := by omega
              have hkwb : j < Wb.length := by rw [HNB.out]; exact hjn
              have hg4 := tvs_get Wb j _ (List.getElem?_eq_getElem hkwb)
              obtain ⟨b4, off4, rfl, hb4⟩ := (hr4.ext (hx6.trans hx)).at hg4
              have hxx : (Wa ++ Wb)[na + j] = Wb[j] := by
                rw [List.getElem_append_right (by rw [HNA.out]; omega)]
                congr 1
                rw [HNA.out]
                omega
              rw [hxx] at hb6
              generalize Wb[j] = x at *
              clear hkw hg6 hkwb hg4 hxx
              go_wp2
              go_quiet (fail)
              go_wp2
              all_goals trace_state
              exact ⟨⟨na + j + 1, by omega, by go_num, Ext.drewN hx _⟩, by simp [intOf]; omega⟩
          · obtain rfl : k = na + nb := by omega
            have hki : ¬ (na : Int) + (nb : Int) < (na : Int) + (nb : Int) := Int.lt_irrefl _
            go_wp2
            go_ret
            exact Ret.mk (hx7.trans hx) rfl
      · have h4 := (HJ.out rfl).2 h1
        rw [HC.out] at h4
        simp only at h4
        subst h4
        have hne1 : ((eb : Int) != 0) = true := by simp; omega
        have hne1' : ((eb : Int) == 0) = false := i64_ne (by omega)
        clear h1
        go_enter Tryd.func7, Tryd.ntmps7
        go_wp2_with (first
          | (go_at_call 9; (with_reducible refine KA0.out.mono ?_); clear KA0; rintro e w1 ⟨v1, rfl, hx1, rfl⟩)
          | (go_at_call 10; (with_reducible refine (K1.out _ hx1).mono ?_); clear K1; rintro e w2 ⟨v2, rfl, hx2, v20, rfl, A2, c2, rfl, hc2, hr2⟩; have hx3 := hx1.trans hx2)
          | (go_at_call 10; (with_reducible refine (K2.out _ hx3).mono ?_); clear K2; rintro e w4 ⟨v4, rfl, hx4, v40, rfl, A4, c4, rfl, hc4, hr4⟩; have hx5 := hx3.trans hx4)
          | (go_at_call 10; (with_reducible refine (K3.out _ hx5).mono ?_); rintro e w6 ⟨v6, rfl, hx6, v60, rfl, A6, c6, rfl, hc6, hr6⟩; have hx7 := hx5.trans hx6))
        go_ret
        exact Ret.mk hx7 rfl
    · have hne1 : ((ea : Int) != 0) = true := by simp; omega
      have hne1' : ((ea : Int) == 0) = false := i64_ne (by omega)
      clear h0
      go_enter Tryd.func7, Tryd.ntmps7
      go_wp2_with (first
        | (go_at_call 9; (with_reducible refine KA0.out.mono ?_); clear KA0; rintro e w1 ⟨v1, rfl, hx1, rfl⟩)
        | (go_at_call 10; (with_reducible refine (K1.out _ hx1).mono ?_); clear K1; rintro e w2 ⟨v2, rfl, hx2, v20, rfl, A2, c2, rfl, hc2, hr2⟩; have hx3 := hx1.trans hx2)
        | (go_at_call 10; (with_reducible refine (K2.out _ hx3).mono ?_); clear K2; rintro e w4 ⟨v4, rfl, hx4, v40, rfl, A4, c4, rfl, hc4, hr4⟩; have hx5 := hx3.trans hx4)
        | (go_at_call 10; (with_reducible refine (K3.out _ hx5).mono ?_); rintro e w6 ⟨v6, rfl, hx6, v60, rfl, A6, c6, rfl, hc6, hr6⟩; have hx7 := hx5.trans hx6))
      go_ret
      exact Ret.mk hx7 rfl
end Go.Proofs.YtceccaafajkbfaaDoor
