/-
  The document's Size and Halves: contracts.
-/
import Derived.Test.YtmamhinpkioogaaPgB
namespace Go.Proofs.Ytmamhinpkioogaa
open Go.RowKit

theorem ref_wraps {s n1 n2 : Nat} (h : s ≤ 281474976710656000) (h1 : n1 ≤ 140737488351232) (h2 : n2 ≤ 140737488351232) : IntKind.i64.wrap ((n1 : Int) + (n2 : Int)) = (n1 : Int) + (n2 : Int) ∧ IntKind.i64.wrap ((n1 : Int) + (n2 : Int) + 2) = (n1 : Int) + (n2 : Int) + 2 ∧ IntKind.i64.wrap ((s : Int) + ((n1 : Int) + (n2 : Int) + 2)) = (s : Int) + ((n1 : Int) + (n2 : Int) + 2) := by
  simp only [IntKind.wrap_i64]; omega
set_option maxRecDepth 20000 in
set_option maxHeartbeats 1600000 in
theorem rsize_any {A : Option Addr} {L : List Cl} (n c : Nat) (w : World) (hr : RdC w A L) (hn : L.length = n) (hl : n ≤ 1000) (hS : Small L) :
    Calls Try.prog 15 #[.slice A n c] w (fun e w' => e = .returned (.int .i64 (szs L : Int)) ∧ ∃ q, w' = w.drewN q) := by
  have HR := hide hr
  have HN := hide hn
  have HS := hide hS
  have HL := hide hl
  clear hr hn hl hS
  go_enter Try.func15, Try.ntmps15
  go_wp2
  go_loopw [3, 4] (fun sv iv wr => ∃ k q : Nat, k ≤ n ∧ sv = .int .i64 (szs (L.take k) : Int) ∧ iv = .int .i64 (k : Int) ∧ Hid (wr = w.drewN q)) (fun _ iv _ => n - (intOf iv).toNat)
  case atStart => exact ⟨0, 0, Nat.zero_le _, rfl, rfl, hide rfl⟩
  case round =>
    obtain ⟨k, q, hk, rfl, rfl, HX⟩ := hrel
    have HXX : Hid (Ext w wr) := hide (by rw [HX.out]; exact (Ext.refl w).drewN q)
    by_cases hlt : k < n
    · obtain ⟨x, hx⟩ : ∃ x, L[k]? = some x := ⟨_, List.getElem?_eq_getElem (by rw [HN.out]; exact hlt)⟩
      obtain ⟨b, off, A1, c1, A2, c2, rfl, k1, k2, -, -, -, -⟩ := (HR.out.ext HXX.out).at hx
      have hsm := HS.out.at hx
      have HSN := hide (szs_snoc L k x hx)
      obtain ⟨s, HSS⟩ : ∃ s, Hid (szs (L.take k) = s) := ⟨_, hide rfl⟩
      have hsl : s ≤ 281474976710656000 := by rw [← HSS.out]; exact szs_take_le HS.out (by rw [HN.out]; exact HL.out) k
      obtain ⟨n1, HN1⟩ : ∃ n1, Hid (x.1.length = n1) := ⟨_, hide rfl⟩
      obtain ⟨n2, HN2⟩ : ∃ n2, Hid (x.2.length = n2) := ⟨_, hide rfl⟩
      rw [HN1.out] at k1 hsm
      rw [HN2.out] at k2 hsm
      obtain ⟨e1, e2, e3⟩ := ref_wraps hsl hsm.1 hsm.2
      have HSN2 : Hid ((szs (L.take (k + 1)) : Int) = (s : Int) + ((n1 : Int) + (n2 : Int) + 2)) := hide (by rw [HSN.out, HSS.out]; unfold sz; rw [HN1.out, HN2.out]; omega)
      have hki : (k : Int) < (n : Int) := by omega
      have hk0 : (0 : Int) ≤ (k : Int) := by omega
      have hn1000 : (n : Int) ≤ 1000 := by have := HL.out; omega
      rw [HSS.out]
      clear hx hsl hsm
      go_wp2
      go_quiet (fail)
      clear e1 e2 e3
      go_wp2
      refine ⟨⟨k + 1, q + nq, by omega, by rw [HSN2.out], by go_num, hide (by rw [HX.out, World.drewN_drewN])⟩, by simp [intOf]; omega⟩
    · have hki : ¬ (k : Int) < (n : Int) := by omega
      obtain rfl : k = n := by omega
      have HF : Hid (L.take k = L) := hide (List.take_of_length_le (by rw [HN.out]; exact Nat.le_refl _))
      rw [HF.out]
      clear hlt hk
      go_wp2
      go_ret
      exact ⟨rfl, q, HX.out⟩
theorem szs_split (L : List Cl) (k : Nat) : szs (L.take k) + szs (L.drop k) = szs L := by
  unfold szs
  rw [← List.sum_append, ← List.map_append, List.take_append_drop]
theorem szs_drop_le {L : List Cl} (h : Small L) (hl : L.length ≤ 1000) (k : Nat) : szs (L.drop k) ≤ 281474976710656000 := by
  have := szs_split L k
  have := szs_le_all h hl
  omega
theorem rdist {F R W d : Nat} (hs : F + R = W) (hF : F ≤ 281474976710656000) (hR : R ≤ 281474976710656000) (hd : d = (2 * (F : Int) - (W : Int)).natAbs) : IntKind.i64.wrap ((F : Int) - (R : Int)) = (F : Int) - (R : Int) ∧ ((F : Int) < (R : Int) → wrap64 (0 - ((F : Int) - (R : Int))) = (d : Int)) ∧ (¬ (F : Int) < (R : Int) → (F : Int) - (R : Int) = (d : Int)) := by
  refine ⟨by rw [IntKind.wrap_i64]; omega, fun h => by unfold wrap64; omega, fun h => by omega⟩
set_option maxRecDepth 20000 in
set_option maxHeartbeats 3200000 in
theorem rhalves_any {A : Option Addr} {L : List Cl} (n c : Nat) (w : World) (hr : RdC w A L) (hn : L.length = n) (hl : n ≤ 1000) (hnc : n ≤ c) (hS : Small L) :
    Calls Try.prog 28 #[.slice A n c] w (fun e w' => e = .returned (.int .i64 (halves L : Int)) ∧ ∃ q, w' = w.drewN q) := by
  have HR := hide hr
  have HN := hide hn
  have HS := hide hS
  have HL : Hid (n ≤ 1000) := hide hl
  have HNC := hide hnc
  obtain ⟨W, HW⟩ : ∃ W, Hid (szs L = W) := ⟨_, hide rfl⟩
  clear hr hn hl hS hnc
  go_enter Try.func28, Try.ntmps28
  go_wp2
  go_loopw [3, 4, 5] (fun bv lv nv wr => ∃ k b l q : Nat, 1 ≤ k ∧ k ≤ max n 1 ∧ bv = .int .i64 (b : Int) ∧ lv = .int .i64 (l : Int) ∧ nv = .int .i64 (k : Int) ∧ Hid (hK L k = (b, l)) ∧ Hid (wr = w.drewN q)) (fun _ _ nv _ => n - (intOf nv).toNat)
  case atStart => exact ⟨1, 0, 0, 0, Nat.le_refl _, by omega, rfl, rfl, rfl, hide rfl, hide rfl⟩
  case round =>
    obtain ⟨k, b, l, q, hk1, hkn, rfl, rfl, rfl, HK, HX⟩ := hrel
    have hl1000 : (n : Int) ≤ 1000 := by have := HL.out; omega
    have HXX : Hid (Ext w wr) := hide (by rw [HX.out]; exact (Ext.refl w).drewN q)
    by_cases hlt : k < n
    · obtain ⟨o, off, rfl, -⟩ := HR.out (by intro e; rw [e] at HN; have := HN.out; simp at this; omega)
      have hcq : ¬ c = k := by have := HNC.out; omega
      have hki : (k : Int) < (n : Int) := by omega
      have hk0 : (0 : Int) ≤ (k : Int) := by omega
      have hkc : (k : Int) ≤ (c : Int) := by have := HNC.out; omega
      have hkn2 : (k : Int) ≤ (n : Int) := by omega
      obtain ⟨F, HF⟩ : ∃ F, Hid (szs (L.take k) = F) := ⟨_, hide rfl⟩
      obtain ⟨R, HRR⟩ : ∃ R, Hid (szs (L.drop k) = R) := ⟨_, hide rfl⟩
      have K1 := hide (fun (V : World) (hV : Ext w V) (d : Nat) => (show Calls Try.prog 15 #[.slice (some ⟨o, off, none⟩) k d] V (fun e w' => e = .returned (.int .i64 (F : Int)) ∧ ∃ m, w' = V.drewN m) from by
        have h := rsize_any k d V ((HR.out.take k).ext hV) (by rw [List.length_take, HN.out]; omega) (by have := HL.out; omega) (HS.out.take k)
        rw [HF.out] at h
        exact h))
      have K2 := hide (fun (V : World) (hV : Ext w V) (d : Nat) => (show Calls Try.prog 15 #[.slice (some ⟨o, off + k * 2, none⟩) (n - k) d] V (fun e w' => e = .returned (.int .i64 (R : Int)) ∧ ∃ m, w' = V.drewN m) from by
        have h := rsize_any (n - k) d V ((RdC.drop HR.out k).ext hV) (by rw [List.length_drop, HN.out]) (by have := HL.out; omega) (HS.out.drop k)
        rw [HRR.out] at h
        exact h))
      obtain ⟨d, HD⟩ : ∃ d, Hid (distH L k = d) := ⟨_, hide rfl⟩
      have HDD := hide (rdist (show F + R = W by rw [← HF.out, ← HRR.out, ← HW.out]; exact szs_split L k) (by rw [← HF.out]; exact szs_take_le HS.out (by rw [HN.out]; exact HL.out) k) (by rw [← HRR.out]; exact szs_drop_le HS.out (by rw [HN.out]; exact HL.out) k) (show d = _ from by rw [← HD.out]; unfold distH; rw [HF.out, HW.out]))
      have HKS := hide (hK_succ L k hk1)
      rw [HK.out, HD.out] at HKS
      have e1 := HDD.out.1
      go_wp2
      go_quiet (first | (go_at_call 15; (with_reducible refine Calls.quiet_of (K1.out _ ?_ _)); exact HXX.out.trans ((Ext.refl _).drewN _)) | (go_at_call 15; (with_reducible refine Calls.quiet_of (K2.out _ ?_ _)); exact HXX.out.trans ((Ext.refl _).drewN _)))
      clear e1
      obtain ⟨v, hv⟩ : ∃ v : Int, v = (F : Int) - (R : Int) := ⟨_, rfl⟩
      obtain ⟨w9, hw9⟩ : ∃ w9, wr.drewN nq = w9 := ⟨_, rfl⟩
      have HX9 : Hid (w9 = w.drewN (q + nq)) := hide (by rw [← hw9, HX.out, World.drewN_drewN])
      rw [← hv, hw9]
      have HDD2 : Hid ((v < 0 → wrap64 (0 - v) = (d : Int)) ∧ (¬ v < 0 → v = (d : Int))) := hide ⟨fun h => by rw [hv]; exact HDD.out.2.1 (by omega), fun h => by rw [hv]; exact HDD.out.2.2 (by omega)⟩
      clear hv hw9 HDD HX HXX
      by_cases hv0 : v < 0
      all_goals first
        | (have e2 := HDD2.out.1 hv0
           have e3 : wrap64 (-v) = (d : Int) := by rw [← e2, Int.zero_sub]
           go_upto_region 9 with fail
           rw [e3]
           clear e2 e3)
        | (have e2 := HDD2.out.2 hv0
           go_upto_region 9 with fail
           rw [e2]
           clear e2)
      all_goals
        clear HDD2
        by_cases hb0 : b = 0
        · subst hb0
          have HK2 : Hid (hK L (k + 1) = (k, d)) := hide (by rw [HKS.out, if_pos (.inl rfl)])
          go_wp2
          refine ⟨⟨k + 1, k, d, _, by omega, by omega, rfl, rfl, by go_num, HK2, HX9⟩, by simp [intOf]; omega⟩
        · have hbe : ((b : Int) == 0) = false := beq_eq_false_iff_ne.2 (by omega)
          have hbe2 : ¬ ((b : Int) = 0) := by omega
          by_cases hdl : d < l
          · have hdi : (d : Int) < (l : Int) := by omega
            have HK2 : Hid (hK L (k + 1) = (k, d)) := hide (by rw [HKS.out, if_pos (.inr hdl)])
            go_wp2
            refine ⟨⟨k + 1, k, d, _, by omega, by omega, rfl, rfl, by go_num, HK2, HX9⟩, by simp [intOf]; omega⟩
          · have hdi : ¬ (d : Int) < (l : Int) := by omega
            have HK2 : Hid (hK L (k + 1) = (b, l)) := hide (by rw [HKS.out, if_neg (by intro h; rcases h with h | h; exact hb0 h; exact hdl h)])
            go_wp2
            refine ⟨⟨k + 1, b, l, _, by omega, by omega, rfl, rfl, by go_num, HK2, HX9⟩, by simp [intOf]; omega⟩
    · have hki : ¬ (k : Int) < (n : Int) := by omega
      have HE : Hid (halves L = b) := hide (by unfold halves; rw [HN.out, show max n 1 = k by omega, HK.out])
      go_wp2
      go_ret
      exact ⟨by rw [HE.out]; rfl, q, HX.out⟩
end Go.Proofs.Ytmamhinpkioogaa
