/-
  The document's Encode.
-/
import Derived.Test.YtmamhinpkioogaaPgEn
namespace Go.Proofs.Ytmamhinpkioogaa
open Go.RowKit

theorem own_six (W : World) (B : Nat) (hB : B ≤ W.heap.size) (v0 v1 v2 v3 v4 : Int) (h0 : 0 ≤ v0 ∧ v0 < 256) (h1 : 0 ≤ v1 ∧ v1 < 256) (h2 : 0 ≤ v2 ∧ v2 < 256) (h3 : 0 ≤ v3 ∧ v3 < 256) (h4 : 0 ≤ v4 ∧ v4 < 256) :
    Own (W.alloc (.cells #[.int .u8 v0, .int .u8 v1, .int .u8 v2, .int .u8 v3, .int .u8 v4, .int .u8 0] 5)) B (.slice (some ⟨W.heap.size, 0, none⟩) 6 6) [b8 v0, b8 v1, b8 v2, b8 v3, b8 v4, 0] := by
  have e : bs [b8 v0, b8 v1, b8 v2, b8 v3, b8 v4, 0] = [.int .u8 v0, .int .u8 v1, .int .u8 v2, .int .u8 v3, .int .u8 v4, .int .u8 0] := by
    simp [bs, b8_toNat h0.1 h0.2, b8_toNat h1.1 h1.2, b8_toNat h2.1 h2.2, b8_toNat h3.1 h3.2, b8_toNat h4.1 h4.2]
  refine ⟨by rw [e]; rfl, .inr ⟨W.heap.size, 6, _, rfl, hB, heap_alloc_new W _, Nat.le_refl _, by unfold maxLen; decide, rfl, ?_⟩⟩
  rw [e]
  rfl
theorem rd_zero (W : World) : Rd (W.alloc (.cells #[.int .u8 0] 5)) (some ⟨W.heap.size, 0, none⟩) [0] := by
  have h := Rd.new W 5 [0] []
  simpa [bs] using h
def lenV : Value → Nat | .slice _ n _ => n | _ => 0
set_option maxRecDepth 20000 in
set_option maxHeartbeats 3200000 in
theorem rencode_any {A : Option Addr} {L : List Cl} (kind next : Int) (n c : Nat) (w : World) (hr : RdC w A L) (hn : L.length = n) (hk0 : 0 ≤ kind) (hf : formB kind next L = true) :
    Calls Try.prog 18 #[.agg #[.int .u8 kind, .int .i64 next, .slice A n c]] w (Ret w (fun w' v => Own w' w.heap.size v (encB kind next L ++ List.replicate (504 - (encB kind next L).length) 0))) := by
  have HF := hide hf
  have HR := hide hr
  have HN := hide hn
  have hnn : 0 ≤ next ∧ next < 4096 := by
    unfold formB at hf
    simp at hf
    omega
  have hkk : kind ≤ 3 := (formB_facts hf).1
  have hszl : szs L ≤ 498 := (formB_facts hf).2.2.2
  have hnl : (n : Int) ≤ 255 := by have := szs_ge L; omega
  have HFIT := hide (formB_facts hf).2.2.1
  have HSZ := hide hszl
  clear hr hn hf hszl
  obtain ⟨hn0, hn1⟩ := hnn
  go_enter Try.func18, Try.ntmps18
  go_upto_region 1 with fail
  obtain ⟨W1, hX1, hR1, hg⟩ : ∃ W1, Ext w W1 ∧ Rw W1 w.heap.size 24 [.int .u8 kind, .int .i64 next, .slice A n c] ∧ w.alloc (.cells #[.int .u8 kind, .int .i64 next, .slice A n c] 24) = W1 := ⟨_, Ext.alloc _ _, Rw.new _ _ _, rfl⟩
  rw [hg]
  obtain ⟨hp, HHP⟩ : ∃ hp, Hid (w.heap.size = hp) := ⟨_, hide rfl⟩
  rw [HHP.out] at hR1 ⊢
  have z0 := hR1.cell (i := 0) rfl
  have z1 := hR1.cell (i := 1) rfl
  have z2 := hR1.cell (i := 2) rfl
  have X1 := hide hX1
  have R1 := hide hR1
  clear hg hX1 hR1
  go_upto_region 3 with fail
  clear z0 z1 z2
  obtain ⟨HD, HHD⟩ : ∃ HD, Hid ([b8 kind] ++ num3 next ++ [b8 ((L.length : Int) % 256), 0] = HD) := ⟨_, hide rfl⟩
  obtain ⟨w2, HX2, HO2, HP2, hg⟩ : ∃ w2, Ext w w2 ∧ Own w2 w.heap.size (.slice (some ⟨W1.heap.size, 0, none⟩) 6 6) HD ∧ Rw w2 hp 24 [.int .u8 kind, .int .i64 next, .slice A n c] ∧ W1.alloc (.cells #[.int .u8 kind, .int .u8 (next / 65536), .int .u8 (next / 256 % 256), .int .u8 (next % 256), .int .u8 (n : Int), .int .u8 0] 5) = w2 :=
    ⟨_, X1.out.trans (Ext.alloc _ _), by
      have h := own_six W1 w.heap.size X1.out.size kind (next / 65536) (next / 256 % 256) (next % 256) (n : Int) (by omega) (by omega) (by omega) (by omega) (by omega)
      rw [← HHD.out]
      have e1 : next / 256 % 256 = next / 256 := by omega
      have e2 : (L.length : Int) % 256 = (n : Int) := by rw [HN.out]; omega
      rw [e2]
      rw [e1] at h ⊢
      exact h, R1.out.alloc _, rfl⟩
  rw [hg]
  have X2 := hide HX2
  have P2 := hide HP2
  have HHL : Hid (HD.length = 6) := hide (by rw [← HHD.out]; rfl)
  have O20 : Hid (Own w2 w.heap.size (.slice (some ⟨W1.heap.size, 0, none⟩) 6 6) (HD ++ encL (L.take 0))) := hide (by show Own _ _ _ (HD ++ []); rw [List.append_nil]; exact HO2)
  clear hg HX2 HO2 HP2 X1 R1 hn0 hn1 hk0 hkk
  go_loopw [3, 4] (fun ov iv wr => ∃ k : Nat, k ≤ n ∧ iv = .int .i64 (k : Int) ∧ Hid (Own wr w.heap.size ov (HD ++ encL (L.take k))) ∧ Hid (Ext w wr) ∧ Hid (Rw wr hp 24 [.int .u8 kind, .int .i64 next, .slice A n c])) (fun _ iv _ => n - (intOf iv).toNat)
  case atStart => exact ⟨0, Nat.zero_le _, rfl, O20, X2, P2⟩
  case round =>
    obtain ⟨k, hk, rfl, HO, HX, HP⟩ := hrel
    clear O20 X2 P2
    have z2 := HP.out.cell (i := 2) rfl
    by_cases hlt : k < n
    · obtain ⟨x, hx⟩ : ∃ x, L[k]? = some x := ⟨_, List.getElem?_eq_getElem (by rw [HN.out]; exact hlt)⟩
      obtain ⟨b, off, A1, c1, A2, c2, rfl, k1, k2, -, -, q5, q6⟩ := HR.out.at hx
      have hfit := HFIT.out k x hx
      have HE := hide (encL_snoc L k x hx)
      have Q5 := hide q5
      have Q6 := hide q6
      obtain ⟨n1, HN1⟩ : ∃ n1, Hid (x.1.length = n1) := ⟨_, hide rfl⟩
      obtain ⟨n2, HN2⟩ : ∃ n2, Hid (x.2.length = n2) := ⟨_, hide rfl⟩
      rw [HN1.out] at k1 hfit HE
      rw [HN2.out] at k2 hfit HE
      have hn1i : (n1 : Int) ≤ 90 := by omega
      have hn2i : (n2 : Int) ≤ 150 := by omega
      have hn10 : (0 : Int) ≤ (n1 : Int) := by omega
      have hn20 : (0 : Int) ≤ (n2 : Int) := by omega
      replace k1 := HX.out.keeps.cell k1
      replace k2 := HX.out.keeps.cell k2
      have hki : (k : Int) < (n : Int) := by omega
      have hk00 : (0 : Int) ≤ (k : Int) := by omega
      obtain ⟨l0, HL0⟩ : ∃ l0, Hid (HD ++ encL (L.take k) = l0) := ⟨_, hide rfl⟩
      have HLL : Hid (l0.length ≤ 504) := hide (by rw [← HL0.out, List.length_append, HHL.out, encL_length]; have := szs_take_mono L k; have := HSZ.out; omega)
      have HL1 : Hid (HD ++ encL (L.take (k + 1)) = l0 ++ [b8 (n1 : Int), b8 (n2 : Int)] ++ x.1 ++ x.2) := hide (by rw [HE.out, ← HL0.out]; simp)
      rw [HL0.out] at HO
      obtain ⟨bx, HBX⟩ : ∃ bx, Hid (wr.heap.size = bx) := ⟨_, hide rfl⟩
      clear hx hfit q5 q6 HE hlt
      go_upto_region 6 with fail
      obtain ⟨V1, HXW, HRW, hg⟩ : ∃ V1, Ext wr V1 ∧ Rw V1 wr.heap.size 40 [.slice A1 n1 c1, .slice A2 n2 c2] ∧ wr.alloc (.cells #[.slice A1 n1 c1, .slice A2 n2 c2] 40) = V1 := ⟨_, Ext.alloc _ _, Rw.new _ _ _, rfl⟩
      rw [hg]
      rw [HBX.out] at HRW ⊢
      have XW := hide (HX.out.trans HXW)
      have OW := hide (HO.out.ext HXW)
      have RW := hide HRW
      have PW := hide (HP.out.ext HXW)
      clear hg HXW HRW HX HO HBX k1 k2 HP z2
      have b1 := RW.out.cell (i := 0) rfl
      have b2 := RW.out.cell (i := 1) rfl
      have T1 := hide (OW.out.ext (Ext.alloc V1 (.cells #[.int .u8 (n1 : Int), .int .u8 (n2 : Int)] 5)))
      have T2 := hide (rd_two V1 n1 n2 (by omega) (by omega) (by omega) (by omega))
      have T3 := hide (XW.out.trans (Ext.alloc V1 (.cells #[.int .u8 (n1 : Int), .int .u8 (n2 : Int)] 5)))
      have T4 := hide (RW.out.alloc (.cells #[.int .u8 (n1 : Int), .int .u8 (n2 : Int)] 5))
      have T6 := hide (PW.out.alloc (.cells #[.int .u8 (n1 : Int), .int .u8 (n2 : Int)] 5))
      have T5 := hide (own_ne_rw T1.out T4.out (by decide))
      go_wp2_with (first
        | (at_builtin; refine wpList_catG rfl (.tmp 38) (.tmp 47) rfl w _ l0 [b8 (n1 : Int), b8 (n2 : Int)] _ 2 2 rfl rfl rfl T1.out T2.out T3.out (by have := HLL.out; simp; omega) ?_; intro v2 w2 ho2 hx2 hg2; have O2 := hide ho2; have X2 := hide hx2; have R2 : Hid (Rw w2 bx 40 [.slice A1 n1 c1, .slice A2 n2 c2]) := hide ((hg2.block bx T4.out.lt T5.out).trans T4.out); have P2 : Hid (Rw w2 hp 24 [.int .u8 kind, .int .i64 next, .slice (some ⟨b, off, none⟩) n c]) := hide ((hg2.block hp T6.out.lt (own_ne_rw T1.out T6.out (by decide))).trans T6.out); have d1 := R2.out.cell (i := 0) rfl; clear ho2 hx2 hg2)
        | (at_builtin; refine wpList_catG rfl (.tmp 49) (.tmp 51) rfl w _ (l0 ++ [b8 (n1 : Int), b8 (n2 : Int)]) x.1 _ n1 c1 rfl rfl HN1.out.symm O2.out (Q5.out.ext X2.out) X2.out (by have := HLL.out; rw [HN1.out]; simp; omega) ?_; intro v3 w3 ho3 hx3 hg3; have O3 := hide ho3; have X3 := hide hx3; have R3 : Hid (Rw w3 bx 40 [.slice A1 n1 c1, .slice A2 n2 c2]) := hide ((hg3.block bx R2.out.lt (own_ne_rw O2.out R2.out (by decide))).trans R2.out); have P3 : Hid (Rw w3 hp 24 [.int .u8 kind, .int .i64 next, .slice (some ⟨b, off, none⟩) n c]) := hide ((hg3.block hp P2.out.lt (own_ne_rw O2.out P2.out (by decide))).trans P2.out); have d2 := R3.out.cell (i := 1) rfl; clear ho3 hx3 hg3)
        | (at_builtin; refine wpList_catG rfl (.tmp 53) (.tmp 55) rfl w _ (l0 ++ [b8 (n1 : Int), b8 (n2 : Int)] ++ x.1) x.2 _ n2 c2 rfl rfl HN2.out.symm O3.out (Q6.out.ext X3.out) X3.out (by have := HLL.out; rw [HN2.out, List.length_append, HN1.out]; simp; omega) ?_; intro v4 w4 ho4 hx4 hg4; have O4 := hide ho4; have X4 := hide hx4; have P4 : Hid (Rw w4 hp 24 [.int .u8 kind, .int .i64 next, .slice (some ⟨b, off, none⟩) n c]) := hide ((hg4.block hp P3.out.lt (own_ne_rw O3.out P3.out (by decide))).trans P3.out); clear ho4 hx4 hg4))
      rw [← HL1.out] at O4
      refine ⟨⟨k + 1, by omega, by go_num, O4, X4, P4⟩, by simp [intOf]; omega⟩
    · have hki : ¬ (k : Int) < (n : Int) := by omega
      obtain rfl : k = n := by omega
      have HLK : Hid (L.take k = L) := hide (List.take_of_length_le (by rw [HN.out]; exact Nat.le_refl _))
      rw [HLK.out] at HO
      have HEB : Hid (encB kind next L = HD ++ encL L) := hide (by unfold encB; rw [HHD.out])
      obtain ⟨l0, HL0⟩ : ∃ l0, Hid (HD ++ encL L = l0) := ⟨_, hide rfl⟩
      have HLL : Hid (l0.length ≤ 504) := hide (by rw [← HL0.out, List.length_append, HHL.out, encL_length]; have := HSZ.out; omega)
      rw [HL0.out] at HO HEB
      obtain ⟨q, HQ⟩ : ∃ q, Hid (l0.length = q) := ⟨_, hide rfl⟩
      obtain ⟨B0, d0, hov, -, -⟩ := Own.slice HO.out
      rw [HQ.out] at hov
      subst hov
      have HL5 : Hid (q ≤ 504) := hide (by rw [← HQ.out]; exact HLL.out)
      have HO0 : Hid (Own wr w.heap.size (.slice B0 q d0) (l0 ++ List.replicate (q - q) 0)) := hide (by rw [Nat.sub_self, List.replicate_zero, List.append_nil]; exact HO.out)
      clear hlt hk HLK z2
      have z2 := HP.out.cell (i := 2) rfl
      go_upto_region 9 with fail
      clear z2
      go_loopw [3] (fun ov wz => ∃ (m : Nat) (B2 : Option Addr) (d2 : Nat), q ≤ m ∧ m ≤ 504 ∧ ov = .slice B2 m d2 ∧ Hid (Own wz w.heap.size ov (l0 ++ List.replicate (m - q) 0)) ∧ Hid (Ext w wz)) (fun ov _ => 504 - lenV ov)
      case atStart => exact ⟨q, B0, d0, Nat.le_refl _, HL5.out, rfl, HO0, HX⟩
      case round =>
        obtain ⟨m, B2, d2, hqm, hm5, rfl, HOz, HXz⟩ := hrel
        by_cases h5 : m < 504
        · have hmi : (m : Int) < 504 := by omega
          obtain ⟨V1, hV1, hg⟩ : ∃ V1, Ext wr V1 ∧ wr = V1 := ⟨_, Ext.refl _, rfl⟩
          have T1 := hide (HOz.out.ext (Ext.alloc wr (.cells #[.int .u8 0] 5)))
          have T2 := hide (rd_zero wr)
          have T3 := hide (HXz.out.trans (Ext.alloc wr (.cells #[.int .u8 0] 5)))
          have HLN : Hid ((l0 ++ List.replicate (m - q) (0 : UInt8)).length = m) := hide (by rw [List.length_append, List.length_replicate, HQ.out]; omega)
          have HRP : Hid (l0 ++ List.replicate (m - q) (0 : UInt8) ++ [0] = l0 ++ List.replicate (m + 1 - q) 0) := hide (by rw [show m + 1 - q = (m - q) + 1 by omega, List.replicate_succ', List.append_assoc])
          clear hg hV1
          go_wp2_with (at_builtin; refine wpList_catG rfl (.tmp 60) (.tmp 61) rfl w _ (l0 ++ List.replicate (m - q) 0) [0] _ 1 1 rfl rfl rfl T1.out T2.out T3.out (by rw [HLN.out]; simp; omega) ?_; intro v5 w5 ho5 hx5 hg5; obtain ⟨B5, d5, hv5, -, -⟩ := Own.slice ho5; rw [List.length_append, HLN.out, List.length_singleton] at hv5; subst hv5; have O5 := hide ho5; have X5 := hide hx5; clear ho5 hx5 hg5)
          rw [HRP.out] at O5
          refine ⟨⟨m + 1, B5, d5, by omega, by omega, rfl, O5, X5⟩, by simp [lenV]; omega⟩
        · have hmi : ¬ (m : Int) < 504 := by omega
          obtain rfl : m = 504 := by omega
          go_wp2
          go_ret
          exact Ret.mk HXz.out (by rw [HEB.out, HQ.out]; exact HOz.out)
end Go.Proofs.Ytmamhinpkioogaa
