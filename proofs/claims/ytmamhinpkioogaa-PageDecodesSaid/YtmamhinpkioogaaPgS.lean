/-
  How many bytes cells have: contracts.
-/
import Derived.Test.YtmamhinpkioogaaPgM
namespace Go.Proofs.Ytmamhinpkioogaa
open Go.RowKit

set_option maxRecDepth 20000 in
set_option maxHeartbeats 800000 in
theorem sizeOf_any (A1 A2 : Option Addr) (n1 n2 c1 c2 : Nat) (w : World) (h1 : n1 ≤ 140737488351232) (h2 : n2 ≤ 140737488351232) :
    Calls Try.prog 30 #[.agg #[.slice A1 n1 c1, .slice A2 n2 c2]] w (Ret w (Is (.int .i64 ((2 + n1 + n2 : Nat) : Int)))) := by
  have hw1 : wrap64 (2 + (n1 : Int)) = 2 + (n1 : Int) := by unfold wrap64; omega
  have hw2 : wrap64 (2 + (n1 : Int) + (n2 : Int)) = 2 + (n1 : Int) + (n2 : Int) := by unfold wrap64; omega
  clear h1 h2
  go_enter Try.func30, Try.ntmps30
  go_wp2
  go_ret
  exact Ret.mk (Ext.alloc _ _) (by show Value.int _ _ = Value.int _ _; congr 1)
set_option maxRecDepth 20000 in
set_option maxHeartbeats 1600000 in
theorem size_any (A : Option Addr) (c : Nat) (L : List Cl) (w : World) (hr : RdC w A L) (hs : Small L) (hl : L.length ≤ 1000) :
    Calls Try.prog 14 #[.slice A L.length c] w (Ret w (Is (.int .i64 (szs L : Int)))) := by
  obtain ⟨n, HN⟩ : ∃ n, Hid (L.length = n) := ⟨_, hide rfl⟩
  have HL := hide hl
  have HR := hide hr
  have HS := hide hs
  rw [HN.out]
  clear hr hs hl
  go_enter Try.func14, Try.ntmps14
  go_wp2
  go_loopw [3, 8] (fun sv iv wr => ∃ k : Nat, k ≤ n ∧ sv = .int .i64 (szs (L.take k) : Int) ∧ iv = .int .i64 (k : Int) ∧ Hid (Ext w wr)) (fun _ iv _ => n - (intOf iv).toNat)
  case atStart => exact ⟨0, Nat.zero_le _, rfl, rfl, hide (Ext.refl _)⟩
  case round =>
    obtain ⟨k, hk, rfl, rfl, HX⟩ := hrel
    by_cases hlt : k < n
    · obtain ⟨x, hx⟩ : ∃ x, L[k]? = some x := ⟨_, List.getElem?_eq_getElem (by rw [HN.out]; exact hlt)⟩
      obtain ⟨b, off, A1, c1, A2, c2, rfl, k1, k2, -, -, -, -⟩ := (HR.out.ext HX.out).at hx
      have hsm := HS.out.at hx
      have KS := sizeOf_any A1 A2 x.1.length x.2.length c1 c2
      have HSN := hide (szs_snoc L k x hx)
      obtain ⟨s, HSS⟩ : ∃ s, Hid (szs (L.take k) = s) := ⟨_, hide rfl⟩
      have hsl : s ≤ 281474976710656000 := by rw [← HSS.out]; exact szs_take_le HS.out HL.out k
      obtain ⟨n1, HN1⟩ : ∃ n1, Hid (x.1.length = n1) := ⟨_, hide rfl⟩
      obtain ⟨n2, HN2⟩ : ∃ n2, Hid (x.2.length = n2) := ⟨_, hide rfl⟩
      rw [HN1.out] at k1 KS hsm
      rw [HN2.out] at k2 KS hsm
      have HW1 := hide (szs_add_wrap hsl hsm.1 hsm.2)
      have HSN2 : Hid ((szs (L.take (k + 1)) : Int) = (s : Int) + (2 + (n1 : Int) + (n2 : Int))) := hide (by rw [HSN.out, HSS.out]; unfold sz; rw [HN1.out, HN2.out]; omega)
      have KS2 := hide (fun W => KS W hsm.1 hsm.2)
      have hki : (k : Int) < (n : Int) := by omega
      have hk0 : (0 : Int) ≤ (k : Int) := by omega
      have hn1000 : (n : Int) ≤ 1000 := by have := HL.out; have := HN.out; omega
      rw [HSS.out]
      clear hx KS hsl hsm
      go_wp2_with (go_at_call 30; (with_reducible refine (KS2.out _).mono ?_); rintro e w2 ⟨v, rfl, hx2, rfl⟩; have X2 := hide hx2; clear hx2)
      refine ⟨⟨k + 1, by omega, by rw [HW1.out, HSN2.out], by go_num, hide (HX.out.trans ((Ext.alloc _ _).trans X2.out))⟩, by simp [intOf]; omega⟩
    · have hki : ¬ (k : Int) < (n : Int) := by omega
      obtain rfl : k = n := by omega
      clear hlt hk
      go_wp2
      go_ret
      exact Ret.mk HX.out (by rw [← HN.out, List.take_length]; rfl)
end Go.Proofs.Ytmamhinpkioogaa
