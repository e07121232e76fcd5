/-
  Find: contract.
-/
import Derived.Test.YtmamhinpkioogaaPgR
namespace Go.Proofs.Ytmamhinpkioogaa
open Go.RowKit

set_option maxRecDepth 20000 in
set_option maxHeartbeats 800000 in
theorem cmp_any {A1 A2 B : Option Addr} {x : Cl} {key : List UInt8} (n1 n2 p c1 c2 d : Nat) (w : World) (h1 : Rd w A1 x.1) (hB : Rd w B key) (hn1 : x.1.length = n1) (hp : key.length = p) :
    Calls Try.prog 34 #[.agg #[.slice A1 n1 c1, .slice A2 n2 c2], .slice B p d] w (Ret w (Is (.int .i64 (cmpB x.1 key)))) := by
  have KC := hide (fun (W : World) (hx : Ext w W) => compare_any n1 c1 p d W (h1.ext hx) (hB.ext hx) hn1 hp)
  clear h1 hB hn1 hp
  go_enter Try.func34, Try.ntmps34
  go_wp2_with (go_at_call 35; (with_reducible refine (KC.out _ (Ext.alloc _ _)).mono ?_); rintro e w1 ⟨rfl, rfl⟩)
  go_ret
  exact Ret.mk (Ext.alloc _ _) rfl
set_option maxRecDepth 20000 in
set_option maxHeartbeats 1600000 in
theorem search_any {A B : Option Addr} {L : List Cl} {key : List UInt8} (n p c d : Nat) (w : World) (hr : RdC w A L) (hB : Rd w B key) (hn : L.length = n) (hp : key.length = p) (hl : n ≤ 1000000) (hR : Rises L) :
    Calls Try.prog 33 #[.slice A n c, .slice B p d, .func (.func 34) #[] #[]] w (Ret w (Is (.tuple #[.int .i64 (ix L key : Int), .bool (hs L key)]))) := by
  have HR := hide hr
  have HB := hide hB
  have HN := hide hn
  have HP := hide hp
  have HL : Hid ((n : Int) ≤ 1000000) := hide (by omega)
  have HRI := hide hR
  obtain ⟨q, HQ⟩ : ∃ q, Hid (ix L key = q) := ⟨_, hide rfl⟩
  have HQN : Hid (q ≤ n) := hide (by rw [← HQ.out, ← HN.out]; exact ix_le L key)
  rw [HQ.out]
  clear hr hB hn hp hl hR
  go_enter Try.func33, Try.ntmps33
  go_wp2
  go_loopw [9, 10] (fun iv jv wr => ∃ i j : Nat, i ≤ q ∧ q ≤ j ∧ j ≤ n ∧ iv = .int .i64 (i : Int) ∧ jv = .int .i64 (j : Int) ∧ Hid (Ext w wr)) (fun iv jv _ => (intOf jv).toNat - (intOf iv).toNat)
  case atStart => exact ⟨0, n, Nat.zero_le _, HQN.out, Nat.le_refl _, rfl, rfl, hide (Ext.refl _)⟩
  case round =>
    obtain ⟨i, j, hiq, hqj, hjn, rfl, rfl, HX⟩ := hrel
    have hl := HL.out
    by_cases hlt : i < j
    · obtain ⟨m, HM⟩ : ∃ m : Nat, Hid ((i + j) / 2 = m) := ⟨_, hide rfl⟩
      have hm1 : i ≤ m := by have := HM.out; omega
      have hm2 : m < j := by have := HM.out; omega
      obtain ⟨x, hx⟩ : ∃ x, L[m]? = some x := ⟨_, List.getElem?_eq_getElem (by rw [HN.out]; omega)⟩
      obtain ⟨b, off, A1, c1, A2, c2, rfl, k1, k2, -, -, h5, h6⟩ := (HR.out.ext HX.out).at hx
      have KC := hide (fun (W : World) (hW : Ext wr W) => cmp_any x.1.length x.2.length p c1 c2 d W (A2 := A2) (h5.ext hW) (HB.out.ext (HX.out.trans hW)) rfl HP.out)
      have HLT := hide (ix_lt HRI.out key hx)
      have hij : (i : Int) < (j : Int) := by omega
      have hi0 : (0 : Int) ≤ (i : Int) := by omega
      have hj0 : (0 : Int) ≤ (j : Int) := by omega
      have hji : (j : Int) ≤ (n : Int) := by omega
      clear hx h5 h6
      go_upto_region 5 with fail
      have HMI : Hid (((i : Int) + (j : Int)) / 2 = (m : Int)) := hide (by have := HM.out; omega)
      rw [HMI.out]
      have hm0 : (0 : Int) ≤ (m : Int) := by omega
      have hmn : (m : Int) < (n : Int) := by omega
      obtain ⟨v, HV⟩ : ∃ v, Hid (cmpB x.1 key = v) := ⟨_, hide rfl⟩
      have HVQ : Hid (v < 0 ↔ m < q) := hide (by rw [← HV.out, cmpB_lt, HLT.out, HQ.out])
      rw [HV.out] at KC
      by_cases hmq : m < q
      · have hv : v < 0 := HVQ.out.2 hmq
        go_wp2_with (go_at_call 34; (with_reducible refine (KC.out _ (Ext.refl _)).mono ?_); rintro e w2 ⟨v2, rfl, hx2, rfl⟩; have X2 := hide (HX.out.trans hx2); clear hx2)
        refine ⟨⟨m + 1, j, by omega, by omega, by omega, by go_num, rfl, X2⟩, by simp [intOf]; omega⟩
      · have hv : ¬ v < 0 := fun h => hmq (HVQ.out.1 h)
        go_wp2_with (go_at_call 34; (with_reducible refine (KC.out _ (Ext.refl _)).mono ?_); rintro e w2 ⟨v2, rfl, hx2, rfl⟩; have X2 := hide (HX.out.trans hx2); clear hx2)
        refine ⟨⟨i, m, by omega, by omega, by omega, rfl, rfl, X2⟩, by simp [intOf]; omega⟩
    · have hij : ¬ (i : Int) < (j : Int) := by omega
      obtain rfl : i = q := by omega
      obtain rfl : j = i := by omega
      clear hlt hij
      have hij : ¬ (j : Int) < (j : Int) := Int.lt_irrefl _
      have HHS := hide (hs_at HRI.out key)
      rw [HQ.out] at HHS
      by_cases hjn2 : j < n
      · obtain ⟨x, hx⟩ : ∃ x, L[j]? = some x := ⟨_, List.getElem?_eq_getElem (by rw [HN.out]; omega)⟩
        obtain ⟨b, off, A1, c1, A2, c2, rfl, k1, k2, -, -, h5, h6⟩ := (HR.out.ext HX.out).at hx
        have KC := hide (fun (W : World) (hW : Ext wr W) => cmp_any x.1.length x.2.length p c1 c2 d W (A2 := A2) (h5.ext hW) (HB.out.ext (HX.out.trans hW)) rfl HP.out)
        have HH : Hid (hs L key = (x.1 == key)) := hide (by rw [HHS.out, hx])
        have hji : (j : Int) < (n : Int) := by omega
        have hj0 : (0 : Int) ≤ (j : Int) := by omega
        obtain ⟨v, HV⟩ : ∃ v, Hid (cmpB x.1 key = v) := ⟨_, hide rfl⟩
        have HVQ : Hid (v = 0 ↔ x.1 = key) := hide (by rw [← HV.out, cmpB_zero])
        rw [HV.out] at KC
        clear hx h5 h6 HHS hiq hqj
        by_cases hxk : x.1 = key
        · obtain rfl : v = 0 := HVQ.out.2 hxk
          have HF : Hid (hs L key = true) := hide (by rw [HH.out, hxk]; simp)
          clear hxk
          go_wp2_with (go_at_call 34; (with_reducible refine (KC.out _ (Ext.refl _)).mono ?_); rintro e w2 ⟨v2, rfl, hx2, rfl⟩; have X2 := hide (HX.out.trans hx2); clear hx2)
          go_ret2
          exact Ret.mk X2.out (by rw [HF.out]; rfl)
        · have hv : (v == 0) = false := beq_eq_false_iff_ne.2 (fun e => hxk (HVQ.out.1 e))
          have hv2 : ¬ v = 0 := fun e => hxk (HVQ.out.1 e)
          have HF : Hid (hs L key = false) := hide (by rw [HH.out]; exact beq_eq_false_iff_ne.2 hxk)
          clear hxk
          go_wp2_with (go_at_call 34; (with_reducible refine (KC.out _ (Ext.refl _)).mono ?_); rintro e w2 ⟨v2, rfl, hx2, rfl⟩; have X2 := hide (HX.out.trans hx2); clear hx2)
          go_ret2
          exact Ret.mk X2.out (by rw [HF.out]; rfl)
      · have hji : ¬ (j : Int) < (n : Int) := by omega
        have HF : Hid (hs L key = false) := hide (by rw [HHS.out, List.getElem?_eq_none (by rw [HN.out]; omega)])
        clear hiq hqj HHS
        go_wp2
        go_ret2
        exact Ret.mk HX.out (by rw [HF.out]; rfl)
set_option maxRecDepth 20000 in
set_option maxHeartbeats 800000 in
theorem find_any {A B : Option Addr} {L : List Cl} {key : List UInt8} (n p c d : Nat) (w : World) (hr : RdC w A L) (hB : Rd w B key) (hn : L.length = n) (hp : key.length = p) (hl : n ≤ 1000000) (hR : Rises L) :
    Calls Try.prog 22 #[.slice A n c, .slice B p d] w (Ret w (Is (.tuple #[.int .i64 (ix L key : Int), .bool (hs L key)]))) := by
  have KS := hide (search_any n p c d w hr hB hn hp hl hR)
  clear hr hB hn hp hl hR
  go_enter Try.func22, Try.ntmps22
  go_wp2_with (go_at_call 33; (with_reducible refine KS.out.mono ?_); rintro e w2 ⟨v2, rfl, hx2, rfl⟩; have X2 := hide hx2; clear hx2)
  go_ret2
  exact Ret.mk X2.out rfl
end Go.Proofs.Ytmamhinpkioogaa
