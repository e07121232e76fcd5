/-
  Lines: the document's own word as it stands in a line.
-/
import Derived.Test.YtmanflfanoddgaaDoorLinE
namespace Go.Proofs.YtmanflfanoddgaaDoor
open Go.RowKit

theorem any_snoc (l : List UInt8) (k : Nat) (b : UInt8) (h : l[k]? = some b) : (l.take (k + 1)).any special = ((l.take k).any special || special b) := by
  rw [List.take_add_one, h]
  simp
theorem at_extract {s : ByteArray} {k : Nat} (h : k < s.size) : (s.extract k (k + 1)).data.toList = [at8 s k] := by
  rw [extract_mid, mid, show k + 1 - k = 1 by omega, fr_cons h]
  rfl
theorem cat_data (a b : ByteArray) : (a ++ b).data.toList = a.data.toList ++ b.data.toList := by simp
theorem size_of_list {q : ByteArray} {l : List UInt8} (h : q.data.toList = l) : q.size = l.length := by rw [← h]; rfl

theorem wrap_next {k n : Nat} (h : k < n) (hn : n ≤ 1048576) : wrap64 ((k : Int) + 1) = (k : Int) + 1 := by unfold wrap64; omega
set_option maxRecDepth 20000 in
set_option maxHeartbeats 4000000 in
theorem rword_any (s : ByteArray) (w : World) (hs : s.size ≤ 1048576) :
    Calls Tryd.prog 74 #[.string s] w (Ret w (Is (.string ⟨(wordW s.data.toList).toArray⟩))) := by
  obtain ⟨n, HN⟩ : ∃ n, Hid (s.size = n) := ⟨_, rfl⟩
  obtain ⟨F, HF⟩ : ∃ F, Hid ((.string ⟨(wordW s.data.toList).toArray⟩ : Value) = F) := ⟨_, rfl⟩
  have hn := hs
  rw [HN.out] at hn
  rw [HF.out]
  have HNS := hide hn
  obtain ⟨z, HZ⟩ : ∃ z, Hid (s.data.toList.isEmpty = z) := ⟨_, hide rfl⟩
  have hz : s.toList.isEmpty = z := by rw [ByteArray.toList_eq]; exact HZ.out
  clear hs hn
  go_enter Tryd.func74, Tryd.ntmps74
  go_wp2
  go_loopw [3, 4, 5] (fun p q i wr => ∃ (k : Nat) (pb : Bool) (qb : ByteArray), k ≤ n ∧ p = .bool pb ∧ q = .string qb ∧ i = .int .i64 (k : Int) ∧ Hid (pb = (!z && !((s.data.toList.take k).any special))) ∧ Hid (qb.data.toList = 34 :: escQ (s.data.toList.take k)) ∧ Ext w wr) (fun _ _ i _ => n - (intOf i).toNat)
  case atStart => exact ⟨0, !z, ⟨#[34]⟩, Nat.zero_le _, rfl, rfl, rfl, hide (by simp), hide rfl, Ext.refl _⟩
  case round =>
    obtain ⟨k, pb, qb, hk, rfl, rfl, rfl, HP, HQ, hx⟩ := hrel
    have HQS : Hid (qb.size ≤ 2 * k + 1) := hide (by
      rw [size_of_list HQ.out, List.length_cons]
      have h1 := (escQ_length (s.data.toList.take k)).2
      have h2 := List.length_take_le k s.data.toList
      omega)
    have HKS : Hid (qb.size ≤ 3000000) := hide (by have h1 := HQS.out; have h2 := HNS.out; omega)
    have hq1 : ¬ 9223372036854775807 < qb.size + 1 := by have h1 := HKS.out; omega
    have hq2 : ¬ 9223372036854775807 < qb.size + 1 + 1 := by have h1 := HKS.out; omega
    by_cases hlt : k < n
    · have hks : k < s.size := by rw [HN.out]; exact hlt
      have hki : (k : Int) < (s.size : Int) := by omega
      have he := nat_at hks
      have HG := hide (get_fr hks)
      have HES := hide (escQ_snoc s.data.toList k _ HG.out)
      have HAS := hide (any_snoc s.data.toList k _ HG.out)
      have HXT := hide (at_extract hks)
      obtain ⟨y, HY⟩ : ∃ y, Hid (s.extract k (k + 1) = y) := ⟨_, hide rfl⟩
      have hn := HNS.out
      have ht1 : ((k : Int) + 1).toNat = k + 1 := by omega
      have hk1 : (k : Int) + 1 ≤ (s.size : Int) := by omega
      have hk2 : (k : Int) ≤ (k : Int) + 1 := by omega
      have hys : y.size = 1 := size_of_list (l := [at8 s k]) (by rw [← HY.out]; exact HXT.out)
      have e32 := eq32 (at8 s k)
      have e34 := eq34 (at8 s k)
      have e92 := eq92 (at8 s k)
      generalize hb : at8 s k = b at *
      clear hb
      have hsl : s.extract k (k + 1) = y := HY.out
      rw [HY.out] at HXT
      have HSP : Hid (special b = ((b == 32) || (b == 34) || (b == 92))) := hide rfl
      have HMK : Hid (marked b = ((b == 34) || (b == 92))) := hide rfl
      generalize (b == 32) = c32 at *
      generalize (b == 34) = c34 at *
      generalize (b == 92) = c92 at *
      rw [HSP.out] at HAS
      rw [HMK.out] at HES
      clear HSP HMK
      cases c32 <;> cases c34 <;> cases c92
      all_goals
        go_wp2
        refine ⟨⟨k + 1, _, _, by omega, rfl, rfl, by go_num, ?_, ?_, hx⟩, by simp [intOf]; omega⟩
        · rw [HAS.out]; refine hide ?_; first | (simp; done) | (rw [HP.out]; simp; done)
        · rw [HES.out]; simp only [cat_data, HQ.out, HXT.out]; exact hide (by simp)
    · obtain rfl : k = n := by omega
      have hki : ¬ (k : Int) < (s.size : Int) := by rw [HN.out]; omega
      have HT : Hid (s.data.toList.take k = s.data.toList) := hide (List.take_of_length_le (by rw [size_len, HN.out]; exact Nat.le_refl _))
      rw [HT.out] at HP HQ
      cases pb with
      | true =>
        have HL : Hid (F = .string s) := by
          rw [← HF.out]
          unfold wordW bareB
          rw [HZ.out, ← HP.out]
          exact hide rfl
        go_wp2
        go_ret
        rw [HL.out]
        exact Ret.mk hx rfl
      | false =>
        have HL : Hid (F = .string (qb ++ ⟨#[34]⟩)) := by
          rw [← HF.out]
          unfold wordW bareB
          rw [HZ.out, ← HP.out]
          refine hide ?_
          congr 1
          apply ByteArray.ext
          apply Array.ext'
          rw [cat_data, HQ.out]
          simp
        go_wp2
        go_ret
        rw [HL.out]
        exact Ret.mk hx rfl
end Go.Proofs.YtmanflfanoddgaaDoor
