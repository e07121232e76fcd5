/-
  The document's example of records; how long records are.
-/
import Derived.Test.YthdahgekodcloaaDoorRcE
import Derived.Test.YthdahgekodcloaaDoorRcH
namespace Go.Proofs.YthdahgekodcloaaDoor
open Go.RowKit

theorem fullB_length (k tx pv pg off nx : Int) (bf af : List UInt8) (L : List (Int × Int)) (op : Bool) : (fullB k tx pv pg off nx bf af L op).length = 13 + (if hpv k then 8 else 0) + (if hch k then 6 + bf.length + af.length else 0) + (if hnx k then 8 else 0) + (if hck k then 1 + 10 * L.length else 0) := by
  have e : (recB k tx pv pg off nx bf af L op).length = 9 + (if hpv k then 8 else 0) + (if hch k then 6 + bf.length + af.length else 0) + (if hnx k then 8 else 0) + (if hck k then 1 + 10 * L.length else 0) := by
    unfold recB
    simp only [List.length_append, numN_length 1 _ (show 1 ≤ 8 by decide), numN_length 8 _ (show 8 ≤ 8 by decide)]
    have i1 : (if hpv k then numN 8 pv else []).length = if hpv k then 8 else 0 := by split <;> simp [numN_length]
    have i2 : (if hch k then numN 2 pg ++ (numN 2 off ++ (numN 2 (af.length : Int) ++ (bf ++ af))) else []).length = if hch k then 6 + bf.length + af.length else 0 := by
      split
      · simp only [List.length_append, numN_length 2 _ (show 2 ≤ 8 by decide)]; omega
      · rfl
    have i3 : (if hnx k then numN 8 nx else []).length = if hnx k then 8 else 0 := by split <;> simp [numN_length]
    have i4 : (if hck k then numN 1 (cntN L.length op) ++ dirB L else []).length = if hck k then 1 + 10 * L.length else 0 := by
      split
      · simp only [List.length_append, numN_length 1 _ (show 1 ≤ 8 by decide), dirB_length]
      · rfl
    rw [i1, i2, i3, i4]
    omega
  unfold fullB
  rw [List.length_append, e, show (sumB (recB k tx pv pg off nx bf af L op)).length = 4 from numN_length 4 _ (by decide)]
  omega
theorem enc_lit (k tx : Int) (w : World) (ht : Tab w) (htx0 : 0 ≤ tx) (htx : tx < 18446744073709551616) (m : Nat) (hm : (fullB k tx 0 0 0 0 [] [] [] false).length = m) (hf : formN k 0 0 0 0 0 0 0 [] false = true) :
    Calls Tryd.prog 11 #[.agg #[.int .u8 k, .int .u64 tx, .int .u64 0, .int .i64 0, .int .i64 0, .slice none 0 0, .slice none 0 0, .int .u64 0, .slice none 0 0, .bool false]] w (fun e w' => ∃ A c, e = .returned (.tuple #[.slice A m c, .int .i64 0]) ∧ Ext w w') :=
  (encode_yes k tx 0 0 0 0 none none none 0 0 0 0 0 0 false w [] [] [] ht (Rd.nil _ _) (Rd.nil _ _) (RdD.nil _ _) rfl rfl rfl (by decide) (by decide) (by decide) (by decide) (by decide) htx0 htx (by decide) (by decide) (by decide) (by decide) (fun e h => by cases h) hf).mono fun e w' ⟨v, he, hv, hx⟩ => by
    obtain ⟨A, c, rfl, _, _⟩ := hv.bytes
    exact ⟨A, c, by rw [he, hm], hx⟩
set_option maxRecDepth 20000 in
set_option maxHeartbeats 1600000 in
theorem awake_any (w : World) (ht : Tab w) : Calls Tryd.prog 8 #[] w (RetB w true) := by
  have K1 := hide (fun (W : World) (hW : Ext w W) => enc_lit 1 1 W (ht.ext hW) (by decide) (by decide) 13 (by rw [fullB_length]; rfl) (by decide))
  have K2 := hide (fun (W : World) (hW : Ext w W) => enc_lit 4 0 W (ht.ext hW) (by decide) (by decide) 21 (by rw [fullB_length]; rfl) (by decide))
  clear ht
  go_enter Tryd.func8, Tryd.ntmps8
  go_upto_region 2 with (go_at_call 11; (with_reducible refine (K1.out _ (Ext.refl _)).mono ?_); rintro e w1 ⟨A1, c1, rfl, hx1⟩; have X1 := hide hx1; clear hx1)
  go_upto_region 3 with (go_at_call 11; (with_reducible refine (K2.out _ X1.out).mono ?_); rintro e w2 ⟨A2, c2, rfl, hx2⟩; have X2 := hide (X1.out.trans hx2); clear hx2)
  go_wp2
  go_ret
  exact ⟨rfl, X2.out⟩
end Go.Proofs.YthdahgekodcloaaDoor
