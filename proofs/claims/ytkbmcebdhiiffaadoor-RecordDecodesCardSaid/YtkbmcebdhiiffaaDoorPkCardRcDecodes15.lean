/-
  The document's reading of a record (plain): what it takes for one.
  The document's reading of what Encode writes (plain).
  A record's bytes turned, or cut short (plain).
  The document's decision on some bytes is the program's (plain).
-/
import Derived.Test.YtkbmcebdhiiffaaDoorPkCardRcDecodes4
import Derived.Test.YtkbmcebdhiiffaaDoorPkCardRcDecodes11
import Derived.Test.YtkbmcebdhiiffaaDoorPkCardRcDecodes14
set_option linter.unusedVariables false
set_option linter.unusedSimpArgs false

namespace Go.Proofs.YtkbmcebdhiiffaaDoor
open Go.RowKit

theorem byteV_app (a b : List UInt8) (i : Nat) : byteV (a ++ b) (a.length + i) = byteV b i := by
  unfold byteV
  rw [List.getElem?_append_right (by omega), Nat.add_sub_cancel_left]
theorem atV_app (a b : List UInt8) (f : Nat) : ∀ k, atV (a ++ b) (a.length + f) k = atV b f k
  | 0 => rfl
  | k + 1 => by
    show atV (a ++ b) (a.length + f) k * 256 + byteV (a ++ b) (a.length + f + k) = _
    rw [atV_app a b f k, Nat.add_assoc, byteV_app]
    rfl
theorem atV_front (b c : List UInt8) : ∀ k, k ≤ b.length → (atV (b ++ c) 0 k : Int) = num (b.take k)
  | 0, _ => rfl
  | k + 1, h => by
    have ih := atV_front b c k (by omega)
    obtain ⟨x, hx⟩ : ∃ x, b[k]? = some x := ⟨_, List.getElem?_eq_getElem (by omega)⟩
    have hb : byteV (b ++ c) (0 + k) = x.toNat := by
      unfold byteV
      rw [Nat.zero_add, List.getElem?_append_left (by omega), hx]
    rw [List.take_add_one, hx]
    show ((atV (b ++ c) 0 k * 256 + byteV (b ++ c) (0 + k) : Nat) : Int) = num (b.take k ++ [x])
    rw [num_snoc, ← ih, hb]
    omega
/-- A number that stands behind some bytes. -/
theorem atV_mid (a b c : List UInt8) (f k : Nat) (hf : a.length = f) (hk : b.length = k) : (atV (a ++ (b ++ c)) f k : Int) = num b := by
  have h := atV_front b c k (by omega)
  have e := atV_app a (b ++ c) 0 k
  rw [Nat.add_zero, hf] at e
  rw [e, h, ← hk, List.take_length]
theorem cut_mid (a b c : List UInt8) (f k : Nat) (hf : a.length = f) (hk : b.length = k) : ((a ++ (b ++ c)).drop f).take k = b := by
  rw [← hf, List.drop_left, ← hk, List.take_left]
/-- The record that the document reads off some bytes. -/
def candV (l : List UInt8) : Rec :=
  let k : Int := byteV l 0
  let m : Nat := if hch k then atV l 21 2 else 0
  let q : Nat := if hck k then atV l 17 1 else 0
  ⟨k, atV l 1 8, if k = 1 then 0 else atV l 9 8, if hch k then atV l 17 2 else 0, if hch k then atV l 19 2 else 0, if hbf k then (l.drop 23).take m else [], if hch k then (l.drop (if hbf k then 23 + m else 23)).take m else [], if hnx k then atV l (23 + m) 8 else 0, (List.range (q / 2)).map (fun i => ((atV l (18 + 10 * i) 2 : Int), (atV l (20 + 10 * i) 8 : Int))), decide (q % 2 = 1)⟩
theorem byteV_0 (k : Int) (c : List UInt8) (h0 : 0 ≤ k) (h1 : k < 256) : (byteV (numN 1 k ++ c) 0 : Int) = k := by
  show (byteV (b8 (k % 256) :: c) 0 : Int) = k
  unfold byteV
  show (((b8 (k % 256)).toNat : Nat) : Int) = k
  rw [b8_toNat (by omega) (by omega)]
  omega
end Go.Proofs.YtkbmcebdhiiffaaDoor
namespace Go.Proofs.YtkbmcebdhiiffaaDoor
open Go.RowKit

theorem dirB_app (a b : List (Int × Int)) : dirB (a ++ b) = dirB a ++ dirB b := by simp [dirB]
theorem cand_dirs (a : List UInt8) (L : List (Int × Int)) (c : List UInt8) (ha : a.length = 18) (hL : ∀ e ∈ L, (0 ≤ e.1 ∧ e.1 < 4096) ∧ 0 ≤ e.2 ∧ e.2 < 18446744073709551616) :
    (List.range L.length).map (fun i => ((atV (a ++ (dirB L ++ c)) (18 + 10 * i) 2 : Int), (atV (a ++ (dirB L ++ c)) (20 + 10 * i) 8 : Int))) = L := by
  apply List.ext_getElem (by simp)
  intro i h1 h2
  obtain ⟨⟨y, z⟩, he⟩ : ∃ e, L[i] = e := ⟨_, rfl⟩
  obtain ⟨⟨hy0, hy1⟩, hz0, hz1⟩ := hL (y, z) (by rw [← he]; exact List.getElem_mem h2)
  have hl : (dirB (L.take i)).length = 10 * i := by rw [dirB_length, List.length_take]; omega
  have e : dirB L = dirB (L.take i) ++ (numN 2 y ++ (numN 8 z ++ dirB (L.drop (i + 1)))) := by
    conv => lhs; rw [← List.take_append_drop i L, List.drop_eq_getElem_cons h2, he]
    simp [dirB]
  have g1 := atV_mid (a ++ dirB (L.take i)) (numN 2 y) (numN 8 z ++ (dirB (L.drop (i + 1)) ++ c)) (18 + 10 * i) 2 (by rw [List.length_append, ha, hl]) (numN_2 _)
  have g2 := atV_mid (a ++ (dirB (L.take i) ++ numN 2 y)) (numN 8 z) (dirB (L.drop (i + 1)) ++ c) (20 + 10 * i) 8 (by rw [List.length_append, List.length_append, ha, hl, numN_2]; omega) (numN_8 _)
  rw [num_2 y (by omega) (by omega)] at g1
  rw [num_8 z hz0 hz1] at g2
  rw [show a ++ dirB (L.take i) ++ (numN 2 y ++ (numN 8 z ++ (dirB (L.drop (i + 1)) ++ c))) = a ++ (dirB L ++ c) from by simp only [e, List.append_assoc]] at g1
  rw [show a ++ (dirB (L.take i) ++ numN 2 y) ++ (numN 8 z ++ (dirB (L.drop (i + 1)) ++ c)) = a ++ (dirB L ++ c) from by simp only [e, List.append_assoc]] at g2
  rw [List.getElem_map, List.getElem_range, g1, g2, he]
theorem cand_1 (tx pv pg off nx : Int) (bf af : List UInt8) (L : List (Int × Int)) (op : Bool) (htx0 : 0 ≤ tx) (htx : tx < 18446744073709551616) (hpv0 : 0 ≤ pv) (hpv1 : pv < 18446744073709551616) (hnx0 : 0 ≤ nx) (hnx1 : nx < 18446744073709551616) (hdl : ∀ e ∈ L, 0 ≤ e.2 ∧ e.2 < 18446744073709551616) (hf : formN 1 pv pg off nx af.length bf.length L.length L op = true) : candV (fullB 1 tx pv pg off nx bf af L op) = ⟨1, tx, pv, pg, off, bf, af, nx, L, op⟩ := by
  have hs := hf
  simp [formN, hok, hpv, hch, hbf, hnx, hck, chgN, chkN, isPg] at hs
  have e : fullB 1 tx pv pg off nx bf af L op = numN 1 1 ++ (numN 8 tx ++ (sumB (recB 1 tx pv pg off nx bf af L op))) := by
    unfold fullB
    conv => lhs; lhs; rw [recB]
    simp [hpv, hch, hnx, hck]
  have hk := byteV_0 1 (numN 8 tx ++ (sumB (recB 1 tx pv pg off nx bf af L op))) (by decide) (by decide)
  rw [← e] at hk
  have gtx := atV_mid (numN 1 1) (numN 8 tx) (sumB (recB 1 tx pv pg off nx bf af L op)) (1) (8) (by simp only [List.length_append, numN_1, numN_2, numN_8]) (by exact numN_8 _)
  rw [show (numN 1 1) ++ ((numN 8 tx) ++ (sumB (recB 1 tx pv pg off nx bf af L op))) = fullB 1 tx pv pg off nx bf af L op from by simp only [e, List.append_assoc]] at gtx
  rw [num_8 _ htx0 htx] at gtx
  simp [candV, hk, gtx, hpv, hch, hbf, hnx, hck]
  simp [hs]
  done
theorem cand_2 (tx pv pg off nx : Int) (bf af : List UInt8) (L : List (Int × Int)) (op : Bool) (htx0 : 0 ≤ tx) (htx : tx < 18446744073709551616) (hpv0 : 0 ≤ pv) (hpv1 : pv < 18446744073709551616) (hnx0 : 0 ≤ nx) (hnx1 : nx < 18446744073709551616) (hdl : ∀ e ∈ L, 0 ≤ e.2 ∧ e.2 < 18446744073709551616) (hf : formN 2 pv pg off nx af.length bf.length L.length L op = true) : candV (fullB 2 tx pv pg off nx bf af L op) = ⟨2, tx, pv, pg, off, bf, af, nx, L, op⟩ := by
  have hs := hf
  simp [formN, hok, hpv, hch, hbf, hnx, hck, chgN, chkN, isPg] at hs
  obtain ⟨hpg0, hpg1, hn1, hno, hoff0, hnbE⟩ : 0 ≤ pg ∧ pg < 4096 ∧ af.length ≤ 512 ∧ off ≤ 512 ∧ 0 ≤ off ∧ bf.length = af.length := by omega
  have e : fullB 2 tx pv pg off nx bf af L op = numN 1 2 ++ (numN 8 tx ++ (numN 8 pv ++ (numN 2 pg ++ (numN 2 off ++ (numN 2 (af.length : Int) ++ (bf ++ (af ++ (sumB (recB 2 tx pv pg off nx bf af L op))))))))) := by
    unfold fullB
    conv => lhs; lhs; rw [recB]
    simp [hpv, hch, hnx, hck]
  have hk := byteV_0 2 (numN 8 tx ++ (numN 8 pv ++ (numN 2 pg ++ (numN 2 off ++ (numN 2 (af.length : Int) ++ (bf ++ (af ++ (sumB (recB 2 tx pv pg off nx bf af L op))))))))) (by decide) (by decide)
  rw [← e] at hk
  have gtx := atV_mid (numN 1 2) (numN 8 tx) (numN 8 pv ++ (numN 2 pg ++ (numN 2 off ++ (numN 2 (af.length : Int) ++ (bf ++ (af ++ (sumB (recB 2 tx pv pg off nx bf af L op)))))))) (1) (8) (by simp only [List.length_append, numN_1, numN_2, numN_8]) (by exact numN_8 _)
  rw [show (numN 1 2) ++ ((numN 8 tx) ++ (numN 8 pv ++ (numN 2 pg ++ (numN 2 off ++ (numN 2 (af.length : Int) ++ (bf ++ (af ++ (sumB (recB 2 tx pv pg off nx bf af L op))))))))) = fullB 2 tx pv pg off nx bf af L op from by simp only [e, List.append_assoc]] at gtx
  rw [num_8 _ htx0 htx] at gtx
  have gpv := atV_mid (numN 1 2 ++ (numN 8 tx)) (numN 8 pv) (numN 2 pg ++ (numN 2 off ++ (numN 2 (af.length : Int) ++ (bf ++ (af ++ (sumB (recB 2 tx pv pg off nx bf af L op))))))) (9) (8) (by simp only [List.length_append, numN_1, numN_2, numN_8]) (by exact numN_8 _)
  rw [show (numN 1 2 ++ (numN 8 tx)) ++ ((numN 8 pv) ++ (numN 2 pg ++ (numN 2 off ++ (numN 2 (af.length : Int) ++ (bf ++ (af ++ (sumB (recB 2 tx pv pg off nx bf af L op)))))))) = fullB 2 tx pv pg off nx bf af L op from by simp only [e, List.append_assoc]] at gpv
  rw [num_8 _ hpv0 hpv1] at gpv
  have gpg := atV_mid (numN 1 2 ++ (numN 8 tx ++ (numN 8 pv))) (numN 2 pg) (numN 2 off ++ (numN 2 (af.length : Int) ++ (bf ++ (af ++ (sumB (recB 2 tx pv pg off nx bf af L op)))))) (17) (2) (by simp only [List.length_append, numN_1, numN_2, numN_8] <;> omega) (by exact numN_2 _)
  rw [show (numN 1 2 ++ (numN 8 tx ++ (numN 8 pv))) ++ ((numN 2 pg) ++ (numN 2 off ++ (numN 2 (af.length : Int) ++ (bf ++ (af ++ (sumB (recB 2 tx pv pg off nx bf af L op))))))) = fullB 2 tx pv pg off nx bf af L op from by simp only [e, List.append_assoc]] at gpg
  rw [num_2 pg (by omega) (by omega)] at gpg
  have gof := atV_mid (numN 1 2 ++ (numN 8 tx ++ (numN 8 pv ++ (numN 2 pg)))) (numN 2 off) (numN 2 (af.length : Int) ++ (bf ++ (af ++ (sumB (recB 2 tx pv pg off nx bf af L op))))) (19) (2) (by simp only [List.length_append, numN_1, numN_2, numN_8] <;> omega) (by exact numN_2 _)
  rw [show (numN 1 2 ++ (numN 8 tx ++ (numN 8 pv ++ (numN 2 pg)))) ++ ((numN 2 off) ++ (numN 2 (af.length : Int) ++ (bf ++ (af ++ (sumB (recB 2 tx pv pg off nx bf af L op)))))) = fullB 2 tx pv pg off nx bf af L op from by simp only [e, List.append_assoc]] at gof
  rw [num_2 off (by omega) (by omega)] at gof
  have gna := atV_mid (numN 1 2 ++ (numN 8 tx ++ (numN 8 pv ++ (numN 2 pg ++ (numN 2 off))))) (numN 2 (af.length : Int)) (bf ++ (af ++ (sumB (recB 2 tx pv pg off nx bf af L op)))) (21) (2) (by simp only [List.length_append, numN_1, numN_2, numN_8] <;> omega) (by exact numN_2 _)
  rw [show (numN 1 2 ++ (numN 8 tx ++ (numN 8 pv ++ (numN 2 pg ++ (numN 2 off))))) ++ ((numN 2 (af.length : Int)) ++ (bf ++ (af ++ (sumB (recB 2 tx pv pg off nx bf af L op))))) = fullB 2 tx pv pg off nx bf af L op from by simp only [e, List.append_assoc]] at gna
  rw [num_2 (af.length : Int) (by omega) (by omega)] at gna
  have g0 : atV (fullB 2 tx pv pg off nx bf af L op) 21 2 = af.length := by omega
  have gbf := cut_mid (numN 1 2 ++ (numN 8 tx ++ (numN 8 pv ++ (numN 2 pg ++ (numN 2 off ++ (numN 2 (af.length : Int))))))) (bf) (af ++ (sumB (recB 2 tx pv pg off nx bf af L op))) (23) (af.length) (by simp only [List.length_append, numN_1, numN_2, numN_8] <;> omega) (by omega)
  rw [show (numN 1 2 ++ (numN 8 tx ++ (numN 8 pv ++ (numN 2 pg ++ (numN 2 off ++ (numN 2 (af.length : Int))))))) ++ ((bf) ++ (af ++ (sumB (recB 2 tx pv pg off nx bf af L op)))) = fullB 2 tx pv pg off nx bf af L op from by simp only [e, List.append_assoc]] at gbf
  have gaf := cut_mid (numN 1 2 ++ (numN 8 tx ++ (numN 8 pv ++ (numN 2 pg ++ (numN 2 off ++ (numN 2 (af.length : Int) ++ (bf))))))) (af) (sumB (recB 2 tx pv pg off nx bf af L op)) (23 + af.length) (af.length) (by simp only [List.length_append, numN_1, numN_2, numN_8] <;> omega) (by omega)
  rw [show (numN 1 2 ++ (numN 8 tx ++ (numN 8 pv ++ (numN 2 pg ++ (numN 2 off ++ (numN 2 (af.length : Int) ++ (bf))))))) ++ ((af) ++ (sumB (recB 2 tx pv pg off nx bf af L op))) = fullB 2 tx pv pg off nx bf af L op from by simp only [e, List.append_assoc]] at gaf
  simp [candV, hk, gtx, gpv, gpg, gof, g0, gna, gbf, gaf, hpv, hch, hbf, hnx, hck]
  simp [hs]
  done
theorem cand_3 (tx pv pg off nx : Int) (bf af : List UInt8) (L : List (Int × Int)) (op : Bool) (htx0 : 0 ≤ tx) (htx : tx < 18446744073709551616) (hpv0 : 0 ≤ pv) (hpv1 : pv < 18446744073709551616) (hnx0 : 0 ≤ nx) (hnx1 : nx < 18446744073709551616) (hdl : ∀ e ∈ L, 0 ≤ e.2 ∧ e.2 < 18446744073709551616) (hf : formN 3 pv pg off nx af.length bf.length L.length L op = true) : candV (fullB 3 tx pv pg off nx bf af L op) = ⟨3, tx, pv, pg, off, bf, af, nx, L, op⟩ := by
  have hs := hf
  simp [formN, hok, hpv, hch, hbf, hnx, hck, chgN, chkN, isPg] at hs
  obtain ⟨hpg0, hpg1, hn1, hno, hoff0⟩ : 0 ≤ pg ∧ pg < 4096 ∧ af.length ≤ 512 ∧ off ≤ 512 ∧ 0 ≤ off := by omega
  have hbfn : bf = [] := by simp [hs]
  have e : fullB 3 tx pv pg off nx bf af L op = numN 1 3 ++ (numN 8 tx ++ (numN 8 pv ++ (numN 2 pg ++ (numN 2 off ++ (numN 2 (af.length : Int) ++ (af ++ (numN 8 nx ++ (sumB (recB 3 tx pv pg off nx bf af L op))))))))) := by
    unfold fullB
    conv => lhs; lhs; rw [recB]
    simp [hpv, hch, hnx, hck, hbfn]
  have hk := byteV_0 3 (numN 8 tx ++ (numN 8 pv ++ (numN 2 pg ++ (numN 2 off ++ (numN 2 (af.length : Int) ++ (af ++ (numN 8 nx ++ (sumB (recB 3 tx pv pg off nx bf af L op))))))))) (by decide) (by decide)
  rw [← e] at hk
  have gtx := atV_mid (numN 1 3) (numN 8 tx) (numN 8 pv ++ (numN 2 pg ++ (numN 2 off ++ (numN 2 (af.length : Int) ++ (af ++ (numN 8 nx ++ (sumB (recB 3 tx pv pg off nx bf af L op)))))))) (1) (8) (by simp only [List.length_append, numN_1, numN_2, numN_8]) (by exact numN_8 _)
  rw [show (numN 1 3) ++ ((numN 8 tx) ++ (numN 8 pv ++ (numN 2 pg ++ (numN 2 off ++ (numN 2 (af.length : Int) ++ (af ++ (numN 8 nx ++ (sumB (recB 3 tx pv pg off nx bf af L op))))))))) = fullB 3 tx pv pg off nx bf af L op from by simp only [e, List.append_assoc]] at gtx
  rw [num_8 _ htx0 htx] at gtx
  have gpv := atV_mid (numN 1 3 ++ (numN 8 tx)) (numN 8 pv) (numN 2 pg ++ (numN 2 off ++ (numN 2 (af.length : Int) ++ (af ++ (numN 8 nx ++ (sumB (recB 3 tx pv pg off nx bf af L op))))))) (9) (8) (by simp only [List.length_append, numN_1, numN_2, numN_8]) (by exact numN_8 _)
  rw [show (numN 1 3 ++ (numN 8 tx)) ++ ((numN 8 pv) ++ (numN 2 pg ++ (numN 2 off ++ (numN 2 (af.length : Int) ++ (af ++ (numN 8 nx ++ (sumB (recB 3 tx pv pg off nx bf af L op)))))))) = fullB 3 tx pv pg off nx bf af L op from by simp only [e, List.append_assoc]] at gpv
  rw [num_8 _ hpv0 hpv1] at gpv
  have gpg := atV_mid (numN 1 3 ++ (numN 8 tx ++ (numN 8 pv))) (numN 2 pg) (numN 2 off ++ (numN 2 (af.length : Int) ++ (af ++ (numN 8 nx ++ (sumB (recB 3 tx pv pg off nx bf af L op)))))) (17) (2) (by simp only [List.length_append, numN_1, numN_2, numN_8] <;> omega) (by exact numN_2 _)
  rw [show (numN 1 3 ++ (numN 8 tx ++ (numN 8 pv))) ++ ((numN 2 pg) ++ (numN 2 off ++ (numN 2 (af.length : Int) ++ (af ++ (numN 8 nx ++ (sumB (recB 3 tx pv pg off nx bf af L op))))))) = fullB 3 tx pv pg off nx bf af L op from by simp only [e, List.append_assoc]] at gpg
  rw [num_2 pg (by omega) (by omega)] at gpg
  have gof := atV_mid (numN 1 3 ++ (numN 8 tx ++ (numN 8 pv ++ (numN 2 pg)))) (numN 2 off) (numN 2 (af.length : Int) ++ (af ++ (numN 8 nx ++ (sumB (recB 3 tx pv pg off nx bf af L op))))) (19) (2) (by simp only [List.length_append, numN_1, numN_2, numN_8] <;> omega) (by exact numN_2 _)
  rw [show (numN 1 3 ++ (numN 8 tx ++ (numN 8 pv ++ (numN 2 pg)))) ++ ((numN 2 off) ++ (numN 2 (af.length : Int) ++ (af ++ (numN 8 nx ++ (sumB (recB 3 tx pv pg off nx bf af L op)))))) = fullB 3 tx pv pg off nx bf af L op from by simp only [e, List.append_assoc]] at gof
  rw [num_2 off (by omega) (by omega)] at gof
  have gna := atV_mid (numN 1 3 ++ (numN 8 tx ++ (numN 8 pv ++ (numN 2 pg ++ (numN 2 off))))) (numN 2 (af.length : Int)) (af ++ (numN 8 nx ++ (sumB (recB 3 tx pv pg off nx bf af L op)))) (21) (2) (by simp only [List.length_append, numN_1, numN_2, numN_8] <;> omega) (by exact numN_2 _)
  rw [show (numN 1 3 ++ (numN 8 tx ++ (numN 8 pv ++ (numN 2 pg ++ (numN 2 off))))) ++ ((numN 2 (af.length : Int)) ++ (af ++ (numN 8 nx ++ (sumB (recB 3 tx pv pg off nx bf af L op))))) = fullB 3 tx pv pg off nx bf af L op from by simp only [e, List.append_assoc]] at gna
  rw [num_2 (af.length : Int) (by omega) (by omega)] at gna
  have g0 : atV (fullB 3 tx pv pg off nx bf af L op) 21 2 = af.length := by omega
  have gaf := cut_mid (numN 1 3 ++ (numN 8 tx ++ (numN 8 pv ++ (numN 2 pg ++ (numN 2 off ++ (numN 2 (af.length : Int))))))) (af) (numN 8 nx ++ (sumB (recB 3 tx pv pg off nx bf af L op))) (23) (af.length) (by simp only [List.length_append, numN_1, numN_2, numN_8] <;> omega) (by omega)
  rw [show (numN 1 3 ++ (numN 8 tx ++ (numN 8 pv ++ (numN 2 pg ++ (numN 2 off ++ (numN 2 (af.length : Int))))))) ++ ((af) ++ (numN 8 nx ++ (sumB (recB 3 tx pv pg off nx bf af L op)))) = fullB 3 tx pv pg off nx bf af L op from by simp only [e, List.append_assoc]] at gaf
  have gnx := atV_mid (numN 1 3 ++ (numN 8 tx ++ (numN 8 pv ++ (numN 2 pg ++ (numN 2 off ++ (numN 2 (af.length : Int) ++ (af))))))) (numN 8 nx) (sumB (recB 3 tx pv pg off nx bf af L op)) (23 + af.length) (8) (by simp only [List.length_append, numN_1, numN_2, numN_8] <;> omega) (by exact numN_8 _)
  rw [show (numN 1 3 ++ (numN 8 tx ++ (numN 8 pv ++ (numN 2 pg ++ (numN 2 off ++ (numN 2 (af.length : Int) ++ (af))))))) ++ ((numN 8 nx) ++ (sumB (recB 3 tx pv pg off nx bf af L op))) = fullB 3 tx pv pg off nx bf af L op from by simp only [e, List.append_assoc]] at gnx
  rw [num_8 _ hnx0 hnx1] at gnx
  simp [candV, hk, gtx, gpv, gpg, gof, g0, gna, gaf, gnx, hpv, hch, hbf, hnx, hck]
  simp [hs]
  done
theorem cand_4 (tx pv pg off nx : Int) (bf af : List UInt8) (L : List (Int × Int)) (op : Bool) (htx0 : 0 ≤ tx) (htx : tx < 18446744073709551616) (hpv0 : 0 ≤ pv) (hpv1 : pv < 18446744073709551616) (hnx0 : 0 ≤ nx) (hnx1 : nx < 18446744073709551616) (hdl : ∀ e ∈ L, 0 ≤ e.2 ∧ e.2 < 18446744073709551616) (hf : formN 4 pv pg off nx af.length bf.length L.length L op = true) : candV (fullB 4 tx pv pg off nx bf af L op) = ⟨4, tx, pv, pg, off, bf, af, nx, L, op⟩ := by
  have hs := hf
  simp [formN, hok, hpv, hch, hbf, hnx, hck, chgN, chkN, isPg] at hs
  have e : fullB 4 tx pv pg off nx bf af L op = numN 1 4 ++ (numN 8 tx ++ (numN 8 pv ++ (sumB (recB 4 tx pv pg off nx bf af L op)))) := by
    unfold fullB
    conv => lhs; lhs; rw [recB]
    simp [hpv, hch, hnx, hck]
  have hk := byteV_0 4 (numN 8 tx ++ (numN 8 pv ++ (sumB (recB 4 tx pv pg off nx bf af L op)))) (by decide) (by decide)
  rw [← e] at hk
  have gtx := atV_mid (numN 1 4) (numN 8 tx) (numN 8 pv ++ (sumB (recB 4 tx pv pg off nx bf af L op))) (1) (8) (by simp only [List.length_append, numN_1, numN_2, numN_8]) (by exact numN_8 _)
  rw [show (numN 1 4) ++ ((numN 8 tx) ++ (numN 8 pv ++ (sumB (recB 4 tx pv pg off nx bf af L op)))) = fullB 4 tx pv pg off nx bf af L op from by simp only [e, List.append_assoc]] at gtx
  rw [num_8 _ htx0 htx] at gtx
  have gpv := atV_mid (numN 1 4 ++ (numN 8 tx)) (numN 8 pv) (sumB (recB 4 tx pv pg off nx bf af L op)) (9) (8) (by simp only [List.length_append, numN_1, numN_2, numN_8]) (by exact numN_8 _)
  rw [show (numN 1 4 ++ (numN 8 tx)) ++ ((numN 8 pv) ++ (sumB (recB 4 tx pv pg off nx bf af L op))) = fullB 4 tx pv pg off nx bf af L op from by simp only [e, List.append_assoc]] at gpv
  rw [num_8 _ hpv0 hpv1] at gpv
  simp [candV, hk, gtx, gpv, hpv, hch, hbf, hnx, hck]
  simp [hs]
  done
theorem cand_5 (tx pv pg off nx : Int) (bf af : List UInt8) (L : List (Int × Int)) (op : Bool) (htx0 : 0 ≤ tx) (htx : tx < 18446744073709551616) (hpv0 : 0 ≤ pv) (hpv1 : pv < 18446744073709551616) (hnx0 : 0 ≤ nx) (hnx1 : nx < 18446744073709551616) (hdl : ∀ e ∈ L, 0 ≤ e.2 ∧ e.2 < 18446744073709551616) (hf : formN 5 pv pg off nx af.length bf.length L.length L op = true) : candV (fullB 5 tx pv pg off nx bf af L op) = ⟨5, tx, pv, pg, off, bf, af, nx, L, op⟩ := by
  have hs := hf
  simp [formN, hok, hpv, hch, hbf, hnx, hck, chgN, chkN, isPg] at hs
  have e : fullB 5 tx pv pg off nx bf af L op = numN 1 5 ++ (numN 8 tx ++ (numN 8 pv ++ (sumB (recB 5 tx pv pg off nx bf af L op)))) := by
    unfold fullB
    conv => lhs; lhs; rw [recB]
    simp [hpv, hch, hnx, hck]
  have hk := byteV_0 5 (numN 8 tx ++ (numN 8 pv ++ (sumB (recB 5 tx pv pg off nx bf af L op)))) (by decide) (by decide)
  rw [← e] at hk
  have gtx := atV_mid (numN 1 5) (numN 8 tx) (numN 8 pv ++ (sumB (recB 5 tx pv pg off nx bf af L op))) (1) (8) (by simp only [List.length_append, numN_1, numN_2, numN_8]) (by exact numN_8 _)
  rw [show (numN 1 5) ++ ((numN 8 tx) ++ (numN 8 pv ++ (sumB (recB 5 tx pv pg off nx bf af L op)))) = fullB 5 tx pv pg off nx bf af L op from by simp only [e, List.append_assoc]] at gtx
  rw [num_8 _ htx0 htx] at gtx
  have gpv := atV_mid (numN 1 5 ++ (numN 8 tx)) (numN 8 pv) (sumB (recB 5 tx pv pg off nx bf af L op)) (9) (8) (by simp only [List.length_append, numN_1, numN_2, numN_8]) (by exact numN_8 _)
  rw [show (numN 1 5 ++ (numN 8 tx)) ++ ((numN 8 pv) ++ (sumB (recB 5 tx pv pg off nx bf af L op))) = fullB 5 tx pv pg off nx bf af L op from by simp only [e, List.append_assoc]] at gpv
  rw [num_8 _ hpv0 hpv1] at gpv
  simp [candV, hk, gtx, gpv, hpv, hch, hbf, hnx, hck]
  simp [hs]
  done
theorem cand_6 (tx pv pg off nx : Int) (bf af : List UInt8) (L : List (Int × Int)) (op : Bool) (htx0 : 0 ≤ tx) (htx : tx < 18446744073709551616) (hpv0 : 0 ≤ pv) (hpv1 : pv < 18446744073709551616) (hnx0 : 0 ≤ nx) (hnx1 : nx < 18446744073709551616) (hdl : ∀ e ∈ L, 0 ≤ e.2 ∧ e.2 < 18446744073709551616) (hf : formN 6 pv pg off nx af.length bf.length L.length L op = true) : candV (fullB 6 tx pv pg off nx bf af L op) = ⟨6, tx, pv, pg, off, bf, af, nx, L, op⟩ := by
  have hs := hf
  simp [formN, hok, hpv, hch, hbf, hnx, hck, chgN, chkN, isPg] at hs
  obtain ⟨hnd64, hris⟩ : L.length ≤ 64 ∧ risB (-1) L = true := by
    first
      | exact ⟨hs.2.2.1, hs.2.2.2⟩
      | exact ⟨hs.2.2.2.1, hs.2.2.2.2⟩
  have e : fullB 6 tx pv pg off nx bf af L op = numN 1 6 ++ (numN 8 tx ++ (numN 8 pv ++ (numN 1 (cntN L.length op) ++ (dirB L ++ (sumB (recB 6 tx pv pg off nx bf af L op)))))) := by
    unfold fullB
    conv => lhs; lhs; rw [recB]
    simp [hpv, hch, hnx, hck]
  have hk := byteV_0 6 (numN 8 tx ++ (numN 8 pv ++ (numN 1 (cntN L.length op) ++ (dirB L ++ (sumB (recB 6 tx pv pg off nx bf af L op)))))) (by decide) (by decide)
  rw [← e] at hk
  have gtx := atV_mid (numN 1 6) (numN 8 tx) (numN 8 pv ++ (numN 1 (cntN L.length op) ++ (dirB L ++ (sumB (recB 6 tx pv pg off nx bf af L op))))) (1) (8) (by simp only [List.length_append, numN_1, numN_2, numN_8]) (by exact numN_8 _)
  rw [show (numN 1 6) ++ ((numN 8 tx) ++ (numN 8 pv ++ (numN 1 (cntN L.length op) ++ (dirB L ++ (sumB (recB 6 tx pv pg off nx bf af L op)))))) = fullB 6 tx pv pg off nx bf af L op from by simp only [e, List.append_assoc]] at gtx
  rw [num_8 _ htx0 htx] at gtx
  have gpv := atV_mid (numN 1 6 ++ (numN 8 tx)) (numN 8 pv) (numN 1 (cntN L.length op) ++ (dirB L ++ (sumB (recB 6 tx pv pg off nx bf af L op)))) (9) (8) (by simp only [List.length_append, numN_1, numN_2, numN_8]) (by exact numN_8 _)
  rw [show (numN 1 6 ++ (numN 8 tx)) ++ ((numN 8 pv) ++ (numN 1 (cntN L.length op) ++ (dirB L ++ (sumB (recB 6 tx pv pg off nx bf af L op))))) = fullB 6 tx pv pg off nx bf af L op from by simp only [e, List.append_assoc]] at gpv
  rw [num_8 _ hpv0 hpv1] at gpv
  have gq := atV_mid (numN 1 6 ++ (numN 8 tx ++ (numN 8 pv))) (numN 1 (cntN L.length op)) (dirB L ++ (sumB (recB 6 tx pv pg off nx bf af L op))) (17) (1) (by simp only [List.length_append, numN_1, numN_2, numN_8] <;> omega) (by exact numN_1 _)
  rw [show (numN 1 6 ++ (numN 8 tx ++ (numN 8 pv))) ++ ((numN 1 (cntN L.length op)) ++ (dirB L ++ (sumB (recB 6 tx pv pg off nx bf af L op)))) = fullB 6 tx pv pg off nx bf af L op from by simp only [e, List.append_assoc]] at gq
  rw [num_1 _ (by unfold cntN; split <;> omega) (by unfold cntN; split <;> omega)] at gq
  have gd := cand_dirs (numN 1 6 ++ (numN 8 tx ++ (numN 8 pv ++ (numN 1 (cntN L.length op))))) L (sumB (recB 6 tx pv pg off nx bf af L op)) (by simp only [List.length_append, numN_1, numN_2, numN_8]) (fun e he => ⟨risB_mem L (-1) (Int.le_refl _) hris e he, hdl e he⟩)
  rw [show (numN 1 6 ++ (numN 8 tx ++ (numN 8 pv ++ (numN 1 (cntN L.length op))))) ++ (dirB L ++ sumB (recB 6 tx pv pg off nx bf af L op)) = fullB 6 tx pv pg off nx bf af L op from by simp only [e, List.append_assoc]] at gd
  have g1 : atV (fullB 6 tx pv pg off nx bf af L op) 17 1 / 2 = L.length := by cases op <;> simp [cntN] at gq <;> omega
  have g2 : decide (atV (fullB 6 tx pv pg off nx bf af L op) 17 1 % 2 = 1) = op := by cases op <;> simp [cntN] at gq <;> simp <;> omega
  simp [candV, hk, gtx, gpv, g1, g2, gd, hpv, hch, hbf, hnx, hck]
  simp [hs]
  done
end Go.Proofs.YtkbmcebdhiiffaaDoor
namespace Go.Proofs.YtkbmcebdhiiffaaDoor
open Go.RowKit

/-- A reader that isn't short reads the same of more bytes. -/
def Goes {α : Type} (f : List UInt8 × Bool → α × (List UInt8 × Bool)) : Prop := ∀ st, (f st).2.2 = false → st.2 = false ∧ ∀ rest, f (st.1 ++ rest, st.2) = ((f st).1, ((f st).2.1 ++ rest, (f st).2.2))
theorem goes_tk (n : Nat) : Goes (tk n) := fun st h => by
  unfold tk at h ⊢
  by_cases hs : st.1.length < n
  · rw [if_pos hs] at h; cases h
  · rw [if_neg hs] at h ⊢
    refine ⟨h, fun rest => ?_⟩
    rw [if_neg (by show ¬ (st.1 ++ rest).length < n; rw [List.length_append]; omega)]
    show ((st.1 ++ rest).take n, ((st.1 ++ rest).drop n, st.2)) = _
    rw [List.take_append_of_le_length (by omega), List.drop_append_of_le_length (by omega)]
theorem goes_rdN (b : Bool) (n : Nat) : Goes (rdN b n) := fun st h => by
  cases b with
  | false => exact ⟨h, fun rest => rfl⟩
  | true =>
    obtain ⟨h1, h2⟩ := goes_tk n st h
    refine ⟨h1, fun rest => ?_⟩
    show (num (tk n (st.1 ++ rest, st.2)).1, (tk n (st.1 ++ rest, st.2)).2) = _
    rw [h2 rest]
    rfl
theorem goes_rdB (b : Bool) (n : Nat) : Goes (rdB b n) := fun st h => by
  cases b with
  | false => exact ⟨h, fun rest => rfl⟩
  | true => exact goes_tk n st h
theorem goes_dirR : ∀ m, Goes (dirR m)
  | 0 => fun st h => ⟨h, fun rest => rfl⟩
  | m + 1 => fun st h => by
    have h0 : (dirR m (tk 8 (tk 2 st).2).2).2.2 = false := h
    obtain ⟨h1, e1⟩ := goes_dirR m _ h0
    obtain ⟨h2, e2⟩ := goes_tk 8 _ h1
    obtain ⟨h3, e3⟩ := goes_tk 2 _ h2
    refine ⟨h3, fun rest => ?_⟩
    have e3 := e3 rest
    have e2 : tk 8 ((tk 2 st).2.1 ++ rest, (tk 2 st).2.2) = _ := e2 rest
    have e1 : dirR m ((tk 8 (tk 2 st).2).2.1 ++ rest, (tk 8 (tk 2 st).2).2.2) = _ := e1 rest
    simp only [dirR, e3, e2, e1]
theorem goes_rdD (b : Bool) (q : Nat) : Goes (rdD b q) := fun st h => by
  cases b with
  | false => exact ⟨h, fun rest => rfl⟩
  | true => exact goes_dirR (q / 2) st h
theorem goes_rdRec : Goes rdRec := fun st h => by
  have h10 : (rdD (hck (num (tk 1 st).1)) _ _).2.2 = false := h
  obtain ⟨h9, e10⟩ := goes_rdD _ _ _ h10
  obtain ⟨h8, e9⟩ := goes_rdN _ _ _ h9
  obtain ⟨h7, e8⟩ := goes_rdN _ _ _ h8
  obtain ⟨h6, e7⟩ := goes_rdB _ _ _ h7
  obtain ⟨h5, e6⟩ := goes_rdB _ _ _ h6
  obtain ⟨h4, e5⟩ := goes_rdN _ _ _ h5
  obtain ⟨h3, e4⟩ := goes_rdN _ _ _ h4
  obtain ⟨h2, e3⟩ := goes_rdN _ _ _ h3
  obtain ⟨h1, e2⟩ := goes_rdN _ _ _ h2
  obtain ⟨h0, e1⟩ := goes_tk 8 _ h1
  obtain ⟨hz, e0⟩ := goes_tk 1 _ h0
  refine ⟨hz, fun rest => ?_⟩
  have e0 := e0 rest
  have e1 := e1 rest
  have e2 := e2 rest
  have e3 := e3 rest
  have e4 := e4 rest
  have e5 := e5 rest
  have e6 := e6 rest
  have e7 := e7 rest
  have e8 := e8 rest
  have e9 := e9 rest
  have e10 := e10 rest
  simp only [rdRec, e0, e1, e2, e3, e4, e5, e6, e7, e8, e9, e10]
theorem num_4 (u : Int) (h0 : 0 ≤ u) (h1 : u < 4294967296) : num (numN 4 u) = u := by
  have e : numN 4 u = [b8 (u / 16777216 % 256), b8 (u / 65536 % 256), b8 (u / 256 % 256), b8 (u % 256)] := rfl
  rw [e]
  unfold num
  simp only [List.foldl_cons, List.foldl_nil]
  rw [b8_toNat (by omega) (by omega), b8_toNat (by omega) (by omega), b8_toNat (by omega) (by omega), b8_toNat (by omega) (by omega)]
  omega
theorem sumB_inj {a b : List UInt8} (h : sumB a = sumB b) : crc a = crc b := by
  have h1 := num_4 (crc a : Int) (by omega) (by unfold crc; omega)
  have h2 := num_4 (crc b : Int) (by omega) (by unfold crc; omega)
  unfold sumB at h
  rw [h] at h1
  have : (crc a : Int) = (crc b : Int) := h1.symm.trans h2
  omega
/-- One byte turned: the sum is wrong. -/
theorem decV_turned (c : List UInt8) (k : Nat) (x y : UInt8) (hk : (c ++ sumB c)[k]? = some x) (hy : y ≠ x) (hc : 1 ≤ c.length) : decV ((c ++ sumB c).set k y) = (15, none) := by
  have h4 : (sumB c).length = 4 := numN_length 4 _ (by decide)
  have hl : ((c ++ sumB c).set k y).length = c.length + 4 := by rw [List.length_set, List.length_append, h4]
  unfold decV
  rw [if_neg (by rw [hl]; omega), if_pos]
  rw [hl, Nat.add_sub_cancel]
  apply beq_eq_false_iff_ne.2
  intro e
  by_cases hkc : k < c.length
  · rw [List.set_append_left _ _ hkc, List.take_left' (by rw [List.length_set]), List.drop_left' (by rw [List.length_set])] at e
    have hx : c[k]? = some x := by rw [List.getElem?_append_left hkc] at hk; exact hk
    obtain ⟨hlt, hxx⟩ := List.getElem?_eq_some_iff.1 hx
    have e1 : c = c.take k ++ x :: c.drop (k + 1) := by rw [← hxx, ← List.drop_eq_getElem_cons hlt, List.take_append_drop]
    have e2 : c.set k y = c.take k ++ y :: c.drop (k + 1) := by rw [List.set_eq_take_append_cons_drop, if_pos hlt]
    have h2 : crc (c.take k ++ y :: c.drop (k + 1)) = crc (c.take k ++ x :: c.drop (k + 1)) := by
      rw [← e1, ← e2]; exact sumB_inj e
    exact hy (crc_turned _ _ _ _ h2)
  · have hk2 : c.length ≤ k := by omega
    rw [List.set_append_right _ _ hk2, List.take_left' rfl, List.drop_left' rfl] at e
    have hx : (sumB c)[k - c.length]? = some x := by rw [List.getElem?_append_right hk2] at hk; exact hk
    obtain ⟨hlt, hxx⟩ := List.getElem?_eq_some_iff.1 hx
    have h1 : ((sumB c).set (k - c.length) y)[k - c.length]? = some y := List.getElem?_set_self hlt
    rw [← e, hx] at h1
    injection h1 with h1
    exact hy h1.symm
/-- Cut short: there is no record. -/
theorem decV_cut (k tx pv pg off nx : Int) (bf af : List UInt8) (L : List (Int × Int)) (op : Bool) (htx0 : 0 ≤ tx) (htx : tx < 18446744073709551616) (hpv0 : 0 ≤ pv) (hpv1 : pv < 18446744073709551616) (hnx0 : 0 ≤ nx) (hnx1 : nx < 18446744073709551616) (hdl : ∀ e ∈ L, 0 ≤ e.2 ∧ e.2 < 18446744073709551616)
    (hf : formN k pv pg off nx af.length bf.length L.length L op = true) (j : Nat) (hj : j < (fullB k tx pv pg off nx bf af L op).length) : ∃ n, (n = 3 ∨ n = 15) ∧ decV ((fullB k tx pv pg off nx bf af L op).take j) = (n, none) := by
  have h4 : (sumB (recB k tx pv pg off nx bf af L op)).length = 4 := numN_length 4 _ (by decide)
  have hl : (fullB k tx pv pg off nx bf af L op).length = (recB k tx pv pg off nx bf af L op).length + 4 := by unfold fullB; rw [List.length_append, h4]
  have hjl : ((fullB k tx pv pg off nx bf af L op).take j).length = j := by rw [List.length_take]; omega
  unfold decV
  rw [hjl]
  by_cases h5 : j < 5
  · rw [if_pos h5]; exact ⟨3, .inl rfl, rfl⟩
  · rw [if_neg h5]
    by_cases hs : (sumB (((fullB k tx pv pg off nx bf af L op).take j).take (j - 4)) == ((fullB k tx pv pg off nx bf af L op).take j).drop (j - 4)) = false
    · rw [if_pos hs]; exact ⟨15, .inr rfl, rfl⟩
    · rw [if_neg hs, if_neg]
      · exact ⟨3, .inl rfl, rfl⟩
      · rintro ⟨h1, -⟩
        have e : ((fullB k tx pv pg off nx bf af L op).take j).take (j - 4) = (recB k tx pv pg off nx bf af L op).take (j - 4) := by
          rw [List.take_take, Nat.min_eq_left (by omega)]
          unfold fullB
          rw [List.take_append_of_le_length (by omega)]
        rw [e] at h1
        have hg := (goes_rdRec ((recB k tx pv pg off nx bf af L op).take (j - 4), false) (by rw [h1])).2 ((recB k tx pv pg off nx bf af L op).drop (j - 4))
        simp only [List.take_append_drop] at hg
        rw [back_any k tx pv pg off nx bf af L op htx0 htx hpv0 hpv1 hnx0 hnx1 hdl hf, h1] at hg
        have h2 := congrArg (fun z => z.2.1) hg
        simp only [List.nil_append] at h2
        have h3 := congrArg List.length h2
        rw [List.length_drop, List.length_nil] at h3
        omega
end Go.Proofs.YtkbmcebdhiiffaaDoor
namespace Go.Proofs.YtkbmcebdhiiffaaDoor
open Go.RowKit

/-- Numbers of eight bytes. -/
structure Nums (r : Rec) : Prop where
  tx : 0 ≤ r.tx ∧ r.tx < 18446744073709551616
  pv : 0 ≤ r.pv ∧ r.pv < 18446744073709551616
  nx : 0 ≤ r.nx ∧ r.nx < 18446744073709551616
  dl : ∀ e ∈ r.dl, 0 ≤ e.2 ∧ e.2 < 18446744073709551616
def recOf (r : Rec) : List UInt8 := recB r.k r.tx r.pv r.pg r.off r.nx r.bf r.af r.dl r.op
def fullOf (r : Rec) : List UInt8 := fullB r.k r.tx r.pv r.pg r.off r.nx r.bf r.af r.dl r.op
theorem fullOf_eq (r : Rec) : fullOf r = recOf r ++ sumB (recOf r) := rfl
theorem cand_any (k tx pv pg off nx : Int) (bf af : List UInt8) (L : List (Int × Int)) (op : Bool) (hN : Nums ⟨k, tx, pv, pg, off, bf, af, nx, L, op⟩) (hf : formN k pv pg off nx af.length bf.length L.length L op = true) : candV (fullB k tx pv pg off nx bf af L op) = ⟨k, tx, pv, pg, off, bf, af, nx, L, op⟩ := by
  have hk : 1 ≤ k ∧ k ≤ 6 := by
    have h := hf
    simp only [formN, Bool.and_eq_true] at h
    have h := h.1
    simpa [hok] using h
  obtain ⟨⟨h1, h2⟩, ⟨h3, h4⟩, ⟨h5, h6⟩, h7⟩ := hN
  rcases (by omega : k = 1 ∨ k = 2 ∨ k = 3 ∨ k = 4 ∨ k = 5 ∨ k = 6) with rfl | rfl | rfl | rfl | rfl | rfl
  · exact cand_1 tx pv pg off nx bf af L op h1 h2 h3 h4 h5 h6 h7 hf
  · exact cand_2 tx pv pg off nx bf af L op h1 h2 h3 h4 h5 h6 h7 hf
  · exact cand_3 tx pv pg off nx bf af L op h1 h2 h3 h4 h5 h6 h7 hf
  · exact cand_4 tx pv pg off nx bf af L op h1 h2 h3 h4 h5 h6 h7 hf
  · exact cand_5 tx pv pg off nx bf af L op h1 h2 h3 h4 h5 h6 h7 hf
  · exact cand_6 tx pv pg off nx bf af L op h1 h2 h3 h4 h5 h6 h7 hf
theorem cand_full (r : Rec) (hN : Nums r) (hf : formB r = true) : candV (fullOf r) = r := by
  obtain ⟨k, tx, pv, pg, off, bf, af, nx, L, op⟩ := r
  exact cand_any k tx pv pg off nx bf af L op hN hf
theorem dec_full (r : Rec) (hN : Nums r) (hf : formB r = true) : decV (fullOf r) = (0, some r) := by
  obtain ⟨k, tx, pv, pg, off, bf, af, nx, L, op⟩ := r
  obtain ⟨⟨h1, h2⟩, ⟨h3, h4⟩, ⟨h5, h6⟩, h7⟩ := hN
  exact decV_full k tx pv pg off nx bf af L op h1 h2 h3 h4 h5 h6 h7 hf
theorem atV_8 (l : List UInt8) (f : Nat) : (0 : Int) ≤ (atV l f 8 : Int) ∧ (atV l f 8 : Int) < 18446744073709551616 := by
  have h := atV_lt l f 8
  have e : (256 : Nat) ^ 8 = 18446744073709551616 := by decide
  rw [e] at h
  omega
theorem cand_nums (l : List UInt8) : Nums (candV l) := by
  refine ⟨atV_8 l 1, ?_, ?_, ?_⟩
  · show 0 ≤ (if (byteV l 0 : Int) = 1 then (0 : Int) else (atV l 9 8 : Int)) ∧ (if (byteV l 0 : Int) = 1 then (0 : Int) else (atV l 9 8 : Int)) < 18446744073709551616
    split
    · omega
    · exact atV_8 l 9
  · simp only [candV]
    split
    · exact atV_8 l _
    · omega
  · intro e he
    simp only [candV, List.mem_map] at he
    obtain ⟨i, _, rfl⟩ := he
    exact atV_8 l _
theorem num_8lt (st : List UInt8 × Bool) : 0 ≤ num (tk 8 st).1 ∧ num (tk 8 st).1 < 18446744073709551616 := by
  have h := num_lt 8 st
  have e : (256 : Int) ^ 8 = 18446744073709551616 := by decide
  rw [e] at h
  exact h
theorem rdN_8lt (b : Bool) (st : List UInt8 × Bool) : 0 ≤ (rdN b 8 st).1 ∧ (rdN b 8 st).1 < 18446744073709551616 := by
  have h := rdN_lt b 8 st
  have e : (256 : Int) ^ 8 = 18446744073709551616 := by decide
  rw [e] at h
  exact h
theorem dirR_nums : ∀ (m : Nat) (st : List UInt8 × Bool), ∀ e ∈ (dirR m st).1, 0 ≤ e.2 ∧ e.2 < 18446744073709551616
  | 0, _, e, he => by cases he
  | m + 1, st, e, he => by
    rcases List.mem_cons.1 he with rfl | he
    · exact num_8lt _
    · exact dirR_nums m _ e he
theorem rd_nums (st : List UInt8 × Bool) : Nums (rdRec st).1 := by
  refine ⟨num_8lt _, rdN_8lt _ _, rdN_8lt _ _, ?_⟩
  show ∀ e ∈ (rdD _ _ _).1, _
  unfold rdD
  split
  · exact dirR_nums _ _
  · intro e he; cases he
theorem inv_4 : ∀ b : List UInt8, b.length = 4 → numN 4 (num b) = b
  | [x, y, z, t], _ => by
    have h0 := x.toNat_lt
    have h1 := y.toNat_lt
    have h2 := z.toNat_lt
    have h3 := t.toNat_lt
    obtain ⟨u, hu⟩ : ∃ u, num [x, y, z, t] = u := ⟨_, rfl⟩
    have hue : u = (((x.toNat : Int) * 256 + y.toNat) * 256 + z.toNat) * 256 + t.toNat := by rw [← hu]; simp [num]
    rw [hu]
    show [b8 (u / 16777216 % 256), b8 (u / 65536 % 256), b8 (u / 256 % 256), b8 (u % 256)] = _
    clear hu
    rw [byte_eq x _ (by omega), byte_eq y _ (by omega), byte_eq z _ (by omega), byte_eq t _ (by omega)]
/-- What the document tells of some bytes. -/
def refV (l : List UInt8) : Int × Option Rec :=
  if l.length < 5 then (3, none) else if atV l (l.length - 4) 4 ≠ crc (l.take (l.length - 4)) then (15, none)
  else if formB (candV l) = true ∧ fullOf (candV l) = l then (0, some (candV l)) else (3, none)
theorem sum_at (l : List UInt8) (h : 5 ≤ l.length) : (sumB (l.take (l.length - 4)) == l.drop (l.length - 4)) = false ↔ atV l (l.length - 4) 4 ≠ crc (l.take (l.length - 4)) := by
  have hd : (l.drop (l.length - 4)).length = 4 := by rw [List.length_drop]; omega
  have hm := atV_mid (l.take (l.length - 4)) (l.drop (l.length - 4)) [] (l.length - 4) 4 (by rw [List.length_take]; omega) hd
  rw [List.append_nil, List.take_append_drop] at hm
  rw [beq_eq_false_iff_ne]
  apply not_congr
  constructor
  · intro e
    rw [← e] at hm
    unfold sumB at hm
    rw [num_4 _ (by omega) (by unfold crc; omega)] at hm
    omega
  · intro e
    rw [e] at hm
    unfold sumB
    rw [hm, inv_4 _ hd]
theorem ref_dec (l : List UInt8) : refV l = decV l := by
  unfold refV
  by_cases h5 : l.length < 5
  · rw [if_pos h5]; unfold decV; rw [if_pos h5]
  · rw [if_neg h5]
    by_cases hs : atV l (l.length - 4) 4 ≠ crc (l.take (l.length - 4))
    · rw [if_pos hs]; unfold decV; rw [if_neg h5, if_pos ((sum_at l (by omega)).2 hs)]
    · rw [if_neg hs]
      have hsb := fun h => hs ((sum_at l (by omega)).1 h)
      by_cases hc : formB (candV l) = true ∧ fullOf (candV l) = l
      · rw [if_pos hc]
        have h := dec_full (candV l) (cand_nums l) hc.1
        rw [hc.2] at h
        exact h.symm
      · rw [if_neg hc]
        unfold decV
        rw [if_neg h5, if_neg hsb, if_neg]
        rintro ⟨hr, hf⟩
        apply hc
        have hb : recOf (rdRec (l.take (l.length - 4), false)).1 = l.take (l.length - 4) := rec_back _ hr
        have hfl : fullOf (rdRec (l.take (l.length - 4), false)).1 = l := by
          rw [fullOf_eq, hb]
          have e : sumB (l.take (l.length - 4)) = l.drop (l.length - 4) := by
            rcases hq : (sumB (l.take (l.length - 4)) == l.drop (l.length - 4)) with _ | _
            · exact absurd hq hsb
            · exact eq_of_beq hq
          rw [e, List.take_append_drop]
        have hcand := cand_full _ (rd_nums _) hf
        rw [hfl] at hcand
        rw [hcand]
        exact ⟨hf, hfl⟩
end Go.Proofs.YtkbmcebdhiiffaaDoor
