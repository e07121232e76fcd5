/-
  The tag by two whole digests, as the reference makes it. No program is spoken of.
-/
import Derived.Test.YtmanflfanoddgaaDoorRefQ
import Derived.Test.YtmanflfanoddgaaDoorShaO
namespace Go.Proofs.YtmanflfanoddgaaDoor

theorem absorb_block (s : Sta) (blk : List UInt8) (h : blk.length = 64) : absorb s blk = mixedS s blk := by
  unfold absorb
  rw [h]
  show mixedS s ((blk.drop 0).take 64) = _
  rw [List.drop_zero, List.take_of_length_le (by omega)]
theorem sumS_full (s : Sta) (a : Nat) (l : List UInt8) : sumS s a l = (absorb s (padS l (padLen l.length) ++ be8 (8 * (a + l.length) % 18446744073709551616))).out := by
  unfold sumS
  have hw : (l.take (l.length - l.length % 64)).length = l.length - l.length % 64 := by simp
  rw [← absorb_append _ _ _ (by rw [hw]; omega)]
  congr 2
  unfold endingS padS
  have hd : (l.drop (l.length - l.length % 64)).length = l.length % 64 := by rw [List.length_drop]; omega
  rw [hd, padLen_mod]
  simp only [← List.append_assoc, List.take_append_drop]
theorem sha_block (blk p : List UInt8) (h : blk.length = 64) : sha (blk ++ p) = sumS (mixedS start0 blk) 64 p := by
  rw [sha_full, sumS_full, ← absorb_block _ _ h, ← absorb_append _ _ _ (by rw [h])]
  congr 2
  unfold fullS padS
  have e : padLen (64 + p.length) = padLen p.length := by unfold padLen; omega
  rw [List.length_append, h, e]
  simp only [List.append_assoc]
/-- HMAC by two digests. -/
theorem tag_sha (key p : List UInt8) : tagK key p = sha (xorB 92 (keyB key) ++ sha (xorB 54 (keyB key) ++ p)) := by
  have h1 : (xorB 54 (keyB key)).length = 64 := by rw [xorB, List.length_map, keyB_length]
  have h2 : (xorB 92 (keyB key)).length = 64 := by rw [xorB, List.length_map, keyB_length]
  rw [sha_block _ _ h2, sha_block _ _ h1]
  rfl
end Go.Proofs.YtmanflfanoddgaaDoor
