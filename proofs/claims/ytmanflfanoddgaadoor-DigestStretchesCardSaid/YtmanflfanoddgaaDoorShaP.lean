/-
  SHA-256 as plain functions over lists of numbers below 2^32. No program is spoken of.
-/
import Derived.Test.YtmanflfanoddgaaDoorByt
namespace Go.Proofs.YtmanflfanoddgaaDoor

def M32 : Nat := 4294967296
/-- x turned to the right by n. -/
def rotr (n x : Nat) : Nat := x * 2 ^ (32 - n) % 4294967296 ||| x / 2 ^ n
def tri (a b c x : Nat) : Nat := rotr a x ^^^ rotr b x ^^^ rotr c x
def chf (x y z : Nat) : Nat := (x &&& y) ^^^ ((4294967295 - x) &&& z)
def maj (x y z : Nat) : Nat := (x &&& y) ^^^ (x &&& z) ^^^ (y &&& z)
def sig0 (x : Nat) : Nat := rotr 7 x ^^^ rotr 18 x ^^^ x / 8
def sig1 (x : Nat) : Nat := rotr 17 x ^^^ rotr 19 x ^^^ x / 1024
def startW : List Nat := [1779033703, 3144134277, 1013904242, 2773480762, 1359893119, 2600822924, 528734635, 1541459225]
def roundW : List Nat := [
  0x428a2f98, 0x71374491, 0xb5c0fbcf, 0xe9b5dba5, 0x3956c25b, 0x59f111f1, 0x923f82a4, 0xab1c5ed5,
  0xd807aa98, 0x12835b01, 0x243185be, 0x550c7dc3, 0x72be5d74, 0x80deb1fe, 0x9bdc06a7, 0xc19bf174,
  0xe49b69c1, 0xefbe4786, 0x0fc19dc6, 0x240ca1cc, 0x2de92c6f, 0x4a7484aa, 0x5cb0a9dc, 0x76f988da,
  0x983e5152, 0xa831c66d, 0xb00327c8, 0xbf597fc7, 0xc6e00bf3, 0xd5a79147, 0x06ca6351, 0x14292967,
  0x27b70a85, 0x2e1b2138, 0x4d2c6dfc, 0x53380d13, 0x650a7354, 0x766a0abb, 0x81c2c92e, 0x92722c85,
  0xa2bfe8a1, 0xa81a664b, 0xc24b8b70, 0xc76c51a3, 0xd192e819, 0xd6990624, 0xf40e3585, 0x106aa070,
  0x19a4c116, 0x1e376c08, 0x2748774c, 0x34b0bcb5, 0x391c0cb3, 0x4ed8aa4a, 0x5b9cca4f, 0x682e6ff3,
  0x748f82ee, 0x78a5636f, 0x84c87814, 0x8cc70208, 0x90befffa, 0xa4506ceb, 0xbef9a3f7, 0xc67178f2]
/-- Four bytes as a word. -/
def word4 (a b c d : Nat) : Nat := ((a * 16777216 ||| b * 65536) ||| c * 256) ||| d
def byteAt (l : List UInt8) (i : Nat) : Nat := (l.getD i 0).toNat
/-- The block's first words, so many. -/
def firstW (l : List UInt8) : Nat → List Nat
  | 0 => []
  | n + 1 => firstW l n ++ [word4 (byteAt l (4 * n)) (byteAt l (4 * n + 1)) (byteAt l (4 * n + 2)) (byteAt l (4 * n + 3))]
def nextW (w : List Nat) (i : Nat) : Nat := (sig1 (w.getD (i - 2) 0) + w.getD (i - 7) 0 + sig0 (w.getD (i - 15) 0) + w.getD (i - 16) 0) % 4294967296
def moreW (w : List Nat) : Nat → List Nat
  | 0 => w
  | n + 1 => moreW w n ++ [nextW (moreW w n) (16 + n)]
def sched (l : List UInt8) : List Nat := moreW (firstW l 16) 48
/-- The state within a block. -/
structure Sta where
  a : Nat
  b : Nat
  c : Nat
  d : Nat
  e : Nat
  f : Nat
  g : Nat
  h : Nat
def Sta.list (s : Sta) : List Nat := [s.a, s.b, s.c, s.d, s.e, s.f, s.g, s.h]
def Sta.t1 (s : Sta) (k w : Nat) : Nat := (s.h + tri 6 11 25 s.e + chf s.e s.f s.g + k + w) % 4294967296
def Sta.t2 (s : Sta) : Nat := (tri 2 13 22 s.a + maj s.a s.b s.c) % 4294967296
def Sta.next (s : Sta) (k w : Nat) : Sta := ⟨(s.t1 k w + s.t2) % 4294967296, s.a, s.b, s.c, (s.d + s.t1 k w) % 4294967296, s.e, s.f, s.g⟩
def Sta.rounds (s : Sta) (w : List Nat) : Nat → Sta
  | 0 => s
  | n + 1 => (s.rounds w n).next (roundW.getD n 0) (w.getD n 0)
def Sta.plus (s t : Sta) : Sta := ⟨(s.a + t.a) % 4294967296, (s.b + t.b) % 4294967296, (s.c + t.c) % 4294967296, (s.d + t.d) % 4294967296, (s.e + t.e) % 4294967296, (s.f + t.f) % 4294967296, (s.g + t.g) % 4294967296, (s.h + t.h) % 4294967296⟩
def mixedS (s : Sta) (l : List UInt8) : Sta := s.plus (s.rounds (sched l) 64)
/-- The state behind so many whole blocks. -/
def absS (s : Sta) (l : List UInt8) : Nat → Sta
  | 0 => s
  | n + 1 => mixedS (absS s l n) ((l.drop (64 * n)).take 64)
def absorb (s : Sta) (l : List UInt8) : Sta := absS s l (l.length / 64)
def b8n (n : Nat) : UInt8 := UInt8.ofNat n
def be8 (n : Nat) : List UInt8 := [b8n (n / 2 ^ 56), b8n (n / 2 ^ 48), b8n (n / 2 ^ 40), b8n (n / 2 ^ 32), b8n (n / 2 ^ 24), b8n (n / 2 ^ 16), b8n (n / 2 ^ 8), b8n n]
def be4 (n : Nat) : List UInt8 := [b8n (n / 2 ^ 24), b8n (n / 2 ^ 16), b8n (n / 2 ^ 8), b8n n]
/-- What stands behind the bytes of a list of that length: a bit, noughts. -/
def padLen (n : Nat) : Nat := (119 - n % 64) % 64
def endingS (r : List UInt8) (total : Nat) : List UInt8 := r ++ [128] ++ List.replicate (padLen r.length) 0 ++ be8 (8 * total % 18446744073709551616)
def Sta.out (s : Sta) : List UInt8 := be4 s.a ++ be4 s.b ++ be4 s.c ++ be4 s.d ++ be4 s.e ++ be4 s.f ++ be4 s.g ++ be4 s.h
def start0 : Sta := ⟨1779033703, 3144134277, 1013904242, 2773480762, 1359893119, 2600822924, 528734635, 1541459225⟩
def sumS (s : Sta) (ahead : Nat) (l : List UInt8) : List UInt8 :=
  (absorb (absorb s (l.take (l.length - l.length % 64))) (endingS (l.drop (l.length - l.length % 64)) (ahead + l.length))).out
def sha (l : List UInt8) : List UInt8 := sumS start0 0 l

/-- Every number is below 2^32. -/
structure Sta.ok (s : Sta) : Prop where
  a : s.a < 4294967296
  b : s.b < 4294967296
  c : s.c < 4294967296
  d : s.d < 4294967296
  e : s.e < 4294967296
  f : s.f < 4294967296
  g : s.g < 4294967296
  h : s.h < 4294967296
theorem rotr_lt (n x : Nat) (h : x < 4294967296) : rotr n x < 4294967296 :=
  Nat.or_lt_two_pow (n := 32) (Nat.mod_lt _ (by decide)) (Nat.lt_of_le_of_lt (Nat.div_le_self _ _) h)
theorem xor_lt32 {a b : Nat} (ha : a < 4294967296) (hb : b < 4294967296) : a ^^^ b < 4294967296 := Nat.xor_lt_two_pow (n := 32) ha hb
theorem and_lt32 {a b : Nat} (ha : a < 4294967296) : a &&& b < 4294967296 := Nat.lt_of_le_of_lt Nat.and_le_left ha
theorem or_lt32 {a b : Nat} (ha : a < 4294967296) (hb : b < 4294967296) : a ||| b < 4294967296 := Nat.or_lt_two_pow (n := 32) ha hb
theorem tri_lt (a b c x : Nat) (h : x < 4294967296) : tri a b c x < 4294967296 := xor_lt32 (xor_lt32 (rotr_lt _ _ h) (rotr_lt _ _ h)) (rotr_lt _ _ h)
theorem sig0_lt (x : Nat) (h : x < 4294967296) : sig0 x < 4294967296 := xor_lt32 (xor_lt32 (rotr_lt _ _ h) (rotr_lt _ _ h)) (by omega)
theorem sig1_lt (x : Nat) (h : x < 4294967296) : sig1 x < 4294967296 := xor_lt32 (xor_lt32 (rotr_lt _ _ h) (rotr_lt _ _ h)) (by omega)
theorem chf_lt (x y z : Nat) (hx : x < 4294967296) : chf x y z < 4294967296 := xor_lt32 (and_lt32 hx) (and_lt32 (by omega))
theorem maj_lt (x y z : Nat) (hx : x < 4294967296) (hy : y < 4294967296) : maj x y z < 4294967296 := xor_lt32 (xor_lt32 (and_lt32 hx) (and_lt32 hx)) (and_lt32 hy)
theorem Sta.next_ok {s : Sta} (h : s.ok) (k w : Nat) : (s.next k w).ok := ⟨Nat.mod_lt _ (by decide), h.a, h.b, h.c, Nat.mod_lt _ (by decide), h.e, h.f, h.g⟩
theorem Sta.rounds_ok {s : Sta} (h : s.ok) (w : List Nat) (n : Nat) : (s.rounds w n).ok := by
  induction n with
  | zero => exact h
  | succ n ih => exact Sta.next_ok ih _ _
theorem Sta.plus_ok (s t : Sta) : (s.plus t).ok := ⟨Nat.mod_lt _ (by decide), Nat.mod_lt _ (by decide), Nat.mod_lt _ (by decide), Nat.mod_lt _ (by decide), Nat.mod_lt _ (by decide), Nat.mod_lt _ (by decide), Nat.mod_lt _ (by decide), Nat.mod_lt _ (by decide)⟩
theorem absS_ok {s : Sta} (h : s.ok) (l : List UInt8) (n : Nat) : (absS s l n).ok := by
  cases n with
  | zero => exact h
  | succ n => exact Sta.plus_ok _ _
theorem absorb_ok {s : Sta} (h : s.ok) (l : List UInt8) : (absorb s l).ok := absS_ok h _ _
theorem start0_ok : start0.ok := ⟨by decide, by decide, by decide, by decide, by decide, by decide, by decide, by decide⟩
theorem firstW_length (l : List UInt8) (n : Nat) : (firstW l n).length = n := by
  induction n with
  | zero => rfl
  | succ n ih => simp [firstW, ih]
theorem moreW_length (w : List Nat) (n : Nat) : (moreW w n).length = w.length + n := by
  induction n with
  | zero => rfl
  | succ n ih => simp [moreW, ih]; omega
theorem sched_length (l : List UInt8) : (sched l).length = 64 := by simp [sched, moreW_length, firstW_length]
theorem be4_length (n : Nat) : (be4 n).length = 4 := rfl
theorem out_length (s : Sta) : s.out.length = 32 := rfl
theorem ending_length (r : List UInt8) (h : r.length < 64) (t : Nat) : (endingS r t).length = if r.length + 9 > 64 then 128 else 64 := by
  simp only [endingS, be8, padLen, List.length_append, List.length_replicate, List.length_cons, List.length_nil]
  split <;> omega
theorem word4_lt {a b c d : Nat} (ha : a < 256) (hb : b < 256) (hc : c < 256) (hd : d < 256) : word4 a b c d < 4294967296 :=
  or_lt32 (or_lt32 (or_lt32 (by omega) (by omega)) (by omega)) (by omega)
theorem byteAt_lt (l : List UInt8) (i : Nat) : byteAt l i < 256 := UInt8.toNat_lt _
theorem firstW_lt (l : List UInt8) (n : Nat) : ∀ x ∈ firstW l n, x < 4294967296 := by
  induction n with
  | zero => intro x h; cases h
  | succ n ih =>
    intro x h
    rcases List.mem_append.1 h with h | h
    · exact ih x h
    · rw [List.mem_singleton.1 h]
      exact word4_lt (byteAt_lt _ _) (byteAt_lt _ _) (byteAt_lt _ _) (byteAt_lt _ _)
theorem moreW_lt (w : List Nat) (hw : ∀ x ∈ w, x < 4294967296) (n : Nat) : ∀ x ∈ moreW w n, x < 4294967296 := by
  induction n with
  | zero => exact hw
  | succ n ih =>
    intro x h
    rcases List.mem_append.1 h with h | h
    · exact ih x h
    · rw [List.mem_singleton.1 h]
      exact Nat.mod_lt _ (by decide)
theorem sched_lt (l : List UInt8) : ∀ x ∈ sched l, x < 4294967296 := moreW_lt _ (firstW_lt l 16) 48
theorem sha_abc : sha [97, 98, 99] = [0xba, 0x78, 0x16, 0xbf, 0x8f, 0x01, 0xcf, 0xea, 0x41, 0x41, 0x40, 0xde, 0x5d, 0xae, 0x22, 0x23, 0xb0, 0x03, 0x61, 0xa3, 0x96, 0x17, 0x7a, 0x9c, 0xb4, 0x10, 0xff, 0x61, 0xf2, 0x00, 0x15, 0xad] := by decide +kernel
end Go.Proofs.YtmanflfanoddgaaDoor
