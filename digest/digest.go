// Package digest is layer 1, digests and tags: see shared/doc/01-digest.md.
package digest

import (
	"math/bits"

	"muniment/api"
)

// How many bytes a block and a digest have, and how many rounds a block is gone through.
const (
	blockSize   = 64
	sumSize     = 32
	blockRounds = 64
)

// What a key's bytes are turned over by for the outer digest of a tag, and for the inner one.
const (
	outerPad = 0x5c
	innerPad = 0x36
)

const digits = "0123456789abcdef"

// start is the state ahead of the first block: the square roots of the first 8 primes, behind the point.
var start = [8]uint32{
	0x6a09e667, 0xbb67ae85, 0x3c6ef372, 0xa54ff53a,
	0x510e527f, 0x9b05688c, 0x1f83d9ab, 0x5be0cd19,
}

// roundWords has a word for each round: the cube roots of the first 64 primes, behind the point.
var roundWords = [blockRounds]uint32{
	0x428a2f98, 0x71374491, 0xb5c0fbcf, 0xe9b5dba5, 0x3956c25b, 0x59f111f1, 0x923f82a4, 0xab1c5ed5,
	0xd807aa98, 0x12835b01, 0x243185be, 0x550c7dc3, 0x72be5d74, 0x80deb1fe, 0x9bdc06a7, 0xc19bf174,
	0xe49b69c1, 0xefbe4786, 0x0fc19dc6, 0x240ca1cc, 0x2de92c6f, 0x4a7484aa, 0x5cb0a9dc, 0x76f988da,
	0x983e5152, 0xa831c66d, 0xb00327c8, 0xbf597fc7, 0xc6e00bf3, 0xd5a79147, 0x06ca6351, 0x14292967,
	0x27b70a85, 0x2e1b2138, 0x4d2c6dfc, 0x53380d13, 0x650a7354, 0x766a0abb, 0x81c2c92e, 0x92722c85,
	0xa2bfe8a1, 0xa81a664b, 0xc24b8b70, 0xc76c51a3, 0xd192e819, 0xd6990624, 0xf40e3585, 0x106aa070,
	0x19a4c116, 0x1e376c08, 0x2748774c, 0x34b0bcb5, 0x391c0cb3, 0x4ed8aa4a, 0x5b9cca4f, 0x682e6ff3,
	0x748f82ee, 0x78a5636f, 0x84c87814, 0x8cc70208, 0x90befffa, 0xa4506ceb, 0xbef9a3f7, 0xc67178f2,
}

// Sum: SHA-256.
func Sum(p []byte) [32]byte { return sumFrom(start, 0, p) }

// Tag: HMAC with SHA-256.
func Tag(key, p []byte) [32]byte { return keyedBy(key).tag(p) }

// Stretch: a password's digest, by so many rounds.
func Stretch(pass, salt []byte, rounds int) ([32]byte, api.Errno) {
	if rounds < 1 || rounds > api.MaxRounds {
		return [32]byte{}, api.ErrArg
	}
	k := keyedBy(pass)
	last := k.tag(numbered(salt))
	all := last
	for range rounds - 1 {
		last = k.tag(last[:])
		for i := range all {
			all[i] ^= last[i]
		}
	}
	return all, api.OK
}

// Equal: are two lists of bytes the same? It looks at all of them, so that how long it takes doesn't tell where they part.
func Equal(a, b []byte) bool {
	if len(a) != len(b) {
		return false
	}
	var unlike byte
	for i := range a {
		unlike |= a[i] ^ b[i]
	}
	return unlike == 0
}

// Hex: bytes in digits to the base 16.
func Hex(p []byte) string {
	out := make([]byte, 0, 2*len(p))
	for _, b := range p {
		out = append(out, digits[b>>4], digits[b&15])
	}
	return string(out)
}

// numbered is the salt with the number of the only block that is made behind it; a copy, as the salt's spare room is its owner's.
func numbered(salt []byte) []byte {
	out := make([]byte, len(salt)+4)
	copy(out, salt)
	out[len(salt)+3] = 1
	return out
}

// keyed is a key as the states behind its two blocks, so that many tags of one key go through them once.
type keyed struct {
	inner [8]uint32
	outer [8]uint32
}

func keyedBy(key []byte) keyed {
	var block [blockSize]byte
	if len(key) > blockSize {
		short := Sum(key)
		copy(block[:], short[:])
	} else {
		copy(block[:], key)
	}
	return keyed{inner: padded(block, innerPad), outer: padded(block, outerPad)}
}

// padded is the state behind a key's block that is turned over by pad.
func padded(block [blockSize]byte, pad byte) [8]uint32 {
	for i := range block {
		block[i] ^= pad
	}
	return mixed(start, block[:])
}

func (k keyed) tag(p []byte) [32]byte {
	inner := sumFrom(k.inner, blockSize, p)
	return sumFrom(k.outer, blockSize, inner[:])
}

// sumFrom is the digest of all that came ahead, so many bytes, which left the state h, and of p.
func sumFrom(h [8]uint32, ahead int, p []byte) [32]byte {
	whole := len(p) - len(p)%blockSize
	h = absorbed(h, p[:whole])
	h = absorbed(h, ending(p[whole:], uint64(ahead)+uint64(len(p))))
	var out [sumSize]byte
	for i, word := range h {
		for j := range 4 {
			out[4*i+j] = byte(word >> (24 - 8*j))
		}
	}
	return out
}

// ending is the last block, or two: what is left, a bit behind it, and how many bits there were in all.
func ending(rest []byte, total uint64) []byte {
	size := blockSize
	if len(rest)+9 > blockSize {
		size = 2 * blockSize
	}
	out := make([]byte, size)
	copy(out, rest)
	out[len(rest)] = 0x80
	for i := range 8 {
		out[size-1-i] = byte((8 * total) >> (8 * i))
	}
	return out
}

// absorbed is the state behind whole blocks.
func absorbed(h [8]uint32, p []byte) [8]uint32 {
	for i := range len(p) / blockSize {
		h = mixed(h, p[i*blockSize:(i+1)*blockSize])
	}
	return h
}

// mixed is the state behind one more block.
func mixed(h [8]uint32, block []byte) [8]uint32 {
	w := schedule(block)
	v := h
	for i := range blockRounds {
		t := v[7] + turned(v[4], 6, 11, 25) + choice(v[4], v[5], v[6]) + roundWords[i] + w[i]
		u := turned(v[0], 2, 13, 22) + majority(v[0], v[1], v[2])
		copy(v[1:], v[:7])
		v[4] += t
		v[0] = t + u
	}
	for i := range h {
		h[i] += v[i]
	}
	return h
}

// schedule is the word of the block that each round takes.
func schedule(block []byte) [blockRounds]uint32 {
	var w [blockRounds]uint32
	for i := range 16 {
		b := block[4*i : 4*i+4]
		w[i] = uint32(b[0])<<24 | uint32(b[1])<<16 | uint32(b[2])<<8 | uint32(b[3])
	}
	for i := 16; i < blockRounds; i++ {
		near, far := w[i-2], w[i-15]
		s := bits.RotateLeft32(near, -17) ^ bits.RotateLeft32(near, -19) ^ near>>10
		t := bits.RotateLeft32(far, -7) ^ bits.RotateLeft32(far, -18) ^ far>>3
		w[i] = s + w[i-7] + t + w[i-16]
	}
	return w
}

// turned is x turned to the right by three counts, all together.
func turned(x uint32, a, b, c int) uint32 {
	return bits.RotateLeft32(x, -a) ^ bits.RotateLeft32(x, -b) ^ bits.RotateLeft32(x, -c)
}

// choice has the bits of y where x has one, else those of z.
func choice(x, y, z uint32) uint32 { return x&y ^ ^x&z }

// majority has the bits that two of the three have.
func majority(x, y, z uint32) uint32 { return x&y ^ x&z ^ y&z }
