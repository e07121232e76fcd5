// Package octet is layer 2, numbers and texts as bytes that stand as they do: see shared/doc/02-octet.md.
package octet

import (
	"muniment/api"
)

// numberSize is how many bytes a number has.
const numberSize = 8

// half is what a signed number is moved by, so that those below 0 stand ahead.
const half = 1 << 63

// What stands behind a 00: it was a byte of the text, or the text ends.
const (
	escaped = 0xff
	ended   = 0x01
)

// halfBytes has the remainder of each number of four bits.
var halfBytes = [16]uint32{
	0x00000000, 0x1db71064, 0x3b6e20c8, 0x26d930ac,
	0x76dc4190, 0x6b6b51f4, 0x4db26158, 0x5005713c,
	0xedb88320, 0xf00f9344, 0xd6d6a3e8, 0xcb61b38c,
	0x9b64c2b0, 0x86d3d2d4, 0xa00ae278, 0xbdbdf21c,
}

// Int: a number as eight bytes that stand as the numbers do.
func Int(n int64) []byte { return Uint(uint64(n) + half) }

// ReadInt: the number that Int made the bytes of, at a place, and the place behind it.
func ReadInt(p []byte, at int) (int64, int, api.Errno) {
	u, next, e := ReadUint(p, at)
	if e != api.OK {
		return 0, 0, e
	}
	return int64(u - half), next, api.OK
}

// Uint: a number as eight bytes, the highest first.
func Uint(u uint64) []byte {
	out := make([]byte, numberSize)
	for i := range out {
		out[i] = byte(u >> (56 - 8*i))
	}
	return out
}

// ReadUint: the number that Uint made the bytes of, at a place, and the place behind it.
func ReadUint(p []byte, at int) (uint64, int, api.Errno) {
	if at < 0 || at > len(p) {
		return 0, 0, api.ErrArg
	}
	// Not at+8 > len(p): what is left can't wrap round.
	if len(p)-at < numberSize {
		return 0, 0, api.ErrForm
	}
	var u uint64
	for i := range numberSize {
		u = u<<8 | uint64(p[at+i])
	}
	return u, at + numberSize, api.OK
}

// Text: a text as bytes that stand as the texts do, whatever comes behind them.
func Text(s string) []byte {
	out := make([]byte, 0, len(s)+2)
	for i := range len(s) {
		out = append(out, s[i])
		if s[i] == 0 {
			out = append(out, escaped)
		}
	}
	return append(out, 0, ended)
}

// ReadText: the text that Text made the bytes of, at a place, and the place behind it.
func ReadText(p []byte, at int) (string, int, api.Errno) {
	if at < 0 || at > len(p) {
		return "", 0, api.ErrArg
	}
	var out []byte
	for i := at; i < len(p); i++ {
		if p[i] != 0 {
			out = append(out, p[i])
			continue
		}
		i++
		if i == len(p) {
			break
		}
		switch p[i] {
		case escaped:
			out = append(out, 0)
		case ended:
			return string(out), i + 1, api.OK
		default:
			return "", 0, api.ErrForm
		}
	}
	return "", 0, api.ErrForm
}

// Above: the least bytes that stand above all that begin with these; none, if these are empty or all ff.
func Above(p []byte) ([]byte, bool) {
	n := len(p)
	for n > 0 && p[n-1] == 0xff {
		n--
	}
	if n == 0 {
		return nil, false
	}
	out := make([]byte, n)
	copy(out, p)
	out[n-1]++
	return out, true
}

// Sum: CRC-32.
func Sum(p []byte) uint32 {
	c := ^uint32(0)
	for _, b := range p {
		c ^= uint32(b)
		c = c>>4 ^ halfBytes[c&15]
		c = c>>4 ^ halfBytes[c&15]
	}
	return ^c
}
