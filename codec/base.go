package codec

import (
	"strings"

	"muniment/api"
)

// alphabet has the character of each number of six bits.
const alphabet = "ABCDEFGHIJKLMNOPQRSTUVWXYZabcdefghijklmnopqrstuvwxyz0123456789-_"

// Base: bytes in base 64. ReadBase: back.
func Base(p []byte) string {
	out := make([]byte, 0, len(p)/3*4+3)
	bits, left := uint32(0), 0
	for _, b := range p {
		bits = bits<<8 | uint32(b)
		left += 8
		for left >= 6 {
			left -= 6
			out = append(out, alphabet[bits>>left&63])
		}
	}
	if left > 0 {
		out = append(out, alphabet[bits<<(6-left)&63])
	}
	return string(out)
}

// ReadBase: the bytes that Base made the text of.
func ReadBase(s string) ([]byte, api.Errno) {
	out := make([]byte, 0, len(s)/4*3+2)
	bits, left := uint32(0), 0
	for i := range len(s) {
		six := strings.IndexByte(alphabet, s[i])
		if six < 0 {
			return nil, api.ErrForm
		}
		bits = bits<<6 | uint32(six)
		left += 6
		if left >= 8 {
			left -= 8
			out = append(out, byte(bits>>left))
		}
	}
	// Six bits left are a character that no byte asked for; fewer are noughts that Base put behind.
	if left == 6 || bits&(1<<left-1) != 0 {
		return nil, api.ErrForm
	}
	return out, api.OK
}
