package line

import (
	"strings"
	"unicode/utf8"
)

// The bytes that part words, that stand around one, and that stand ahead of those two which mean something in it.
const (
	blank = ' '
	quote = '"'
	slash = '\\'
)

// The characters that never stand: those below first, and this one.
const (
	first  = 0x20
	erased = 0x7f
)

// pastBlanks is the first place from at on that has no blank.
func pastBlanks(s string, at int) int {
	for at < len(s) && s[at] == blank {
		at++
	}
	return at
}

// wordAt is the word at a place, and the place behind it; false, and the place at fault: there is none.
func wordAt(s string, at int) (string, int, bool) {
	if s[at] == quote {
		return quotedAt(s, at+1)
	}
	return bareAt(s, at)
}

// bareAt is wordAt of a word without quotes.
func bareAt(s string, at int) (string, int, bool) {
	end := at
	for end < len(s) && s[end] != blank {
		size := characterAt(s, end)
		if size == 0 || isMarked(s[end]) {
			return "", end, false
		}
		end += size
	}
	return strings.Clone(s[at:end]), end, true
}

// quotedAt is wordAt of a word in quotes, from behind the first of them on.
func quotedAt(s string, at int) (string, int, bool) {
	var out []byte
	for at < len(s) && s[at] != quote {
		if s[at] == slash {
			at++
			if at == len(s) || !isMarked(s[at]) {
				return "", at, false
			}
		}
		size := characterAt(s, at)
		if size == 0 {
			return "", at, false
		}
		out = append(out, s[at:at+size]...)
		at += size
	}
	if at == len(s) {
		return "", at, false
	}
	at++
	if at < len(s) && s[at] != blank {
		return "", at, false
	}
	return string(out), at, true
}

// isMarked: has the byte a \ ahead of it, where it is meant?
func isMarked(b byte) bool { return b == quote || b == slash }

// characterAt is how many bytes the character at a place has; 0: none that may stand in a line is there.
func characterAt(s string, at int) int {
	r, size := utf8.DecodeRuneInString(s[at:])
	// What is in no character comes as RuneError too, but of one byte; fffd itself may stand.
	if r == utf8.RuneError && size < 2 || r < first || r == erased {
		return 0
	}
	return size
}

// canStand: is there a way to write the word in a line?
func canStand(word string) bool {
	for at := 0; at < len(word); {
		size := characterAt(word, at)
		if size == 0 {
			return false
		}
		at += size
	}
	return true
}

// written is a word as it stands in a line.
func written(word string) string {
	if word != "" && !strings.ContainsAny(word, ` "\`) {
		return word
	}
	out := []byte{quote}
	for i := range len(word) {
		if isMarked(word[i]) {
			out = append(out, slash)
		}
		out = append(out, word[i])
	}
	return string(append(out, quote))
}
