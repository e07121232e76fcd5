package pass_test

import (
	"crypto/pbkdf2"
	"crypto/sha256"
	"encoding/base64"
	"encoding/binary"
	"math"
	"strings"
	"testing"

	"muniment/api"
	"muniment/pass"
	"muniment/probe"
)

var answers, sure = probe.Answers, probe.Sure

// words are passwords of all kinds, salts are salts.
func words() []string {
	return []string{
		"", "a", "Secret-pw1", "Secret-pw2", "secret-pw1", " ", "a\x00", "\x00", "\xff\xfe", "äöü€\U0001f600",
		strings.Repeat("p", api.MaxPass), strings.Repeat("p", 64), strings.Repeat("p", 65), strings.Repeat("p", 5000),
	}
}

func salts() []uint64 {
	return []uint64{0, 1, 255, 256, 1 << 32, math.MaxInt64, 1 << 63, math.MaxUint64 - 1, math.MaxUint64}
}

// counts are rounds that a secret may have, wrong are those that it mayn't.
func counts() []int { return []int{1, 2, 3, 31, api.MaxRounds - 1, api.MaxRounds} }

func wrong() []int {
	return []int{0, -1, api.MaxRounds + 1, 255, 256, 257, 256 + api.MaxRounds, math.MinInt, math.MaxInt}
}

// stretched is the digest of a password by the document's words.
func stretched(t *testing.T, word string, salt uint64, rounds int) (out [32]byte) {
	t.Helper()
	p, err := pbkdf2.Key(sha256.New, word, binary.BigEndian.AppendUint64(nil, salt), rounds, 32)
	if err != nil {
		t.Fatal(err)
	}
	copy(out[:], p)
	return out
}

// made is a secret that can be made.
func made(t *testing.T, word string, salt uint64, rounds int) pass.Secret {
	t.Helper()
	s, e := pass.Make(word, salt, rounds)
	sure(t, "Make", e)
	return s
}

// P18.1: the salt, the rounds and the digest, of passwords, salts and rounds of all kinds.
func TestMake(t *testing.T) {
	for _, word := range words() {
		for _, salt := range salts() {
			for _, rounds := range counts() {
				want := pass.Secret{Salt: salt, Rounds: rounds, Digest: stretched(t, word, salt, rounds)}
				if s, e := pass.Make(word, salt, rounds); s != want || e != api.OK {
					t.Errorf("Make(%q, %d, %d) = %+v, error %d, want %+v", word, salt, rounds, s, e, want)
				}
			}
		}
	}
}

// P18.1: rounds of which there is no secret.
func TestMakeRefused(t *testing.T) {
	for _, rounds := range wrong() {
		for _, word := range words() {
			if s, e := pass.Make(word, 7, rounds); s != (pass.Secret{}) || e != api.ErrArg {
				t.Errorf("Make(%q, 7, %d) = %+v, error %d", word, rounds, s, e)
			}
		}
	}
}

func checks(t *testing.T, what string, s pass.Secret, word string, rounds int, is, weak bool) {
	t.Helper()
	if a, b := pass.Check(s, word, rounds); a != is || b != weak {
		t.Errorf("Check of %s, with %d rounds, where %d are asked for = %v, %v, want %v, %v", what, s.Rounds, rounds, a, b, is, weak)
	}
}

// asked are the rounds that may be asked for of a secret of some.
func asked(rounds int) []int {
	return append(wrong(), rounds-1, rounds, rounds+1, 1, api.MaxRounds)
}

// P18.1: the right password, where fewer rounds are asked for, as many, and more.
func TestCheckRight(t *testing.T) {
	for _, word := range words() {
		for _, salt := range salts()[:3] {
			for _, rounds := range counts() {
				s := made(t, word, salt, rounds)
				for _, n := range asked(rounds) {
					checks(t, "the right one", s, word, n, true, rounds < n)
				}
			}
		}
	}
}

// P18.1: another password: a character more, less, turned, or in another case; never weak.
func TestCheckWrong(t *testing.T) {
	for _, word := range words() {
		s := made(t, word, 9, 3)
		others := []string{word + "a", word + " ", "a" + word, strings.ToUpper(word) + "!"}
		if len(word) > 0 {
			others = append(others, word[1:], word[:len(word)-1], "")
			for i := range min(len(word), 40) {
				for _, by := range []byte{1, 0x20, 0x80} {
					p := []byte(word)
					p[i] ^= by
					others = append(others, string(p))
				}
			}
		}
		for _, other := range others {
			if strings.TrimRight(other, "\x00") == strings.TrimRight(word, "\x00") {
				continue
			}
			for _, n := range []int{1, 3, 4} {
				checks(t, "another one", s, other, n, false, false)
			}
		}
	}
}

// P18.1: a tag's key has noughts behind it to 64 bytes, and so two passwords that part in those alone have one digest.
func TestCheckNoughts(t *testing.T) {
	checks(t, "one with noughts behind it", made(t, "Secret-pw1", 9, 3), "Secret-pw1\x00", 4, true, true)
}

// P18.1: a secret that nobody made: its salt, its rounds or its digest is another one.
func TestCheckTurned(t *testing.T) {
	for _, word := range words() {
		s := made(t, word, 9, 3)
		for bit := range 256 {
			other := s
			other.Digest[bit/8] ^= 1 << (bit % 8)
			checks(t, "a digest with a bit turned", other, word, 4, false, false)
		}
		for bit := range 64 {
			other := s
			other.Salt ^= 1 << bit
			checks(t, "a salt with a bit turned", other, word, 4, false, false)
		}
		for _, rounds := range append(wrong(), 1, 2, 4, api.MaxRounds) {
			other := s
			other.Rounds = rounds
			for _, n := range asked(rounds) {
				checks(t, "other rounds", other, word, n, false, false)
			}
		}
	}
	for _, rounds := range wrong() {
		checks(t, "noughts", pass.Secret{Rounds: rounds}, "", 1, false, false)
	}
}

// bytesOf are the bytes of a secret, by the document's words.
func bytesOf(s pass.Secret) []byte {
	p := append(binary.BigEndian.AppendUint64(nil, s.Salt), byte(s.Rounds))
	return append(p, s.Digest[:]...)
}

// secrets are some with each salt and each count of rounds.
func secrets() []pass.Secret {
	var out []pass.Secret
	for i, salt := range salts() {
		for rounds := 1; rounds <= api.MaxRounds; rounds++ {
			s := pass.Secret{Salt: salt, Rounds: rounds}
			for k := range s.Digest {
				s.Digest[k] = byte(i * k * 83)
			}
			out = append(out, s)
		}
	}
	return out
}

// P18.2: the text of each secret, and the secret of that text.
func TestText(t *testing.T) {
	for _, s := range secrets() {
		want := base64.RawURLEncoding.EncodeToString(bytesOf(s))
		text, e := pass.Write(s)
		if text != want || e != api.OK {
			t.Errorf("Write(%+v) = %s, error %d, want %s", s, text, e, want)
		}
		if back, e := pass.Read(text); back != s || e != api.OK {
			t.Errorf("Read(%s) = %+v, error %d, want %+v", text, back, e, s)
		}
	}
}

// P18.2: what was written and read back lets in whom it let in.
func TestTextLetsIn(t *testing.T) {
	for _, word := range words() {
		s := made(t, word, 77, 5)
		text, e := pass.Write(s)
		sure(t, "Write", e)
		back, e := pass.Read(text)
		sure(t, "Read", e)
		checks(t, "what was read", back, word, 6, true, true)
		checks(t, "what was read", back, word+"x", 6, false, false)
	}
}

// P18.2: rounds that no secret has.
func TestWriteRefused(t *testing.T) {
	for _, rounds := range wrong() {
		s := made(t, "a", 1, 1)
		s.Rounds = rounds
		if text, e := pass.Write(s); text != "" || e != api.ErrForm {
			t.Errorf("Write of %d rounds = %q, error %d", rounds, text, e)
		}
	}
	text, e := pass.Write(pass.Secret{})
	if text != "" {
		t.Errorf("Write of none = %q", text)
	}
	answers(t, "Write of none", e, api.ErrForm)
}

// none sees that a text is no secret's.
func none(t *testing.T, text string) {
	t.Helper()
	if s, e := pass.Read(text); s != (pass.Secret{}) || e != api.ErrForm {
		t.Errorf("Read(%q) = %+v, error %d, want ErrForm", text, s, e)
	}
}

// P18.2: texts that are no base 64, that have another length, and rounds that are none.
func TestReadRefused(t *testing.T) {
	s := made(t, "Secret-pw1", math.MaxUint64, api.MaxRounds)
	text, e := pass.Write(s)
	sure(t, "Write", e)
	for n := range len(text) {
		none(t, text[:n])
		none(t, text[n+1:])
		for _, sign := range []string{"=", "+", "/", " ", "\n", "\x00", "ä", "\xff", "."} {
			none(t, text[:n]+sign+text[n+1:])
			none(t, text[:n]+sign+text[n:])
		}
	}
	for _, more := range []string{"A", "=", "==", "\n", " ", "AAAA"} {
		none(t, text+more)
		none(t, more+text)
	}
	whole := bytesOf(s)
	for n := range 100 {
		p := append(whole, make([]byte, 60)...)[:n]
		if n != len(whole) {
			none(t, base64.RawURLEncoding.EncodeToString(p))
		}
	}
	for rounds := range 256 {
		if rounds < 1 || rounds > api.MaxRounds {
			p := bytesOf(s)
			p[8] = byte(rounds)
			none(t, base64.RawURLEncoding.EncodeToString(p))
		}
	}
	none(t, base64.StdEncoding.EncodeToString(whole))
	none(t, strings.Repeat("A", 55))
}

// P18.2: a text with one sign turned is another secret's, or none: Write makes it of what Read tells.
func TestReadTurned(t *testing.T) {
	const signs = "ABCDEFGHIJKLMNOPQRSTUVWXYZabcdefghijklmnopqrstuvwxyz0123456789-_"
	s := made(t, "Secret-pw1", 12345, 2)
	text, e := pass.Write(s)
	sure(t, "Write", e)
	taken := 0
	for i := range len(text) {
		for _, sign := range signs {
			other := text[:i] + string(sign) + text[i+1:]
			got, e := pass.Read(other)
			if e != api.OK {
				none(t, other)
				continue
			}
			taken++
			if back, e := pass.Write(got); back != other || e != api.OK || (got == s) != (other == text) {
				t.Fatalf("Read(%s) = %+v, of which Write makes %s, error %d", other, got, back, e)
			}
		}
	}
	if taken < 3000 {
		t.Errorf("only %d were taken", taken)
	}
}
