package digest_test

import (
	"bytes"
	"crypto/hmac"
	"crypto/pbkdf2"
	"crypto/sha256"
	"encoding/hex"
	"math"
	"math/rand"
	"strconv"
	"strings"
	"testing"

	"muniment/api"
	"muniment/digest"
	"muniment/probe"
)

// edges are the lengths around which padding and keys change, and some between.
var edges = []int{0, 1, 3, 31, 32, 33, 54, 55, 56, 57, 63, 64, 65, 100, 118, 119, 120, 121, 127, 128, 129, 191, 192, 193, 1000}

// drawn answers n bytes that are the same in every run.
func drawn(n int, seed int64) []byte {
	p := make([]byte, n)
	rand.New(rand.NewSource(seed)).Read(p)
	return p
}

// P1.1: the digests that FIPS 180-4's examples name.
func TestSumKnown(t *testing.T) {
	for _, c := range []struct{ in, want string }{
		{"", "e3b0c44298fc1c149afbf4c8996fb92427ae41e4649b934ca495991b7852b855"},
		{"abc", "ba7816bf8f01cfea414140de5dae2223b00361a396177a9cb410ff61f20015ad"},
		{"abcdbcdecdefdefgefghfghighijhijkijkljklmklmnlmnomnopnopq", "248d6a61d20638b8e5c026930c3e6039a33ce45964ff2167f6ecedd419db06c1"},
		{strings.Repeat("a", 1000000), "cdc76e5c9914fb9281a1c7e284d73e67f1809a48a497200e046d39ccc7112cd0"},
	} {
		got := digest.Sum([]byte(c.in))
		if h := digest.Hex(got[:]); h != c.want {
			t.Errorf("Sum of %d bytes = %s, want %s", len(c.in), h, c.want)
		}
	}
	if digest.Sum(nil) != digest.Sum([]byte{}) {
		t.Error("Sum of nil isn't Sum of no bytes")
	}
}

// P1.1: every length through three blocks, each with bytes of its own.
func TestSumAllLengths(t *testing.T) {
	for n := range 200 {
		p := drawn(n, int64(n))
		if got, want := digest.Sum(p), sha256.Sum256(p); got != want {
			t.Errorf("Sum of %d bytes = %x, want %x", n, got, want)
		}
	}
}

// P1.1: the tags that RFC 4231 names; the last two have keys of more than a block.
func TestTagKnown(t *testing.T) {
	for _, c := range []struct{ key, in, want string }{
		{strings.Repeat("\x0b", 20), "Hi There", "b0344c61d8db38535ca8afceaf0bf12b881dc200c9833da726e9376c2e32cff7"},
		{"Jefe", "what do ya want for nothing?", "5bdcc146bf60754e6a042426089575c75a003f089d2739839dec58b964ec3843"},
		{strings.Repeat("\xaa", 20), strings.Repeat("\xdd", 50), "773ea91e36800e46854db8ebd09181a72959098b3ef8c122d9635514ced565fe"},
		{strings.Repeat("\xaa", 131), "Test Using Larger Than Block-Size Key - Hash Key First", "60e431591ee0b67f0d8a26aacbf5b77f8e0bc6213728c5140546040f0ee37f54"},
		{strings.Repeat("\xaa", 131), "This is a test using a larger than block-size key and a larger than block-size data. The key needs to be hashed before being used by the HMAC algorithm.", "9b09ffa71b942fcb27635fbcd5b0e944bfdc63644f0713938a7f51535c3a35e2"},
	} {
		got := digest.Tag([]byte(c.key), []byte(c.in))
		if h := digest.Hex(got[:]); h != c.want {
			t.Errorf("Tag(%x, %q) = %s, want %s", c.key, c.in, h, c.want)
		}
	}
}

// P1.1: keys of 0, 63, 64, 65 and more bytes with texts of each length.
func TestTagAllEdges(t *testing.T) {
	for _, k := range edges {
		for _, n := range edges {
			key, p := drawn(k, 7), drawn(n, 8)
			m := hmac.New(sha256.New, key)
			m.Write(p)
			if got := digest.Tag(key, p); !bytes.Equal(got[:], m.Sum(nil)) {
				t.Errorf("Tag of a key of %d and %d bytes = %x, want %x", k, n, got, m.Sum(nil))
			}
		}
	}
	if digest.Tag(nil, nil) != digest.Tag([]byte{}, []byte{}) {
		t.Error("Tag of nil isn't Tag of no bytes")
	}
}

// P1.1: a key of 64 bytes is itself, one of 65 is its Sum; noughts behind a short key are as if they were there.
func TestTagKeys(t *testing.T) {
	p := []byte("text")
	long := drawn(65, 3)
	short := digest.Sum(long)
	if digest.Tag(long, p) != digest.Tag(short[:], p) {
		t.Error("a key of 65 bytes isn't taken by its Sum")
	}
	whole := drawn(64, 4)
	short = digest.Sum(whole)
	if digest.Tag(whole, p) == digest.Tag(short[:], p) {
		t.Error("a key of 64 bytes is taken by its Sum")
	}
	if digest.Tag([]byte("k"), p) != digest.Tag([]byte("k\x00\x00"), p) {
		t.Error("noughts behind a short key matter")
	}
}

// P1.2: what PBKDF2 of one block is, for every count of rounds.
func TestStretchRounds(t *testing.T) {
	for r := 1; r <= api.MaxRounds; r++ {
		want, err := pbkdf2.Key(sha256.New, "password", []byte("salt"), r, 32)
		if err != nil {
			t.Fatal(err)
		}
		if got, e := digest.Stretch([]byte("password"), []byte("salt"), r); e != api.OK || !bytes.Equal(got[:], want) {
			t.Errorf("Stretch by %d = %x, %d, want %x", r, got, e, want)
		}
	}
}

// P1.2: passwords and salts of no bytes, and around a block.
func TestStretchEdges(t *testing.T) {
	for _, k := range edges {
		for _, n := range edges {
			pass, salt := drawn(k, 5), drawn(n, 6)
			want, err := pbkdf2.Key(sha256.New, string(pass), salt, 3, 32)
			if err != nil {
				t.Fatal(err)
			}
			if got, e := digest.Stretch(pass, salt, 3); e != api.OK || !bytes.Equal(got[:], want) {
				t.Errorf("Stretch of %d and %d bytes = %x, %d, want %x", k, n, got, e, want)
			}
		}
	}
	a, e := digest.Stretch(nil, nil, 1)
	if b, f := digest.Stretch([]byte{}, []byte{}, 1); a != b || e != api.OK || f != api.OK {
		t.Errorf("Stretch of nil = %x, %d; of no bytes = %x, %d", a, e, b, f)
	}
}

// P1.2: one round is the first Tag, two are it and the Tag over it.
func TestStretchIsTags(t *testing.T) {
	pass, salt := []byte("p"), []byte("s")
	first := digest.Tag(pass, []byte("s\x00\x00\x00\x01"))
	if got, e := digest.Stretch(pass, salt, 1); got != first || e != api.OK {
		t.Errorf("one round = %x, %d, want %x", got, e, first)
	}
	both := digest.Tag(pass, first[:])
	for i := range both {
		both[i] ^= first[i]
	}
	if got, e := digest.Stretch(pass, salt, 2); got != both || e != api.OK {
		t.Errorf("two rounds = %x, %d, want %x", got, e, both)
	}
}

// P1.2: rounds outside 1 to MaxRounds, with nothing beside the error.
func TestStretchRefused(t *testing.T) {
	for _, r := range []int{0, -1, api.MaxRounds + 1, math.MinInt, math.MaxInt} {
		if got, e := digest.Stretch([]byte("password"), []byte("salt"), r); e != api.ErrArg || got != [32]byte{} {
			t.Errorf("Stretch by %d = %x, %d, want ErrArg", r, got, e)
		}
	}
}

// P1.3: the same bytes, and bytes that part at each place, in each bit, or in their lengths.
func TestEqual(t *testing.T) {
	if !digest.Equal(nil, nil) || !digest.Equal(nil, []byte{}) || !digest.Equal([]byte{}, nil) {
		t.Error("nil and no bytes aren't Equal")
	}
	for _, n := range []int{1, 2, 32, 100} {
		p := drawn(n, int64(n))
		if !digest.Equal(p, p) || !digest.Equal(p, bytes.Clone(p)) {
			t.Errorf("%d bytes aren't Equal to themselves", n)
		}
		if digest.Equal(p, p[:n-1]) || digest.Equal(p[:n-1], p) || digest.Equal(p, append(bytes.Clone(p), 0)) {
			t.Errorf("%d bytes are Equal to one less or one more", n)
		}
		for i := range 8 * n {
			q := bytes.Clone(p)
			q[i/8] ^= 1 << (i % 8)
			if digest.Equal(p, q) {
				t.Errorf("%d bytes are Equal though bit %d is unlike", n, i)
			}
		}
	}
	if digest.Equal([]byte{1, 2, 3}, []byte{2, 1, 3}) || digest.Equal([]byte{1, 1}, []byte{2, 2}) {
		t.Error("unlike bytes that make up for each other are Equal")
	}
	if digest.Equal(nil, []byte{0}) || digest.Equal([]byte{0}, nil) {
		t.Error("a nought is Equal to none")
	}
}

// P1.3: each byte, and none.
func TestHex(t *testing.T) {
	if digest.Hex(nil) != "" || digest.Hex([]byte{}) != "" {
		t.Error("Hex of no bytes isn't empty")
	}
	if h := digest.Hex([]byte{0, 0xff}); h != "00ff" {
		t.Errorf("Hex(00 ff) = %s", h)
	}
	for i := range 256 {
		if got, want := digest.Hex([]byte{byte(i)}), hex.EncodeToString([]byte{byte(i)}); got != want {
			t.Errorf("Hex of %d = %s, want %s", i, got, want)
		}
	}
	p := drawn(300, 9)
	if got, want := digest.Hex(p), hex.EncodeToString(p); got != want {
		t.Errorf("Hex = %s, want %s", got, want)
	}
}

// P1, and the rule of memory: nothing handed in is changed, its spare room neither.
func TestArgumentsStay(t *testing.T) {
	for _, n := range edges {
		p, pWhole := probe.Roomy(drawn(n, 1))
		q, qWhole := probe.Roomy(drawn(n, 2))
		pWas, qWas := bytes.Clone(pWhole), bytes.Clone(qWhole)
		digest.Sum(p)
		digest.Tag(p, q)
		digest.Stretch(p, q, 2)
		digest.Stretch(p, q, 0)
		digest.Equal(p, q)
		digest.Hex(p)
		if !bytes.Equal(pWhole, pWas) || !bytes.Equal(qWhole, qWas) {
			t.Errorf("arguments of %d bytes were changed", n)
		}
	}
}

// P2: the answer hangs on the bytes alone: not on what was asked ahead, on spare room, or on where the bytes stand.
func TestSameAnswers(t *testing.T) {
	told := func(key, p []byte) string {
		s, g := digest.Sum(p), digest.Tag(key, p)
		d, e := digest.Stretch(key, p, 5)
		return digest.Hex(s[:]) + digest.Hex(g[:]) + digest.Hex(d[:]) + strconv.Itoa(int(e)) + strconv.FormatBool(digest.Equal(key, p))
	}
	for _, n := range edges {
		key, p := drawn(n, 10), drawn(n+1, 11)
		first := told(key, p)
		told(drawn(n+2, 12), drawn(n+3, 13))
		roomyKey, _ := probe.Roomy(key)
		roomyText, _ := probe.Roomy(p)
		if told(key, p) != first || told(roomyKey, roomyText) != first {
			t.Errorf("%d bytes are answered in more than one way", n)
		}
	}
}

// P2, and the rule of memory: a text that was answered stays, whatever becomes of the bytes.
func TestAnswersStay(t *testing.T) {
	p := []byte{0x12, 0xab}
	h := digest.Hex(p)
	p[0], p[1] = 0, 0
	if digest.Hex(p) != "0000" || h != "12ab" {
		t.Errorf("an earlier Hex became %s", h)
	}
}
