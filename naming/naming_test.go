package naming_test

import (
	"math/rand"
	"strings"
	"testing"
	"unicode/utf8"

	"muniment/api"
	"muniment/naming"
)

// odd are texts that have bytes in no character, or characters that are easily taken for others.
var odd = []string{
	"", "\x00", "\x7f", "\x80", "\xff", "a\xc3", "\xc3\xa9", "\xe2\x82", "\xed\xa0\x80", "\xc0\x80", "\xf4\x90\x80\x80",
	"\xef\xbf\xbd", "\xef\xbf\xbe", "\u212a", "\u0130", "\u017f", "\u00c9", "e\u0301", "\U0010ffff", "\ufeff", "@[`{/:", ".", "-", "_",
}

// isOfName says it by the document's words, character by character.
func isOfName(r rune) bool {
	return strings.ContainsRune("abcdefghijklmnopqrstuvwxyzABCDEFGHIJKLMNOPQRSTUVWXYZ0123456789.-_", r) || r >= 0x80 && r != 0xfffd
}

// P3.1: names as they are kept; the examples, and those of each length.
func TestFoldKnown(t *testing.T) {
	for _, c := range []struct{ s, want string }{
		{"Amy.B", "amy.b"},
		{"a", "a"},
		{"Z", "z"},
		{"0", "0"},
		{"_", "_"},
		{"_.-", "_.-"},
		{"a.", "a."},
		{"a-", "a-"},
		{"9..--__", "9..--__"},
		{"AZaz09", "azaz09"},
		{"\u0080", "\u0080"},
		{"\u00c9milE", "\u00c9mile"},
		{"\u212aK", "\u212ak"},
		{"\ufffc\ufffe", "\ufffc\ufffe"},
		{"\U0010ffff", "\U0010ffff"},
		{"abcdefghijklmnop", "abcdefghijklmnop"},
		{strings.Repeat("A", 16), strings.Repeat("a", 16)},
		{strings.Repeat("\u00e9", 16), strings.Repeat("\u00e9", 16)},
		{strings.Repeat("\U0001f600", 8), strings.Repeat("\U0001f600", 8)},
		{strings.Repeat("\u20ac", 10) + "AB", strings.Repeat("\u20ac", 10) + "ab"},
	} {
		if got, at, e := naming.Fold(c.s); got != c.want || at != 0 || e != api.OK {
			t.Errorf("Fold(%q) = %q, %d, %d, want %q", c.s, got, at, e, c.want)
		}
	}
}

// P3.1: every letter and character alone, at the beginning and within.
func TestFoldEachCharacter(t *testing.T) {
	for r := rune(0); r < 0x3000; r++ {
		want := string(r)
		if r >= 'A' && r <= 'Z' {
			want = string(r + 32)
		}
		got, at, e := naming.Fold(string(r))
		switch {
		case isOfName(r) && r != '.' && r != '-':
			if got != want || at != 0 || e != api.OK {
				t.Errorf("Fold(%q) = %q, %d, %d", string(r), got, at, e)
			}
		case got != "" || at != 0 || e != api.ErrText:
			t.Errorf("Fold(%q) = %q, %d, %d, want error %d", string(r), got, at, e, api.ErrText)
		}
		got, at, e = naming.Fold("xy" + string(r))
		if isOfName(r) {
			if got != "xy"+want || at != 0 || e != api.OK {
				t.Errorf("Fold(xy%q) = %q, %d, %d", string(r), got, at, e)
			}
		} else if got != "" || at != 2 || e != api.ErrText {
			t.Errorf("Fold(xy%q) = %q, %d, %d, want error %d at 2", string(r), got, at, e, api.ErrText)
		}
	}
}

// P3.1: the first fault from the left, and its place.
func TestFoldRefused(t *testing.T) {
	sixteen, wide := strings.Repeat("a", 16), strings.Repeat("\u20ac", 10)
	for _, c := range []struct {
		s    string
		at   int
		want api.Errno
	}{
		{"", 0, api.ErrText},
		{"-x", 0, api.ErrText},
		{".x", 0, api.ErrText},
		{".", 0, api.ErrText},
		{"a b", 1, api.ErrText},
		{" ", 0, api.ErrText},
		{"ab\x00", 2, api.ErrText},
		{"a\u00e9 b", 3, api.ErrText},
		{"\xff", 0, api.ErrText},
		{"ab\xc3", 2, api.ErrText},
		{"ab\x80c", 2, api.ErrText},
		{"a\ufffdb", 1, api.ErrText},
		{"\u20ac\ufffd", 3, api.ErrText},
		{"a\xed\xa0\x80", 1, api.ErrText},
		{"a b c", 1, api.ErrText},
		{"- ", 0, api.ErrText},
		// One character more than MaxName, whatever comes behind it.
		{sixteen + "a", 16, api.ErrLong},
		{sixteen + ".", 16, api.ErrLong},
		{sixteen + "\u00e9", 16, api.ErrLong},
		{sixteen + "a b", 16, api.ErrLong},
		{sixteen + "a\xff", 16, api.ErrLong},
		{strings.Repeat("a", 1000), 16, api.ErrLong},
		{strings.Repeat("\u00e9", 17), 32, api.ErrLong},
		{strings.Repeat("\u20ac", 17), 48, api.ErrLong},
		// The one too many is none of a name.
		{sixteen + " ", 16, api.ErrText},
		{sixteen + "\xff", 16, api.ErrText},
		{sixteen + "\ufffd", 16, api.ErrText},
		{strings.Repeat("\u20ac", 16) + " ", 48, api.ErrText},
		// A fault ahead of the one too many.
		{"-" + sixteen, 0, api.ErrText},
		{"aaa aaaaaaaaaaaaaaaa", 3, api.ErrText},
		{"aaaaaaaaaaaaaaa aa", 15, api.ErrText},
		// Too many bytes, and no fault else.
		{wide + "abc", 0, api.ErrLong},
		{wide + "\u20ac", 0, api.ErrLong},
		{strings.Repeat("\U0001f600", 8) + "a", 0, api.ErrLong},
		{strings.Repeat("\u00e9", 15) + "\u20ac", 0, api.ErrLong},
		{strings.Repeat("\U0001f600", 16), 0, api.ErrLong},
		// Too many bytes, and a fault behind.
		{wide + "abc ", 33, api.ErrText},
		{strings.Repeat("\U0001f600", 15) + "\xff", 60, api.ErrText},
	} {
		if got, at, e := naming.Fold(c.s); got != "" || at != c.at || e != c.want {
			t.Errorf("Fold(%q) = %q, %d, %d, want error %d at %d", c.s, got, at, e, c.want, c.at)
		}
	}
}

// P3.1: a name that was folded is its own fold.
func TestFoldTwice(t *testing.T) {
	folded := 0
	for _, s := range drawn(20000, 1) {
		name, _, e := naming.Fold(s)
		if e != api.OK {
			continue
		}
		folded++
		if again, at, e := naming.Fold(name); again != name || at != 0 || e != api.OK {
			t.Fatalf("Fold(%q) = %q, %d, %d", name, again, at, e)
		}
		if len(name) != len(s) || !strings.EqualFold(name, s) || strings.ContainsAny(name, "ABCDEFGHIJKLMNOPQRSTUVWXYZ") {
			t.Fatalf("Fold(%q) = %q", s, name)
		}
	}
	if folded < 1000 {
		t.Errorf("only %d were names", folded)
	}
}

// drawn are texts made of a few pieces each, the same in every run.
func drawn(n int, seed int64) []string {
	pieces := append([]string{"a", "b", "z", "A", "B", "Z", "0", "9", "amy", "AMY", "\u00e9", "\u20ac", "\U0001f600", " ", "!"}, odd...)
	draw := rand.New(rand.NewSource(seed))
	out := make([]string, n)
	for i := range out {
		for range draw.Intn(24) {
			k := 15 // most of them without what is odd
			if draw.Intn(8) == 0 {
				k = len(pieces)
			}
			out[i] += pieces[draw.Intn(k)]
		}
	}
	return out
}

// P3.2: the bits that the document names, at the ends of each kind.
func TestClassesKnown(t *testing.T) {
	for _, c := range []struct {
		s           string
		kinds, many int
	}{
		{"", 0, 0},
		{"a", 1, 1}, {"z", 1, 1}, {"A", 2, 1}, {"Z", 2, 1}, {"0", 4, 1}, {"9", 4, 1},
		{"\x00", 8, 1}, {" ", 8, 1}, {"/", 8, 1}, {":", 8, 1}, {"@", 8, 1}, {"[", 8, 1}, {"`", 8, 1}, {"{", 8, 1}, {"\x7f", 8, 1},
		{"\u0080", 16, 1}, {"\u00e9", 16, 1}, {"\u00c9", 16, 1}, {"\u212a", 16, 1}, {"\u0663", 16, 1}, {"\ufffd", 16, 1}, {"\U0010ffff", 16, 1},
		{"aB", 3, 2}, {"a1", 5, 2}, {"A1!", 14, 3}, {"aA1!\u00e9", 31, 5}, {"\u00e9\u20ac\U0001f600", 16, 3},
		{"aaaaaaaaaa", 1, 10}, {"e\u0301", 17, 2},
		{strings.Repeat("\u20acx", 500), 17, 1000},
	} {
		if kinds, many, ok := naming.Classes(c.s); kinds != c.kinds || many != c.many || !ok {
			t.Errorf("Classes(%q) = %d, %d, %v, want %d, %d", c.s, kinds, many, ok, c.kinds, c.many)
		}
	}
}

// P3.2: what isn't UTF-8, wherever it stands.
func TestClassesRefused(t *testing.T) {
	for _, bad := range []string{"\x80", "\xbf", "\xff", "\xc3", "\xe2\x82", "\xf0\x9f\x98", "\xed\xa0\x80", "\xc0\x80", "\xc1\xbf", "\xe0\x80\x80", "\xf4\x90\x80\x80", "\xf8\x88\x80\x80\x80"} {
		for _, s := range []string{bad, "a" + bad, bad + "a", "aB1" + bad + "!\u00e9"} {
			if kinds, many, ok := naming.Classes(s); kinds != 0 || many != 0 || ok {
				t.Errorf("Classes(%q) = %d, %d, %v, want none", s, kinds, many, ok)
			}
		}
	}
}

// P3.2: the bits of a text are those of its characters, all together.
func TestClassesTogether(t *testing.T) {
	for _, s := range drawn(5000, 2) {
		kinds, many, ok := naming.Classes(s)
		if ok != utf8.ValidString(s) {
			t.Fatalf("Classes(%q) = %v", s, ok)
		}
		if !ok {
			continue
		}
		want := 0
		for _, r := range s {
			one, n, _ := naming.Classes(string(r))
			if n != 1 {
				t.Fatalf("Classes(%q) counts %d", string(r), n)
			}
			want |= one
		}
		if kinds != want || many != utf8.RuneCountInString(s) {
			t.Fatalf("Classes(%q) = %d, %d, want %d, %d", s, kinds, many, want, utf8.RuneCountInString(s))
		}
	}
}

// P3.3: passwords of each length, of each kind, with names of each length in them.
func TestStrong(t *testing.T) {
	for _, c := range []struct {
		pass, name string
		want       api.Errno
	}{
		{"password", "x", api.ErrWeak},
		{"passWORD", "x", api.OK},
		{"my-AMY-pass", "amy", api.ErrWeak},
		// How long.
		{"", "", api.ErrWeak},
		{"aB", "x", api.ErrWeak},
		{"passWOR", "x", api.ErrWeak},
		{strings.Repeat("aB", 16), "x", api.OK},
		{strings.Repeat("aB", 16) + "c", "x", api.ErrLong},
		{strings.Repeat("a", 33), "x", api.ErrLong},
		{strings.Repeat("\u00e9A", 4), "x", api.OK},
		{"a" + strings.Repeat("\u00e9", 6), "x", api.ErrWeak},
		{strings.Repeat("\U0001f600a", 16), "x", api.OK},
		{strings.Repeat("\U0001f600a", 16) + "a", "x", api.ErrLong},
		{strings.Repeat("amy", 20), "amy", api.ErrLong},
		// What it is made of.
		{"PASSWORD", "x", api.ErrWeak},
		{"12345678", "x", api.ErrWeak},
		{"!@#$%^&*", "x", api.ErrWeak},
		{"\u00e9\u00e9\u00e9\u00e9\u20ac\u20ac\u20ac\u20ac", "x", api.ErrWeak},
		{"passwor1", "x", api.OK},
		{"pass word", "x", api.OK},
		{"passwor\u00e9", "x", api.OK},
		{"1234567!", "x", api.OK},
		// What isn't UTF-8, however long it is.
		{"passWORD\xff", "x", api.ErrText},
		{"\xff", "x", api.ErrText},
		{strings.Repeat("aB", 30) + "\xc3", "x", api.ErrText},
		{"passWORD\xed\xa0\x80", "x", api.ErrText},
		{"passWORD\ufffd", "x", api.OK},
		// The name in it.
		{"my-am-pass", "am", api.OK},
		{"my-AMY-pass", "AMY", api.ErrWeak},
		{"my-aMy-pass", "AmY", api.ErrWeak},
		{"amypass-1", "amy", api.ErrWeak},
		{"pass-1amy", "amy", api.ErrWeak},
		{"pass-a-m-y", "amy", api.OK},
		{"pass-am-1", "amy", api.OK},
		{"passWORD", "password", api.ErrWeak},
		{"passWORD", "passwordx", api.OK},
		{"passWORD", strings.Repeat("passWORD", 100), api.OK},
		{"passWORD", "", api.OK},
		{"pass\u00e9\u00e9WORD", "\u00e9\u00e9", api.OK},
		{"pass\u00e9\u00e9\u00e9WORD", "\u00e9\u00e9\u00e9", api.ErrWeak},
		{"pass\u00e9aBword", "\u00e9Ab", api.ErrWeak},
		// Letters beyond a to z are the same in one size alone.
		{"pass\u00c9ab-1", "\u00e9ab", api.OK},
		{"pass\u212aab-1", "kab", api.OK},
		{"pass-kab-1", "\u212aab", api.OK},
		{"pass@ab-1", "`ab", api.OK},
		{"pass[ab-1", "{ab", api.OK},
	} {
		if e := naming.Strong(c.pass, c.name); e != c.want {
			t.Errorf("Strong(%q, %q) = %d, want %d", c.pass, c.name, e, c.want)
		}
	}
}

// strong says it by the document's words.
func strong(pass, name string) api.Errno {
	kinds, many, ok := naming.Classes(pass)
	switch {
	case !ok:
		return api.ErrText
	case many > 32:
		return api.ErrLong
	case many < 8, kinds == 1, kinds == 2, kinds == 4, kinds == 8, kinds == 16:
		return api.ErrWeak
	}
	alike := func(r rune) rune {
		if at := strings.IndexRune("ABCDEFGHIJKLMNOPQRSTUVWXYZ", r); at >= 0 {
			return 'a' + rune(at)
		}
		return r
	}
	if len([]rune(name)) > 2 && strings.Contains(strings.Map(alike, pass), strings.Map(alike, name)) {
		return api.ErrWeak
	}
	return api.OK
}

// P3.3: passwords and names that are drawn, and names that are pieces of them.
func TestStrongDrawn(t *testing.T) {
	draw := rand.New(rand.NewSource(3))
	names := drawn(3000, 4)
	seen := map[api.Errno]int{}
	for i, pass := range drawn(3000, 5) {
		from := draw.Intn(len(pass) + 1)
		to := from + draw.Intn(len(pass)-from+1)
		for _, name := range []string{names[i], strings.ToUpper(pass[from:to]), pass[from:to]} {
			if !utf8.ValidString(name) {
				continue
			}
			got, want := naming.Strong(pass, name), strong(pass, name)
			if got != want {
				t.Fatalf("Strong(%q, %q) = %d, want %d", pass, name, got, want)
			}
			seen[got]++
		}
	}
	for _, e := range []api.Errno{api.OK, api.ErrText, api.ErrLong, api.ErrWeak} {
		if seen[e] == 0 {
			t.Errorf("none was answered %d", e)
		}
	}
}

// P1 and P2: whatever is handed in, each call ends, and answers the same again.
func TestAnything(t *testing.T) {
	all := append(drawn(300, 6), odd...)
	all = append(all, strings.Repeat("\xff", 100000), strings.Repeat("a", 100000), strings.Repeat("\u00e9", 100000))
	for _, s := range all {
		name, at, e := naming.Fold(s)
		if again, place, err := naming.Fold(s); again != name || place != at || err != e {
			t.Errorf("Fold(%.40q) is answered in more than one way", s)
		}
		if e != api.OK && name != "" || e == api.OK && at != 0 {
			t.Errorf("Fold(%.40q) = %q, %d, %d", s, name, at, e)
		}
		kinds, many, ok := naming.Classes(s)
		if k, m, o := naming.Classes(s); k != kinds || m != many || o != ok {
			t.Errorf("Classes(%.40q) is answered in more than one way", s)
		}
		for _, name := range odd {
			if naming.Strong(s, name) != naming.Strong(s, name) || naming.Strong(name, s) != naming.Strong(name, s) {
				t.Errorf("Strong of %.40q and %q is answered in more than one way", s, name)
			}
		}
	}
}
