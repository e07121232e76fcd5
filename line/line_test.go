package line_test

import (
	"fmt"
	"math/rand"
	"regexp"
	"slices"
	"strings"
	"testing"
	"unicode/utf8"
	"unsafe"

	"muniment/api"
	"muniment/line"
)

// The document's words on a line, said as an expression: words that blanks part, each without quotes or in them.
var (
	aWord = `(?:[^\x00-\x20\x7f"\\]+|"(?:[^\x00-\x1f\x7f"\\]|\\["\\])*")`
	aLine = regexp.MustCompile(`^ *(?:` + aWord + `(?: +` + aWord + `)*)? *$`)
	words = regexp.MustCompile(aWord)
)

// isLine: is it one, by the document's words? How long it is aside.
func isLine(s string) bool { return utf8.ValidString(s) && aLine.MatchString(s) }

// goesOn: is it a line, or the beginning of one?
func goesOn(s string) bool { return isLine(s) || isLine(s+`"`) || isLine(s+`""`) }

// wordsOf says by the expression what Words is to answer.
func wordsOf(s string) ([]string, int, api.Errno) {
	if len(s) > api.MaxLine {
		return nil, 0, api.ErrLong
	}
	if !isLine(s) {
		return nil, faultOf(s), api.ErrText
	}
	var out []string
	for _, w := range words.FindAllString(s, -1) {
		if w[0] == '"' {
			w = strings.NewReplacer(`\\`, `\`, `\"`, `"`).Replace(w[1 : len(w)-1])
		}
		out = append(out, w)
	}
	return out, 0, api.OK
}

// faultOf is the first character behind which no line goes on; the end, if there is none.
func faultOf(s string) int {
	for at := 0; at < len(s); {
		_, size := utf8.DecodeRuneInString(s[at:])
		if !goesOn(s[:at+size]) {
			return at
		}
		at += size
	}
	return len(s)
}

// heldAgainst asks Words, and what the expression says.
func heldAgainst(t *testing.T, s string) api.Errno {
	t.Helper()
	want, place, no := wordsOf(s)
	got, at, e := line.Words(s)
	if !slices.Equal(got, want) || at != place || e != no {
		t.Fatalf("Words(%q) = %q, %d, %d, want %q, %d, %d", s, got, at, e, want, place, no)
	}
	return e
}

// known is a line and its words.
type known struct {
	s    string
	want []string
}

func checkWords(t *testing.T, all []known) {
	t.Helper()
	for _, c := range all {
		if got, at, e := line.Words(c.s); !slices.Equal(got, c.want) || at != 0 || e != api.OK {
			t.Errorf("Words(%q) = %q, %d, %d, want %q", c.s, got, at, e, c.want)
		}
	}
}

// P5.1: no word, one, some; blanks ahead, between and at the end.
func TestWordsAndBlanks(t *testing.T) {
	checkWords(t, []known{
		{`a "b c" "d\"e"`, []string{"a", "b c", `d"e`}},
		{"", nil}, {" ", nil}, {"     ", nil},
		{"a", []string{"a"}}, {"ab", []string{"ab"}},
		{" a", []string{"a"}}, {"a ", []string{"a"}}, {"   a   ", []string{"a"}},
		{"a b", []string{"a", "b"}}, {"a   b", []string{"a", "b"}}, {"  a  b  ", []string{"a", "b"}},
		{`"a" "b"`, []string{"a", "b"}}, {`  "a"   b  "c"  `, []string{"a", "b", "c"}},
		{"a a a a a a a a a", []string{"a", "a", "a", "a", "a", "a", "a", "a", "a"}},
		{strings.Repeat("a ", 150), strings.Fields(strings.Repeat("a ", 150))},
	})
}

// P5.1: words in quotes, and what \ means in them.
func TestWordsInQuotes(t *testing.T) {
	checkWords(t, []known{
		{`""`, []string{""}}, {`"" ""`, []string{"", ""}}, {`a "" b`, []string{"a", "", "b"}}, {`"" `, []string{""}},
		{`" "`, []string{" "}}, {`"  a  b  "`, []string{"  a  b  "}}, {`"a"`, []string{"a"}},
		{`"\""`, []string{`"`}}, {`"\\"`, []string{`\`}}, {`"\\\""`, []string{`\"`}}, {`"\"\\"`, []string{`"\`}}, {`"\\\\"`, []string{`\\`}},
		{`"a\"b\\c"`, []string{`a"b\c`}}, {`"\\" "\""`, []string{`\`, `"`}}, {`"\\n"`, []string{`\n`}},
		{"\"\u00e9 \u20ac\"", []string{"\u00e9 \u20ac"}},
	})
}

// P5.1: the characters that stand in a word though they are easily taken for others.
func TestWordsOfOddCharacters(t *testing.T) {
	for _, w := range []string{
		"\u0080", "\u0085", "\u00a0", "\u00e9", "\u2003", "\u2028", "\u3000", "\ufeff", "\ufffd", "\ufffc", "\uffff", "\U0001f600", "\U0010ffff",
		"!", "#", "'", "[", "]", "^", "`", "/", "~", "}", "a\u00e9\u20ac\U0001f600z", "-", ";", "A", "nil", "e\u0301",
	} {
		checkWords(t, []known{{w, []string{w}}, {`"` + w + `"`, []string{w}}, {" " + w + "  x" + w, []string{w, "x" + w}}})
	}
}

// P5.1: every character below 300 alone, within a word, and in quotes.
func TestWordsOfEachCharacter(t *testing.T) {
	for r := range rune(0x300) {
		for _, f := range []string{"%c", "x%cy", "x %cy", `"%c"`, `"x%cy"`, `"x\%cy"`, `"x"%c`, "x%c"} {
			heldAgainst(t, fmt.Sprintf(f, r))
		}
	}
}

// P5.1: the place of the first byte that can't stand where it stands.
func TestWordsAtFault(t *testing.T) {
	for _, c := range []struct {
		s  string
		at int
	}{
		// Words without quotes.
		{`a"b`, 1}, {`a"b"`, 1}, {`a"`, 1}, {`ab "c" d"`, 8}, {`a\b`, 1}, {`\`, 0}, {`\a`, 0}, {`\"a"`, 0}, {`a\`, 1}, {`a b\"c`, 3},
		{"\x00", 0}, {"\t", 0}, {"a\tb", 1}, {"a \tb", 2}, {"a\n", 1}, {"a\r\n", 1}, {"\x1f", 0}, {"a\x1fb", 1}, {"\x7f", 0}, {"ab\x7f", 2},
		// Bytes in no character: the first one of them.
		{"\x80", 0}, {"\xff", 0}, {"ab\xff", 2}, {"a\xc3", 1}, {"a\xe2\x82", 1}, {"a\xe2\x82b", 1}, {"a\xf0\x9f\x98 b", 1}, {"\u00e9\xa9", 2},
		{"a\xed\xa0\x80", 1}, {"a\xc0\x80", 1}, {"a\xc1\xbf", 1}, {"a\xe0\x80\x80", 1}, {"a\xf4\x90\x80\x80", 1}, {"a\xf8\x88\x80\x80\x80", 1},
		{"\ufffd\xff", 3}, {"a \xc3", 2}, {" \xff", 1},
		// In quotes.
		{"\"\x00\"", 1}, {"\"a\x1f\"", 2}, {"\"a\x7f\"", 2}, {"\"a\tb\"", 2}, {"\"a\nb\"", 2}, {"\"a\xff\"", 2}, {"\"a\xc3\"", 2}, {"\"\u00e9\xe2\x82\"", 3}, {"\"\xed\xa0\x80\"", 1},
		// A \ ahead of anything but " and \: what stands behind it.
		{`"\a"`, 2}, {`"a\b"`, 3}, {`"a\ "`, 3}, {`"\n"`, 2}, {"\"\\\x00\"", 2}, {"\"\\\x7f\"", 2}, {"\"\\\xff\"", 2}, {"\"\\\u00e9\"", 2}, {`"\\\a"`, 4}, {`"\"\a"`, 4},
		// The end, where a quote is open, behind a \ too.
		{`"`, 1}, {`"a`, 2}, {`"a b `, 5}, {`"\`, 2}, {`"a\`, 3}, {`"\"`, 3}, {`"\\`, 3}, {`"\\\"`, 5}, {"\"\u00e9", 3}, {`a b "c`, 6}, {`"a" "`, 5}, {`"a\\\`, 5},
		// Behind the quote at the end.
		{`"a"b`, 3}, {`"a""b"`, 3}, {`"""`, 2}, {`""""`, 2}, {`""a`, 2}, {`"a"\`, 3}, {`"a"\"`, 3}, {"\"a\"\t", 3}, {"\"a\"\xff", 3}, {"\"a\"\x00", 3}, {"\"a\"\u00e9", 3}, {`x "a"b c`, 5}, {`"\""a`, 4},
		// Of two faults the first.
		{"a\"b\xff", 1}, {"a\xff\"", 1}, {`"a"b "`, 3}, {"\xff \x00", 0},
	} {
		if got, at, e := line.Words(c.s); len(got) != 0 || at != c.at || e != api.ErrText {
			t.Errorf("Words(%q) = %q, %d, %d, want error %d at %d", c.s, got, at, e, api.ErrText, c.at)
		}
	}
}

// P5.1: lines of MaxLine bytes, and of one more, whatever stands in them. It is bytes that count.
func TestWordsLength(t *testing.T) {
	for _, c := range []string{"a", " ", "a ", "\u00e9", `"`, "\xff", "\x00", `\`, "\U0001f600"} {
		whole := strings.Repeat(c, api.MaxLine)[:api.MaxLine]
		heldAgainst(t, whole)
		heldAgainst(t, whole[1:])
		for _, more := range []string{"a", " ", `"`, "\xff", strings.Repeat("a", 1000), strings.Repeat(" ", 1000)} {
			if got, at, e := line.Words(whole + more); len(got) != 0 || at != 0 || e != api.ErrLong {
				t.Errorf("Words of %d bytes = %q, %d, %d, want error %d", len(whole+more), got, at, e, api.ErrLong)
			}
		}
	}
	long := strings.Repeat("a", api.MaxLine-2)
	checkWords(t, []known{{long + "aa", []string{long + "aa"}}, {`"` + long + `"`, []string{long}}, {"  " + long, []string{long}}})
	if _, at, e := line.Words(`"` + long + `a`); at != api.MaxLine || e != api.ErrText {
		t.Errorf("Words of MaxLine bytes with a quote open: %d at %d", e, at)
	}
}

// P5.1: every line of at most five of these bytes.
func TestWordsEachShort(t *testing.T) {
	pieces := []byte{' ', '"', '\\', 'a', 0x1f, 0x7f, 0xc3, 0xa9}
	var below func(s []byte)
	below = func(s []byte) {
		heldAgainst(t, string(s))
		if len(s) == 5 {
			return
		}
		for _, b := range pieces {
			below(append(s, b))
		}
	}
	below(make([]byte, 0, 5))
}

// drawn is a text of some of the pieces, most of them of the first few.
func drawn(draw *rand.Rand, most, few int, pieces []string) string {
	var out strings.Builder
	for range draw.Intn(most) {
		k := few
		if draw.Intn(40) == 0 {
			k = len(pieces)
		}
		out.WriteString(pieces[draw.Intn(k)])
	}
	return out.String()
}

// P5.1: longer lines that are drawn, right ones and wrong ones.
func TestWordsDrawn(t *testing.T) {
	pieces := []string{
		"a", "b", " ", " ", "\u00e9", "\u20ac", "\U0001f600", ` "`, `" `, ` "a b" `, ` "\"" `, ` "\\" `,
		`"`, `\`, `\"`, `\\`, "\x00", "\x1f", "\x7f", "\xff", "\xc3", "\xe2\x82", "\xed\xa0\x80", "\ufffd", strings.Repeat("x", 100),
	}
	draw := rand.New(rand.NewSource(1))
	seen := map[api.Errno]int{}
	for range 40000 {
		seen[heldAgainst(t, drawn(draw, 30, 12, pieces))]++
	}
	for range 2000 {
		seen[heldAgainst(t, drawn(draw, 400, 7, pieces))]++
	}
	for _, e := range []api.Errno{api.OK, api.ErrLong, api.ErrText} {
		if seen[e] < 100 {
			t.Errorf("only %d were answered %d", seen[e], e)
		}
	}
}

// verbs are those of the document: their words, and how many words come behind them.
var verbs = []struct {
	verb byte
	word string
	args int
}{
	{1, "create", 4}, {2, "drop", 2}, {3, "login", 2}, {4, "check", 1}, {5, "revoke", 1}, {6, "pass", 3}, {7, "role", 3}, {8, "unlock", 2}, {9, "who", 2}, {10, "list", 1}, {11, "audit", 2},
}

func sameRequest(a, b api.Request) bool { return a.Verb == b.Verb && slices.Equal(a.Args, b.Args) }

// refused checks that Parse answers that error, at that place, and no request.
func refused(t *testing.T, s string, at int, want api.Errno) {
	t.Helper()
	if q, place, e := line.Parse(s); !sameRequest(q, api.Request{}) || place != at || e != want {
		t.Errorf("Parse(%q) = %d %q, %d, %d, want error %d at %d", s, q.Verb, q.Args, place, e, want, at)
	}
}

// read checks that Parse answers that request.
func read(t *testing.T, s string, want api.Request) {
	t.Helper()
	if q, at, e := line.Parse(s); !sameRequest(q, want) || at != 0 || e != api.OK {
		t.Errorf("Parse(%q) = %d %q, %d, %d, want %d %q", s, q.Verb, q.Args, at, e, want.Verb, want.Args)
	}
}

// P5.2: every verb with as many words as it needs, and with every other number of them.
func TestParseEachVerb(t *testing.T) {
	args := []string{"a", "b c", "", `d"e`, "f", "g", "h"}
	inLine := []string{"a", `"b c"`, `""`, `"d\"e"`, "f", "g", "h"}
	for _, v := range verbs {
		for n := range len(args) + 1 {
			s := strings.Join(append([]string{v.word}, inLine[:n]...), " ")
			if n != v.args {
				refused(t, s, 0, api.ErrArg)
				continue
			}
			want := api.Request{Verb: v.verb, Args: args[:n]}
			read(t, s, want)
			read(t, "  "+strings.ReplaceAll(s, v.word+" ", v.word+"   ")+"  ", want)
			read(t, `"`+v.word+`"`+s[len(v.word):], want)
		}
	}
	refused(t, "login amy", 0, api.ErrArg)
}

// P5.2: first words that are no verb's, with any number of words behind them.
func TestParseNoVerb(t *testing.T) {
	for _, w := range []string{"x", "Login", "LOGIN", "logi", "logins", "lo", `""`, `" "`, `"login "`, `" login"`, "l\u00f6gin", "3", "VLogin", "-", "create,", `"\\"`, "check\u00a0"} {
		for n := range 6 {
			refused(t, w+strings.Repeat(" a", n), 0, api.ErrNone)
		}
	}
	for _, v := range verbs {
		for _, w := range []string{strings.ToUpper(v.word), v.word[1:], v.word[:len(v.word)-1], v.word + "s", `"` + v.word + ` "`} {
			refused(t, w+strings.Repeat(" a", v.args), 0, api.ErrNone)
		}
	}
}

// P5.2: no word; Words' errors, which go ahead of all others.
func TestParseOrder(t *testing.T) {
	for _, s := range []string{"", " ", "       ", strings.Repeat(" ", api.MaxLine)} {
		refused(t, s, 0, api.ErrText)
	}
	refused(t, `login amy "x`, 12, api.ErrText)
	refused(t, `login "`, 7, api.ErrText)
	refused(t, "x \xff", 2, api.ErrText)
	refused(t, "login\tamy x", 5, api.ErrText)
	refused(t, "login amy pass\x7f", 14, api.ErrText)
	refused(t, `login"amy" x`, 5, api.ErrText)
	refused(t, `"login"amy x`, 7, api.ErrText)
	refused(t, strings.Repeat(" ", api.MaxLine+1), 0, api.ErrLong)
	refused(t, "x"+strings.Repeat(" ", api.MaxLine), 0, api.ErrLong)
	refused(t, "\xff"+strings.Repeat(" ", api.MaxLine), 0, api.ErrLong)
	refused(t, "list"+strings.Repeat(" ", api.MaxLine), 0, api.ErrLong)
	read(t, "list a"+strings.Repeat(" ", api.MaxLine-6), api.Request{Verb: 10, Args: []string{"a"}})
	refused(t, "list a"+strings.Repeat(" ", api.MaxLine-5), 0, api.ErrLong)
}

// P5.3: lines that are known: with a blank each, and quotes where they are needed alone.
func TestWrite(t *testing.T) {
	for _, c := range []struct {
		verb byte
		args []string
		want string
	}{
		{api.VLogin, []string{"amy", "a b"}, `login amy "a b"`},
		{api.VCreate, []string{"a", "b", "c", "d"}, "create a b c d"},
		{api.VDrop, []string{"t", "amy"}, "drop t amy"},
		{api.VCheck, []string{"t"}, "check t"},
		{api.VRevoke, []string{""}, `revoke ""`},
		{api.VPass, []string{"t", `o"ld`, `n\ew`}, `pass t "o\"ld" "n\\ew"`},
		{api.VRole, []string{`"`, `\`, " "}, `role "\"" "\\" " "`},
		{api.VUnlock, []string{`\"`, `""`}, `unlock "\\\"" "\"\""`},
		{api.VWho, []string{"login", "who"}, "who login who"},
		{api.VList, []string{"a "}, `list "a "`},
		{api.VAudit, []string{" a", "a  b"}, `audit " a" "a  b"`},
		{api.VWho, []string{"\u00e9\u20ac", "\U0001f600 \u00e9"}, "who \u00e9\u20ac \"\U0001f600 \u00e9\""},
		{api.VWho, []string{"\u00a0", "\ufffd"}, "who \u00a0 \ufffd"},
		{api.VWho, []string{"\u0080\u2028", "!#'[]^~"}, "who \u0080\u2028 !#'[]^~"},
	} {
		if s, e := line.Write(api.Request{Verb: c.verb, Args: c.args}); s != c.want || e != api.OK {
			t.Errorf("Write(%d, %q) = %q, %d, want %q", c.verb, c.args, s, e, c.want)
		}
	}
}

// unwritten checks that Write answers that error, and no line.
func unwritten(t *testing.T, verb byte, args []string, want api.Errno) {
	t.Helper()
	if s, e := line.Write(api.Request{Verb: verb, Args: args}); s != "" || e != want {
		t.Errorf("Write(%d, %d words: %.60q) = %q, %d, want error %d", verb, len(args), args[:min(len(args), 5)], s, e, want)
	}
}

// P5.3: requests that no line of any length stands for; that goes ahead of what is too long.
func TestWriteNone(t *testing.T) {
	long := strings.Repeat("a", 2*api.MaxLine)
	for n := range 9 {
		args := slices.Repeat([]string{"a"}, n)
		for verb := range 256 {
			if verb == 0 || verb > 11 || verbs[verb-1].args != n {
				unwritten(t, byte(verb), args, api.ErrForm)
			}
		}
	}
	for verb := range 256 {
		unwritten(t, byte(verb), nil, api.ErrForm)
		unwritten(t, byte(verb), slices.Repeat([]string{long}, 5), api.ErrForm)
	}
	for _, bad := range []string{
		"\x00", "a\tb", "\n", "a\x1f", "\x7f", "a\x7fb", "\x80", "a\xff", "\xc3", "\xc3 a", "\xe2\x82", "\xed\xa0\x80", "\xc0\x80", "\xf4\x90\x80\x80", "\"\xff\"", "a b\r",
		long + "\x00", "\xff" + long,
	} {
		unwritten(t, api.VCheck, []string{bad}, api.ErrForm)
		unwritten(t, api.VLogin, []string{bad, "a"}, api.ErrForm)
		unwritten(t, api.VLogin, []string{long, bad}, api.ErrForm)
		unwritten(t, api.VCreate, []string{"a", "b", bad, long}, api.ErrForm)
	}
}

// P5.3: lines of just MaxLine bytes, and of one more; what quotes and \ take counts.
func TestWriteLength(t *testing.T) {
	for _, c := range []struct{ piece, line string }{{"a", "check %s"}, {"\u00e9", "check %s"}, {" ", `check "%s"`}, {`"`, `check "%s"`}, {`\`, `check "%s"`}} {
		inLine := c.piece
		if strings.ContainsAny(c.piece, `"\`) {
			inLine = `\` + c.piece
		}
		room := api.MaxLine - (len(c.line) - len("%s"))
		n := room / len(inLine)
		want := fmt.Sprintf(c.line, strings.Repeat(inLine, n))
		if s, e := line.Write(api.Request{Verb: api.VCheck, Args: []string{strings.Repeat(c.piece, n)}}); s != want || e != api.OK {
			t.Errorf("Write of %d %q = %d bytes, %d, want %d", n, c.piece, len(s), e, len(want))
		}
		unwritten(t, api.VCheck, []string{strings.Repeat(c.piece, n+1)}, api.ErrLong)
		unwritten(t, api.VCheck, []string{strings.Repeat(c.piece, 100*n)}, api.ErrLong)
	}
	for _, v := range verbs {
		args := slices.Repeat([]string{"a b"}, v.args)
		args[v.args-1] = strings.Repeat("x", api.MaxLine-len(v.word)-6*(v.args-1)-1)
		s, e := line.Write(api.Request{Verb: v.verb, Args: args})
		if len(s) != api.MaxLine || e != api.OK {
			t.Errorf("Write of %s = %d bytes, %d, want %d", v.word, len(s), e, api.MaxLine)
		}
		read(t, s, api.Request{Verb: v.verb, Args: args})
		args[v.args-1] += "x"
		unwritten(t, v.verb, args, api.ErrLong)
	}
}

// P5.3: of all the lines that are read as a request, what is written is the shortest, and there is but one of these.
func TestWriteShortest(t *testing.T) {
	type shortest struct {
		s    string
		many int
	}
	lines := map[string]shortest{}
	var below func(s string)
	below = func(s string) {
		if q, _, e := line.Parse("check " + s); e == api.OK {
			was, ok := lines[q.Args[0]]
			switch {
			case !ok || len(s) < len(was.s):
				lines[q.Args[0]] = shortest{s, 1}
			case len(s) == len(was.s):
				lines[q.Args[0]] = shortest{was.s, was.many + 1}
			}
		}
		if len(s) < 7 {
			for _, piece := range []string{"a", " ", `"`, `\`} {
				below(s + piece)
			}
		}
	}
	below("")
	for arg, c := range lines {
		if got, e := line.Write(api.Request{Verb: api.VCheck, Args: []string{arg}}); got != "check "+c.s || c.many != 1 || e != api.OK {
			t.Errorf("Write(check, %q) = %q, %d, want check %s, the only one of %d", arg, got, e, c.s, c.many)
		}
	}
	if len(lines) < 100 {
		t.Errorf("only %d words were read", len(lines))
	}
}

// P5.3: what is written is read as it was, and what is read and written again is read as the same.
func TestWriteAndParse(t *testing.T) {
	pieces := []string{"a", "b", " ", `"`, `\`, "\u00e9", "\u20ac", "\ufffd", "\U0010ffff", "~", "\u0080", "\x00", "\x1f", "\x7f", "\xff", "\xe2\x82"}
	draw := rand.New(rand.NewSource(2))
	seen := map[api.Errno]int{}
	for range 30000 {
		v := verbs[draw.Intn(len(verbs))]
		q := api.Request{Verb: v.verb}
		ok := true
		for range v.args {
			arg := drawn(draw, []int{3, 12, 90}[draw.Intn(3)], 11, pieces)
			q.Args = append(q.Args, arg)
			ok = ok && utf8.ValidString(arg) && !strings.ContainsAny(arg, "\x00\x1f\x7f")
		}
		s, e := line.Write(q)
		seen[e]++
		if e != api.OK {
			if ok == (e == api.ErrForm) {
				t.Fatalf("Write(%d, %q) = %d", q.Verb, q.Args, e)
			}
			continue
		}
		if got, at, e := line.Parse(s); !ok || !sameRequest(got, q) || at != 0 || e != api.OK {
			t.Fatalf("Write(%d, %q) = %q, which is read as %d %q, %d, %d", q.Verb, q.Args, s, got.Verb, got.Args, at, e)
		}
	}
	for _, e := range []api.Errno{api.OK, api.ErrLong, api.ErrForm} {
		if seen[e] < 100 {
			t.Errorf("only %d were answered %d", seen[e], e)
		}
	}
}

// The rule of memory: what is handed in stays, its spare room too.
func TestArgumentsStay(t *testing.T) {
	whole := []string{"a", "b c", `d"`, "e", "spare"}
	was := slices.Clone(whole)
	for n := range 5 {
		for verb := range byte(13) {
			line.Write(api.Request{Verb: verb, Args: whole[:n]})
		}
	}
	if !slices.Equal(whole, was) {
		t.Errorf("the words became %q", whole)
	}
}

// P2, and the rule of memory: answers are new, whatever becomes of the line's own bytes, of a request's words and of another answer, spare room too.
func TestAnswersAreNew(t *testing.T) {
	want := []string{"login", "amy", "a b"}
	bytes := []byte(`login amy "a b"`)
	s := unsafe.String(&bytes[0], len(bytes))
	l, _, _ := line.Words(s)
	q, _, _ := line.Parse(s)
	other, _, _ := line.Words(s)
	again, _, _ := line.Parse(s)
	for i := range bytes {
		bytes[i] = 'x'
	}
	clear(other[:cap(other)])
	clear(again.Args[:cap(again.Args)])
	if !slices.Equal(l, want) || !slices.Equal(q.Args, want[1:]) {
		t.Errorf("answers became %q, %q as the line was written over", l, q.Args)
	}
	word := []byte("token")
	written, _ := line.Write(api.Request{Verb: api.VCheck, Args: []string{unsafe.String(&word[0], len(word))}})
	copy(word, "xxxxx")
	if written != "check token" {
		t.Errorf("a line became %q as its word was written over", written)
	}
}

// P1 and P2: whatever is handed in, each call ends, and answers the same again.
func TestAnything(t *testing.T) {
	all := []string{"", " ", `"`, `\`, `"\`, "\x00", "\xff", "\xef\xbf", "login a b", "login a"}
	for _, c := range []string{"a", " ", `"`, `\`, `\"`, "\xff", "\u00e9"} {
		all = append(all, strings.Repeat(c, 100000))
	}
	for _, s := range all {
		l, at, e := line.Words(s)
		m, place, f := line.Words(s)
		q, fault, g := line.Parse(s)
		r, spot, h := line.Parse(s)
		if !slices.Equal(l, m) || at != place || e != f || !sameRequest(q, r) || fault != spot || g != h {
			t.Errorf("%.40q is answered in more than one way", s)
		}
		for verb := range 256 {
			for n := range 6 {
				a := api.Request{Verb: byte(verb), Args: slices.Repeat([]string{s}, n)}
				if n == 5 || verb > 12 && n > 0 {
					continue
				}
				w, e := line.Write(a)
				if x, f := line.Write(a); w != x || e != f {
					t.Errorf("Write(%d, %d of %.40q) is answered in more than one way", verb, n, s)
				}
			}
		}
	}
	many := slices.Repeat([]string{"a"}, 1000000)
	for verb := range 256 {
		unwritten(t, byte(verb), many, api.ErrForm)
	}
}
