package glyph_test

import (
	"math"
	"regexp"
	"slices"
	"strconv"
	"strings"
	"testing"

	"tumbler/api"
	"tumbler/glyph"
)

func word(text string, at, line int) glyph.Token {
	return glyph.Token{Kind: glyph.Word, Text: text, At: at, Line: line}
}

func sign(text string, at, line int) glyph.Token {
	return glyph.Token{Kind: glyph.Sign, Text: text, At: at, Line: line}
}

func number(num uint64, at, line int) glyph.Token {
	return glyph.Token{Kind: glyph.Number, Num: num, At: at, Line: line}
}

func end(at, line int) glyph.Token {
	return glyph.Token{Kind: glyph.End, At: at, Line: line}
}

func lexed(t *testing.T, text string) []glyph.Token {
	t.Helper()
	list, at, e := glyph.Lex(text)
	if e != api.OK || at != 0 {
		t.Fatalf("Lex(%.40q): error %d at %d", text, e, at)
	}
	return list
}

// refused holds for a text in which an error is, at a byte.
func refused(t *testing.T, text string, at int, e api.Errno) {
	t.Helper()
	list, gotAt, got := glyph.Lex(text)
	if got != e || gotAt != at || len(list) != 0 {
		t.Errorf("Lex(%.40q): %d tokens, error %d at %d, not %d at %d", text, len(list), got, gotAt, e, at)
	}
}

// P2.1: the kinds' numbers.
func TestKinds(t *testing.T) {
	if glyph.Word != 0 || glyph.Number != 1 || glyph.Sign != 2 || glyph.End != 3 {
		t.Error("the kinds have other numbers")
	}
}

// P2.1: which tokens a text has, and where they stand.
func TestLex(t *testing.T) {
	for text, want := range map[string][]glyph.Token{
		"":                    nil,
		" \t\r  ":             nil,
		"# nothing":           nil,
		"#":                   nil,
		"\n":                  {end(0, 0)},
		"#\n":                 {end(1, 0)},
		"\n\n#\n ":            {end(0, 0), end(1, 1), end(3, 2)},
		"r1 ← r2 + 10 # sum":  {word("r1", 0, 0), sign("←", 3, 0), word("r2", 7, 0), sign("+", 10, 0), number(10, 12, 0)},
		"r1←r2×3":             {word("r1", 0, 0), sign("←", 2, 0), word("r2", 5, 0), sign("×", 7, 0), number(3, 9, 0)},
		"a\nb\n\nc":           {word("a", 0, 0), end(1, 0), word("b", 2, 1), end(3, 1), end(4, 2), word("c", 5, 3)},
		"a#b\nc # # d\n#e":    {word("a", 0, 0), end(3, 0), word("c", 4, 1), end(11, 1)},
		"a\r\n\tb":            {word("a", 0, 0), end(2, 0), word("b", 4, 1)},
		"a\rb":                {word("a", 0, 0), word("b", 2, 0)},
		"queue.put":           {word("queue.put", 0, 0)},
		"a..":                 {word("a..", 0, 0)},
		"_ __a _1 Zz9.9_":     {word("_", 0, 0), word("__a", 2, 0), word("_1", 6, 0), word("Zz9.9_", 9, 0)},
		"a-b":                 {word("a", 0, 0), sign("-", 1, 0), word("b", 2, 0)},
		"7+0":                 {number(7, 0, 0), sign("+", 1, 0), number(0, 2, 0)},
		"more:":               {word("more", 0, 0), sign(":", 4, 0)},
		"call,$1":             {word("call", 0, 0), sign(",", 4, 0), sign("$", 5, 0), number(1, 6, 0)},
		"==":                  {sign("=", 0, 0), sign("=", 1, 0)},
		"# é \xff ? 01\n1":    {end(11, 0), number(1, 12, 1)},
		"#\xe2\n\xc3\x97":     {end(2, 0), sign("×", 3, 1)},
		"#\x00\xe2\x86\nx":    {end(4, 0), word("x", 5, 1)},
		"# ←←\n\n#a 7\n\n ok": {end(8, 0), end(9, 1), end(14, 2), end(15, 3), word("ok", 17, 4)},
	} {
		if got := lexed(t, text); !slices.Equal(got, want) {
			t.Errorf("Lex(%q): %v, not %v", text, got, want)
		}
	}
}

// P2.1: what each byte is, alone, behind a word, and behind a number.
func TestEachByte(t *testing.T) {
	const runs = "abcdefghijklmnopqrstuvwxyzABCDEFGHIJKLMNOPQRSTUVWXYZ_0123456789."
	for b := range 256 {
		text := string([]byte{byte(b)})
		in := func(row string) bool { return strings.Contains(row, text) }
		behind := "a" + text
		switch {
		case in(" \t\r#"):
			same(t, text, nil)
			same(t, behind, []glyph.Token{word("a", 0, 0)})
		case in("\n"):
			same(t, text, []glyph.Token{end(0, 0)})
			same(t, behind, []glyph.Token{word("a", 0, 0), end(1, 0)})
		case in("+-%=<[]:$,"):
			same(t, text, []glyph.Token{sign(text, 0, 0)})
			same(t, behind, []glyph.Token{word("a", 0, 0), sign(text, 1, 0)})
		case in("."):
			refused(t, text, 0, api.ErrChar)
			same(t, behind, []glyph.Token{word("a.", 0, 0)})
		case in("0123456789"):
			same(t, text, []glyph.Token{number(uint64(b-'0'), 0, 0)})
			same(t, behind, []glyph.Token{word(behind, 0, 0)})
		case in(runs):
			same(t, text, []glyph.Token{word(text, 0, 0)})
			same(t, behind, []glyph.Token{word(behind, 0, 0)})
		default:
			refused(t, text, 0, api.ErrChar)
			refused(t, behind, 1, api.ErrChar)
		}
		if in(runs) && !in("0123456789") {
			refused(t, "1"+text, 0, api.ErrNumber)
		}
	}
}

func same(t *testing.T, text string, want []glyph.Token) {
	t.Helper()
	if got := lexed(t, text); !slices.Equal(got, want) {
		t.Errorf("Lex(%.40q): %v, not %v", text, got, want)
	}
}

// P2.1: runes and bytes that are no token's, wherever they stand.
func TestErrChar(t *testing.T) {
	for text, at := range map[string]int{
		"é":                0,
		"aé":               1,
		"a b é":            4,
		"a\nb é":           4,
		"1\xff":            1,
		"\xff":             0,
		"a \xe2\x86":       2,
		"\xe2\x86+":        0,
		"\x86\x90":         0,
		"\xc3":             0,
		"\xc3\xc3\x97":     0,
		"\xd7":             0,
		"\xe0\x83\x97":     0, // × with a byte too many
		"\ufffd":           0,
		"+\ufffd":          1,
		"→":                0,
		"a ↑":              2,
		"÷":                0,
		"\u00a0":           0,
		"\u2028":           0,
		"\ufeffa":          0,
		"１":                0,
		"ａ":                0,
		".":                0,
		"+.a":              1,
		" .5":              1,
		"a ?":              2,
		"a\v":              1,
		"a\f":              1,
		"a\x00":            1,
		"* ":               0,
		"(":                0,
		"a >":              2,
		"\n\n  ;":          4,
		"# fine\n! 01":     7,
		"←×←!":             8,
		"a # fine \xff\n@": 11,
	} {
		refused(t, text, at, api.ErrChar)
	}
}

// P2.1: numbers up to 2^64 - 1, without noughts ahead; all else that begins with a digit is none.
func TestNumbers(t *testing.T) {
	for _, num := range []uint64{0, 1, 9, 10, 100, 1 << 32, 1 << 47, math.MaxInt64, 1 << 63, math.MaxUint64 - 1, math.MaxUint64} {
		same(t, " "+strconv.FormatUint(num, 10)+" ", []glyph.Token{number(num, 1, 0)})
	}
	for _, run := range []string{
		"00", "01", "007", "0a", "0x10", "0b1", "0o7", "1_000", "1_", "1e3", "1.5", "1.", "0.", "12a", "9Z",
		"18446744073709551616", "18446744073709551620", "28446744073709551615", "99999999999999999999", "184467440737095516150",
		"018446744073709551615", strings.Repeat("0", 30), strings.Repeat("9", 1000), "1" + strings.Repeat("a", 100),
	} {
		refused(t, run, 0, api.ErrNumber)
		refused(t, "a + "+run+" + 1", 4, api.ErrNumber)
		refused(t, "a\n\t"+run+"\n", 3, api.ErrNumber)
	}
}

// P2.1: words up to MaxName bytes.
func TestWords(t *testing.T) {
	for _, run := range []string{strings.Repeat("a", api.MaxName), "_" + strings.Repeat("9", api.MaxName-1), "q" + strings.Repeat(".", api.MaxName-1)} {
		same(t, run, []glyph.Token{word(run, 0, 0)})
		same(t, "+"+run+"+", []glyph.Token{sign("+", 0, 0), word(run, 1, 0), sign("+", api.MaxName+1, 0)})
		for _, more := range []string{"a", "0", ".", "_", "zzzzzzz"} {
			refused(t, run+more, 0, api.ErrWord)
			refused(t, "x "+run+more, 2, api.ErrWord)
			refused(t, "x ← "+run+more+" 01", 6, api.ErrWord)
		}
	}
}

// P2.1: MaxText bytes may be, whatever they are; one more is told ahead of all else.
func TestErrLong(t *testing.T) {
	same(t, strings.Repeat(" ", api.MaxText), nil)
	same(t, "#"+strings.Repeat("é", api.MaxText/2-1)+"é"[:1], nil)
	same(t, strings.Repeat(" ", api.MaxText-1)+"a", []glyph.Token{word("a", api.MaxText-1, 0)})
	refused(t, strings.Repeat(" ", api.MaxText-1)+"?", api.MaxText-1, api.ErrChar)
	for _, head := range []string{"", "?", "01", "é", " 1a", "x \xff", strings.Repeat("a", 25), strings.Repeat("+", api.MaxTokens+1)} {
		refused(t, head+strings.Repeat(" ", api.MaxText+1-len(head)), 0, api.ErrLong)
	}
	refused(t, strings.Repeat("é", api.MaxText/2)+" ", 0, api.ErrLong)
	refused(t, strings.Repeat(" ", 3*api.MaxText), 0, api.ErrLong)
}

// P2.1: MaxTokens tokens may be, ends too; where one more would stand there is an error, its own one, if it has one.
func TestErrMany(t *testing.T) {
	const n = api.MaxTokens
	for _, one := range []string{"+", "\n", "a ", "7 ", "←"} {
		full := strings.Repeat(one, n)
		at := len(full)
		if got := len(lexed(t, full)); got != n {
			t.Errorf("%q: %d tokens", one, got)
		}
		if got := len(lexed(t, full+" \t\r# more \xff ?")); got != n {
			t.Errorf("%q, and a remark: %d tokens", one, got)
		}
		for _, more := range []string{"+", "a", "7", "\n", "←", strings.Repeat("a", 24), "18446744073709551615", "a?", "+01"} {
			refused(t, full+more, at, api.ErrMany)
			refused(t, full+"  "+more, at+2, api.ErrMany)
		}
		refused(t, full+"# x\n", at+3, api.ErrMany)
		refused(t, full+"01", at, api.ErrNumber)
		refused(t, full+" 1a +", at+1, api.ErrNumber)
		refused(t, full+strings.Repeat("a", 25), at, api.ErrWord)
		refused(t, full+"?", at, api.ErrChar)
		refused(t, full+"\xff", at, api.ErrChar)
	}
	refused(t, "? "+strings.Repeat("+", n), 0, api.ErrChar)
	refused(t, strings.Repeat("+", n-1)+"?", n-1, api.ErrChar)
}

// P2.1: the first error in the text is told, of whichever kind.
func TestFirstError(t *testing.T) {
	long := strings.Repeat("w", 25)
	for text, c := range map[string]struct {
		at int
		e  api.Errno
	}{
		"01 ?":              {0, api.ErrNumber},
		"? 01":              {0, api.ErrChar},
		long + " 01":        {0, api.ErrWord},
		"01 " + long:        {0, api.ErrNumber},
		"? " + long:         {0, api.ErrChar},
		long + "?":          {0, api.ErrWord},
		"01?":               {0, api.ErrNumber},
		"ok 01 ok 02":       {3, api.ErrNumber},
		"ok\n" + long + "é": {3, api.ErrWord},
		"1" + long:          {0, api.ErrNumber},
		"#01\n 02 # ?":      {5, api.ErrNumber},
	} {
		refused(t, text, c.at, c.e)
	}
}

// P2.1: tokens as text, of kinds that there are, with blanks between those of a line.
func TestPrint(t *testing.T) {
	bad := glyph.Token{Kind: 4, Text: "x", Num: 5}
	low := glyph.Token{Kind: -1, Text: "y"}
	for i, c := range []struct {
		list []glyph.Token
		want string
	}{
		{nil, ""},
		{[]glyph.Token{}, ""},
		{[]glyph.Token{word("a", 9, 9)}, "a"},
		{[]glyph.Token{word("a", 0, 0), word("b", 0, 0)}, "a b"},
		{[]glyph.Token{sign("←", 0, 0), number(0, 0, 0), number(math.MaxUint64, 0, 0)}, "← 0 18446744073709551615"},
		{[]glyph.Token{end(0, 0)}, "\n"},
		{[]glyph.Token{end(0, 0), end(0, 0), word("a", 0, 0)}, "\n\na"},
		{[]glyph.Token{word("a", 0, 0), end(0, 0), number(1, 0, 0), sign(":", 0, 0), end(0, 0)}, "a\n1 :\n"},
		{[]glyph.Token{bad}, ""},
		{[]glyph.Token{bad, low, word("a", 0, 0), bad, word("b", 0, 0), low}, "a b"},
		{[]glyph.Token{word("a", 0, 0), end(0, 0), bad, word("b", 0, 0)}, "a\nb"},
		{[]glyph.Token{word("a", 0, 0), low, end(0, 0)}, "a\n"},
		{[]glyph.Token{word("", 0, 0), word("a", 0, 0)}, " a"},
		{[]glyph.Token{sign("", 0, 0), sign("", 0, 0), end(0, 0), word("", 0, 0), number(2, 0, 0)}, " \n 2"},
		{[]glyph.Token{word("a\n", 0, 0), word("b", 0, 0)}, "a\n b"},
		{[]glyph.Token{word("é \xff", 0, 0), sign("long sign", 0, 0)}, "é \xff long sign"},
		{[]glyph.Token{{Kind: glyph.Number, Text: "a", Num: 3}, {Kind: glyph.Word, Text: "b", Num: 4}, {Kind: glyph.End, Text: "c", Num: 5}}, "3 b\n"},
		{[]glyph.Token{{Kind: math.MaxInt, Text: "x"}, {Kind: math.MinInt, Text: "x"}}, ""},
	} {
		kept := slices.Clone(c.list)
		if got := glyph.Print(c.list); got != c.want {
			t.Errorf("case %d: %q, not %q", i, got, c.want)
		}
		if !slices.Equal(c.list, kept) {
			t.Errorf("case %d: the list was turned", i)
		}
	}
}

func lines(list []glyph.Token) [][]glyph.Token {
	var all [][]glyph.Token
	for line := range glyph.Lines(list) {
		all = append(all, line)
	}
	return all
}

func sameLines(a, b [][]glyph.Token) bool {
	return slices.EqualFunc(a, b, func(x, y []glyph.Token) bool { return slices.Equal(x, y) })
}

// P2.1: lines without their ends; behind the last end a line only if there are tokens.
func TestLines(t *testing.T) {
	a, b, n := word("a", 1, 2), sign("+", 3, 4), number(5, 6, 7)
	odd := glyph.Token{Kind: 7, Text: "x"}
	for i, c := range []struct {
		list []glyph.Token
		want [][]glyph.Token
	}{
		{nil, nil},
		{[]glyph.Token{}, nil},
		{[]glyph.Token{a}, [][]glyph.Token{{a}}},
		{[]glyph.Token{a, b, n}, [][]glyph.Token{{a, b, n}}},
		{[]glyph.Token{end(0, 0)}, [][]glyph.Token{{}}},
		{[]glyph.Token{end(0, 0), end(1, 1)}, [][]glyph.Token{{}, {}}},
		{[]glyph.Token{a, end(0, 0)}, [][]glyph.Token{{a}}},
		{[]glyph.Token{end(0, 0), a}, [][]glyph.Token{{}, {a}}},
		{[]glyph.Token{a, b, end(0, 0), end(0, 0), n, end(0, 0), b, a}, [][]glyph.Token{{a, b}, {}, {n}, {b, a}}},
		{[]glyph.Token{odd, end(0, 0), odd}, [][]glyph.Token{{odd}, {odd}}},
	} {
		kept := slices.Clone(c.list)
		if got := lines(c.list); !sameLines(got, c.want) {
			t.Errorf("case %d: %v, not %v", i, got, c.want)
		}
		if !slices.Equal(c.list, kept) {
			t.Errorf("case %d: the list was turned", i)
		}
	}
}

// P2.1: whoever goes through lines may stop at any of them, and begin again.
func TestLinesStop(t *testing.T) {
	seq := glyph.Lines(lexed(t, "a\n\nb\nc"))
	for stop := range 5 {
		met := 0
		for range seq {
			if met == stop {
				break
			}
			met++
		}
		if met != min(stop, 4) {
			t.Errorf("stopped at %d: %d lines", stop, met)
		}
	}
}

// P2.1: what is handed in may be written over behind the call, ahead of the first line too, and what is handed out is the caller's own.
func TestLinesApart(t *testing.T) {
	want := [][]glyph.Token{{word("a", 0, 0), word("b", 2, 0)}, {word("c", 4, 1)}, {word("d", 6, 2)}}
	list := lexed(t, "a b\nc\nd")
	seq := glyph.Lines(list)
	clear(list)
	for range 2 {
		var got [][]glyph.Token
		for line := range seq {
			got = append(got, slices.Clone(line))
			clear(line)
			clear(line[:cap(line)])
			_ = append(line, word("x", 0, 0), word("y", 0, 0))
		}
		if !sameLines(got, want) {
			t.Errorf("%v, not %v", got, want)
		}
	}
	own := lexed(t, "a b\nc\nd")
	for line := range glyph.Lines(own) {
		clear(line[:cap(line)])
	}
	if !slices.Equal(own, lexed(t, "a b\nc\nd")) {
		t.Error("a line is the list's memory")
	}
}

// P2.1: two answers to one text share no memory.
func TestLexApart(t *testing.T) {
	first, second := lexed(t, "a + 1\n"), lexed(t, "a + 1\n")
	clear(first[:cap(first)])
	if !slices.Equal(second, []glyph.Token{word("a", 0, 0), sign("+", 2, 0), number(1, 4, 0), end(5, 0)}) {
		t.Error("two answers share memory")
	}
}

// numbers tells a row of numbers that is the same in each run.
type numbers uint64

func (n *numbers) below(limit int) int {
	*n = *n*6364136223846793005 + 1442695040888963407
	return int(uint64(*n) >> 33 % uint64(limit))
}

// text is some parts, in a row.
func (n *numbers) text(parts []string, most int) string {
	var b strings.Builder
	for range n.below(most + 1) {
		b.WriteString(parts[n.below(len(parts))])
	}
	return b.String()
}

var (
	skipped = regexp.MustCompile(`^(?:[ \t\r]|#[^\n]*)+`)
	aRun    = regexp.MustCompile(`^[a-zA-Z_0-9][a-zA-Z_0-9.]*`)
	aNumber = regexp.MustCompile(`^(?:0|[1-9][0-9]*)$`)
	aSign   = regexp.MustCompile(`^[\x{2190}+\-\x{d7}%=<\[\]:$,]`)
)

// plainLex is Lex in another way, of short texts: by patterns, from the text's beginning on.
func plainLex(text string) ([]glyph.Token, int, api.Errno) {
	var list []glyph.Token
	at, line := 0, 0
	for at < len(text) {
		rest := text[at:]
		if s := skipped.FindString(rest); s != "" {
			at += len(s)
			continue
		}
		t := glyph.Token{At: at, Line: line}
		width := 1
		if run := aRun.FindString(rest); run != "" {
			width = len(run)
			if run[0] >= '0' && run[0] <= '9' {
				num, err := strconv.ParseUint(run, 10, 64)
				if err != nil || !aNumber.MatchString(run) {
					return nil, at, api.ErrNumber
				}
				t.Kind, t.Num = glyph.Number, num
			} else if width > 24 {
				return nil, at, api.ErrWord
			} else {
				t.Text = run
			}
		} else if rest[0] == '\n' {
			t.Kind = glyph.End
			line++
		} else if s := aSign.FindString(rest); s != "" {
			t.Kind, t.Text, width = glyph.Sign, s, len(s)
		} else {
			return nil, at, api.ErrChar
		}
		list = append(list, t)
		at += width
	}
	return list, 0, api.OK
}

// P2.1: texts of any kind, right and wrong, against another way of reading them.
func TestAnyText(t *testing.T) {
	right := []string{"a", "Z_", "r1", "q.x", "0", "7", "12", " ", "\t", "\r", "\n", "#", "# a ?", "←", "+", "-", "×", "%", "=", "<", "[", "]", ":", "$", ",", "."}
	wrong := append([]string{"01", "é", "\xe2", "\x86", "\x90", "\xc3", "\x97", "?", "\x00", "\ufffd", "9999999999999999999", "wwwwwwwwwwwwwwwwwwwwwwww"}, right...)
	n := numbers(2)
	passed := 0
	for i := range 20000 {
		parts := right[:len(right)-i%2]
		if i%4 == 0 {
			parts = wrong
		}
		text := n.text(parts, 14)
		list, at, e := glyph.Lex(text)
		want, wantAt, wantE := plainLex(text)
		if e != wantE || at != wantAt || !slices.Equal(list, want) {
			t.Fatalf("Lex(%q): %v, error %d at %d, not %v, %d at %d", text, list, e, at, want, wantE, wantAt)
		}
		if e == api.OK {
			passed++
			roundTrip(t, text, list)
		}
	}
	if passed < 5000 || passed > 19000 {
		t.Errorf("%d texts of 20000 are right: too few, or too few wrong ones", passed)
	}
}

// roundTrip holds if tokens that were read, and printed, are read as the same ones, but where they stand in their line, and are printed as the same text.
func roundTrip(t *testing.T, text string, list []glyph.Token) {
	t.Helper()
	printed := glyph.Print(list)
	again := lexed(t, printed)
	same := slices.EqualFunc(list, again, func(x, y glyph.Token) bool {
		x.At, y.At = 0, 0
		return x == y
	})
	if !same {
		t.Fatalf("%q is printed as %q, which is read as %v", text, printed, again)
	}
	if glyph.Print(again) != printed {
		t.Fatalf("%q is printed in two ways", text)
	}
	var joined []glyph.Token
	for line := range glyph.Lines(list) {
		joined = append(joined, line...)
	}
	if !slices.Equal(joined, slices.DeleteFunc(list, func(x glyph.Token) bool { return x.Kind == glyph.End })) {
		t.Fatalf("%q: the lines have other tokens", text)
	}
}

// P2.2: what is read, and printed, is read as the same tokens: tokens of each kind beside each other, and the greatest ones.
func TestReadPrintRead(t *testing.T) {
	kinds := []string{"a", "q.x", "0", "18446744073709551615", "←", "×", "-", "$", "\n", strings.Repeat("w", api.MaxName)}
	for _, x := range kinds {
		for _, y := range kinds {
			for _, z := range kinds {
				text := x + " " + y + "\t#\n" + z
				roundTrip(t, text, lexed(t, text))
			}
		}
	}
	for _, text := range []string{strings.Repeat("←", api.MaxTokens), strings.Repeat("\n", api.MaxTokens), strings.Repeat("ab ", api.MaxTokens)} {
		roundTrip(t, text[:8], lexed(t, text))
	}
}
