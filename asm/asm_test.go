package asm_test

import (
	"math"
	"regexp"
	"slices"
	"strconv"
	"strings"
	"testing"

	"tumbler/api"
	"tumbler/asm"
	"tumbler/glyph"
	"tumbler/instr"
)

// read holds for a text that is assembled as it should be.
func read(t *testing.T, text string, want ...api.Instr) {
	t.Helper()
	code, at, e := asm.Assemble(text)
	if e != api.OK || at != 0 || !slices.Equal(code, want) {
		t.Errorf("Assemble(%.60q): %v, error %d at %d, not %v", text, code, e, at, want)
	}
}

// refused holds for a text in which an error is, at a byte.
func refused(t *testing.T, text string, at int, e api.Errno) {
	t.Helper()
	code, gotAt, got := asm.Assemble(text)
	if got != e || gotAt != at || len(code) != 0 {
		t.Errorf("Assemble(%.60q): %d instructions, error %d at %d, not %d at %d", text, len(code), got, gotAt, e, at)
	}
}

// P4.1: each kind's form, both ways.
func TestForms(t *testing.T) {
	for text, want := range map[string]api.Instr{
		"r1 ← 7":                             {Op: instr.Set, A: 1, Imm: 7},
		"r1 ← r2":                            {Op: instr.Move, A: 1, B: 2},
		"r1 ← r2 + r3":                       {Op: instr.Plus, A: 1, B: 2, C: 3},
		"r1 ← r2 - r3":                       {Op: instr.Minus, A: 1, B: 2, C: 3},
		"r1 ← r2 × r3":                       {Op: instr.Times, A: 1, B: 2, C: 3},
		"r1 ← r2 % r3":                       {Op: instr.Modulo, A: 1, B: 2, C: 3},
		"r1 ← r2 = r3":                       {Op: instr.Equal, A: 1, B: 2, C: 3},
		"r1 ← r2 < r3":                       {Op: instr.Less, A: 1, B: 2, C: 3},
		"r1 ← arg 7":                         {Op: instr.Arg, A: 1, Imm: 7},
		"r1 ← root r2":                       {Op: instr.Root, A: 1, B: 2},
		"root r2 ← r1":                       {Op: instr.PutRoot, A: 1, B: 2},
		"r1 ← [ r2 + 7 ]":                    {Op: instr.Read, A: 1, B: 2, Imm: 7},
		"r1 ← [ r2 + r3 ]":                   {Op: instr.ReadAt, A: 1, B: 2, C: 3},
		"[ r2 + 7 ] ← r1":                    {Op: instr.Write, A: 1, B: 2, Imm: 7},
		"[ r2 + r3 ] ← r1":                   {Op: instr.WriteAt, A: 1, B: 2, C: 3},
		"r1 ← new":                           {Op: instr.New, A: 1},
		"free r1":                            {Op: instr.Free, A: 1},
		"ret r1":                             {Op: instr.Return, A: 1},
		"abort 7":                            {Op: instr.Abort, Imm: 7},
		"r0 ← 0":                             {Op: instr.Set},
		"r15 ← r15 + r15":                    {Op: instr.Plus, A: 15, B: 15, C: 15},
		"r10 ← [ r11 + 65 ]":                 {Op: instr.Read, A: 10, B: 11, Imm: 65},
		"r9 ← 18446744073709551615":          {Op: instr.Set, A: 9, Imm: math.MaxUint64},
		"r9 ← arg 18446744073709551615":      {Op: instr.Arg, A: 9, Imm: math.MaxUint64},
		"abort 18446744073709551615":         {Op: instr.Abort, Imm: math.MaxUint64},
		"abort 0":                            {Op: instr.Abort},
		"[ r0 + 18446744073709551615 ] ← r0": {Op: instr.Write, Imm: math.MaxUint64},
	} {
		read(t, text, want)
		read(t, text+"\n", want)
		read(t, "\n # first\n\t"+text+"# "+text+"\n\n", want)
		read(t, strings.NewReplacer(" ← ", "←", " + ", "+", "[ ", "[", " ]", "]", " × ", "×").Replace(text), want)
		if got := asm.Text([]api.Instr{want}); got != text+"\n" {
			t.Errorf("Text(%v): %q, not %q", want, got, text)
		}
	}
}

// P4.1: the kinds that go somewhere, with labels ahead and behind.
func TestGo(t *testing.T) {
	read(t, "go x\nx:", api.Instr{Op: instr.Go, Imm: 1})
	read(t, "zero r3 x\nx:", api.Instr{Op: instr.Zero, A: 3, Imm: 1})
	read(t, "x: # here\nback r3 x", api.Instr{Op: instr.Back, A: 3})
	ret := api.Instr{Op: instr.Return}
	read(t, "ret r0\nx:\ny:\nback r1 x\nback r2 y", ret,
		api.Instr{Op: instr.Back, A: 1, Imm: 1}, api.Instr{Op: instr.Back, A: 2, Imm: 1})
	read(t, "zero r1 out\ngo out\nret r0\n\nout:\nalso:\nret r0", api.Instr{Op: instr.Zero, A: 1, Imm: 3}, api.Instr{Op: instr.Go, Imm: 3}, ret, ret)
	read(t, "a:\nb:\n\nc:")
	read(t, "r1 ← arg 0\nmore:\nr1 ← r1 - r2\nback r1 more\nret r1",
		api.Instr{Op: instr.Arg, A: 1}, api.Instr{Op: instr.Minus, A: 1, B: 1, C: 2}, api.Instr{Op: instr.Back, A: 1, Imm: 1}, api.Instr{Op: instr.Return, A: 1})
}

// P4.1: a text without an instruction has none.
func TestEmpty(t *testing.T) {
	for _, text := range []string{"", "\n", " \t\r\n\n", "# ret r1", "#\n#", "x:", "x:\n"} {
		read(t, text)
	}
}

// P4.1: a register is r0 to r15; what looks like one, but isn't, is a label's name, as is every word without a meaning.
func TestNames(t *testing.T) {
	for n := range 16 {
		name := "r" + strconv.Itoa(n)
		read(t, "ret "+name, api.Instr{Op: instr.Return, A: n})
		refused(t, name+":", 0, api.ErrSyntax)
		refused(t, "go "+name, 0, api.ErrSyntax)
	}
	for _, name := range []string{"arg", "root", "new", "free", "go", "zero", "back", "ret", "abort"} {
		refused(t, name+":", 0, api.ErrSyntax)
		refused(t, "go "+name, 0, api.ErrSyntax)
		refused(t, "zero r1 "+name, 0, api.ErrSyntax)
		refused(t, "back r1 "+name, 0, api.ErrSyntax)
		refused(t, "ret "+name, 0, api.ErrSyntax)
		refused(t, "r1 ← r2 + "+name, 0, api.ErrSyntax)
	}
	for _, name := range []string{"r16", "r99", "r100", "r00", "r01", "r015", "r1.", "r.1", "r1_", "r1_0", "r1a", "rr1", "r", "R1", "x1", "_", "_1", "a.b", "L0", "l", "a", "b", "c", "i", "w", "set", "move", "putroot", "return", "readat", "Go", "RET", "goes", "ab", "r18446744073709551616", "abcdefghijklmnopqrstuvwx"} {
		read(t, "go "+name+"\n"+name+":", api.Instr{Op: instr.Go, Imm: 1})
		read(t, name+":\nback r1 "+name, api.Instr{Op: instr.Back, A: 1})
		refused(t, "ret "+name, 0, api.ErrSyntax)
		refused(t, name+" ← r1", 0, api.ErrSyntax)
		refused(t, "r1 ← "+name, 0, api.ErrSyntax)
		refused(t, name+" r1", 0, api.ErrSyntax)
	}
	for _, wrong := range []string{"7:", "+:", "x x:", "x : :", ": x", "x", ":", "x,", "x =", "x: ret r1", "ret r1 x:"} {
		refused(t, wrong, 0, api.ErrSyntax)
	}
}

// P4.1: a line that lacks a part of its form, or has one too many, or another one in its place.
func TestErrSyntax(t *testing.T) {
	for _, form := range []string{
		"r1 ← 7", "r1 ← r2", "r1 ← r2 + r3", "r1 ← r2 × r3", "r1 ← arg 7", "r1 ← root r2", "root r2 ← r1",
		"r1 ← [ r2 + 7 ]", "r1 ← [ r2 + r3 ]", "[ r2 + 7 ] ← r1", "[ r2 + r3 ] ← r1",
		"r1 ← new", "free r1", "go x", "zero r1 x", "back r1 x", "ret r1", "abort 7",
	} {
		parts := strings.Fields(form)
		for i, part := range parts {
			wrong(t, slices.Delete(slices.Clone(parts), i, i+1))
			for _, other := range []string{"r4", "8", "y", "ret", "root", "new", "←", "+", "[", ":", "$", ","} {
				wrong(t, slices.Insert(slices.Clone(parts), i, other))
				changed := slices.Clone(parts)
				changed[i] = other
				if other != part {
					wrong(t, changed)
				}
			}
		}
		wrong(t, append(slices.Clone(parts), parts...))
	}
	refused(t, "r1 ← r2 + 3", 0, api.ErrSyntax)
	refused(t, "r1 ← 2 + r3", 0, api.ErrSyntax)
	refused(t, "r1 ← [ r2 - 1 ]", 0, api.ErrSyntax)
	refused(t, "r1 ← [ r2 ]", 0, api.ErrSyntax)
	refused(t, "r1 ← [ 1 + r2 ]", 0, api.ErrSyntax)
	refused(t, "[ r2 + 1 ] ← 7", 0, api.ErrSyntax)
	refused(t, "r1 = r2", 0, api.ErrSyntax)
	refused(t, "r1\n← r2", 0, api.ErrSyntax)
	refused(t, "go 1", 0, api.ErrSyntax)
	refused(t, "ret r1 ret r1", 0, api.ErrSyntax)
	refused(t, "return r1", 0, api.ErrSyntax)
	refused(t, "putroot r1 ← r2", 0, api.ErrSyntax)
}

// wrong holds for a line that reads as the plain reading of it, which may be none.
func wrong(t *testing.T, parts []string) {
	t.Helper()
	text := strings.Join(parts, " ")
	want, wantAt, wantE := plainAssemble(text)
	got, at, e := asm.Assemble(text)
	if e != wantE || at != wantAt || !slices.Equal(got, want) {
		t.Errorf("Assemble(%q): %v, error %d at %d, not %v, %d at %d", text, got, e, at, want, wantE, wantAt)
	}
}

// P4.1: an error of the tokens is told as it is, ahead of all others, wherever it stands.
func TestErrorsOfTokens(t *testing.T) {
	refused(t, "ret r1 ?", 7, api.ErrChar)
	refused(t, "x\nx:\nx:\ngo y\nret ?", 17, api.ErrChar)
	refused(t, "wrong\nr1 ← 01", 13, api.ErrNumber)
	refused(t, "wrong\nabort 18446744073709551616", 12, api.ErrNumber)
	refused(t, "wrong\n abcdefghijklmnopqrstuvwxy:", 7, api.ErrWord)
	refused(t, "wrong"+strings.Repeat("\n", 1<<16), 0, api.ErrLong)
	refused(t, "wrong"+strings.Repeat("\n", 1<<14), 5+1<<14-1, api.ErrMany)
	read(t, strings.Repeat("\n", 1<<14-2)+" ret r1", api.Instr{Op: instr.Return, A: 1})
	refused(t, strings.Repeat("\n", 1<<14-1)+" ret r1", 1<<14+4, api.ErrMany)
}

// P4.1: where an error is told: at its line's first token; the first line that has one.
func TestWhere(t *testing.T) {
	refused(t, "\n\n  new: # no label\nwrong", 4, api.ErrSyntax)
	refused(t, "ret r1\n\tret  r16", 8, api.ErrSyntax)
	refused(t, "a:\nb:\n  a:\nb:\nwrong", 8, api.ErrTwice)
	refused(t, "a:\nwrong\na:", 3, api.ErrSyntax)
	refused(t, "a: a:\na:", 0, api.ErrSyntax)
	refused(t, "go x\nret r1 r2", 5, api.ErrSyntax)
	refused(t, "go x\na:\na:", 8, api.ErrTwice)
	refused(t, "ret r1\n go x", 8, api.ErrLabel)
	refused(t, "ret r1\n go x\nback r1 y", 8, api.ErrLabel)
	refused(t, "r1 ← 1\nx: # two bytes more\n  zero r1 y", 31, api.ErrLabel)
	refused(t, "×", 0, api.ErrSyntax)
}

// P4.1: a label that is there, but on the wrong side.
func TestErrLabel(t *testing.T) {
	for _, word := range []string{"go", "zero r1", "back r1"} {
		refused(t, word+" x", 0, api.ErrLabel)
		refused(t, word+" x\nX:", 0, api.ErrLabel)
		refused(t, word+" x\nret r1\nx.:", 0, api.ErrLabel)
	}
	for _, word := range []string{"go", "zero r1"} {
		refused(t, "x:\n"+word+" x", 3, api.ErrLabel)
		refused(t, "x:\nret r1\n"+word+" x", 10, api.ErrLabel)
		refused(t, "ret r1\nx:\n\n"+word+" x\nret r1", 11, api.ErrLabel)
	}
	refused(t, "back r1 x\nx:", 0, api.ErrLabel)
	refused(t, "back r1 x\nret r1\nx:\nret r1", 0, api.ErrLabel)
	refused(t, "ret r1\nback r1 x\nx:\nret r1", 7, api.ErrLabel)
}

// P4.1: as many instructions as there may be, and one more; labels are none.
func TestErrMany(t *testing.T) {
	full := strings.Repeat("ret r0\n", 256)
	code := slices.Repeat([]api.Instr{{Op: instr.Return}}, 256)
	read(t, full, code...)
	read(t, full+"\nx:\ny:\n# ret r0", code...)
	read(t, "x:\n"+full+"y:\n", code...)
	refused(t, full+"ret r0", 1792, api.ErrMany)
	refused(t, full+"x:\n\n go y\ngo y", 1797, api.ErrMany)
	refused(t, full+"wrong", 1792, api.ErrSyntax)
	refused(t, full+"ret r0\nwrong", 1792, api.ErrMany)
	refused(t, full+"wrong\nret r0", 1792, api.ErrSyntax)
	refused(t, "x:\n"+full+"x:\nret r0", 1795, api.ErrTwice)
	refused(t, "x:\n"+full+"ret r0\nx:", 1795, api.ErrMany)
	refused(t, "go x\n"+full, 5+7*255, api.ErrMany)
	last := append(slices.Clone(code[:255]), api.Instr{Op: instr.Go, Imm: 256})
	read(t, full[7:]+"go x\nx:", last...)
	if got := asm.Text(last); got != full[7:]+"go L256\nL256 :\n" {
		t.Errorf("Text of 256: %q", got[len(got)-40:])
	}
	if got := asm.Text(code); got != full {
		t.Errorf("Text of 256: %d bytes", len(got))
	}
	if got := asm.Text(append(code, code[0])); got != "" {
		t.Errorf("Text of 257: %q", got)
	}
	if got := asm.Text(make([]api.Instr, 1<<16)); got != "" {
		t.Errorf("Text of 65536: %q", got)
	}
}

// P4.1: a program's text has a label where one goes, and nowhere else.
func TestText(t *testing.T) {
	ret := api.Instr{Op: instr.Return, A: 3}
	for text, code := range map[string][]api.Instr{
		"": nil,
		"r1 ← arg 0\nL1 :\nr1 ← r1 - r2\nback r1 L1\nret r3\n": {{Op: instr.Arg, A: 1}, {Op: instr.Minus, A: 1, B: 1, C: 2}, {Op: instr.Back, A: 1, Imm: 1}, ret},
		"go L1\nL1 :\n":                                     {{Op: instr.Go, Imm: 1}},
		"zero r2 L1\nL1 :\n":                                {{Op: instr.Zero, A: 2, Imm: 1}},
		"L0 :\nback r2 L0\n":                                {{Op: instr.Back, A: 2}},
		"zero r1 L2\ngo L2\nL2 :\nret r3\n":                 {{Op: instr.Zero, A: 1, Imm: 2}, {Op: instr.Go, Imm: 2}, ret},
		"L0 :\nret r3\nback r1 L0\nL2 :\nback r1 L2\n":      {ret, {Op: instr.Back, A: 1}, {Op: instr.Back, A: 1, Imm: 2}},
		"go L3\nret r3\nret r3\nL3 :\n":                     {{Op: instr.Go, Imm: 3}, ret, ret},
		"go L2\nret r3\nL2 :\nback r1 L2\nret r3\n":         {{Op: instr.Go, Imm: 2}, ret, {Op: instr.Back, A: 1, Imm: 2}, ret},
		"r1 ← 3\nr1 ← arg 2\n[ r1 + 1 ] ← r2\nret r3\n":     {{Op: instr.Set, A: 1, Imm: 3}, {Op: instr.Arg, A: 1, Imm: 2}, {Op: instr.Write, A: 2, B: 1, Imm: 1}, ret},
		"r4 ← [ r5 + 2 ]\nabort 1\nret r3\n":                {{Op: instr.Read, A: 4, B: 5, Imm: 2}, {Op: instr.Abort, Imm: 1}, ret},
		"go L1\nL1 :\ngo L2\nL2 :\nzero r3 L3\nL3 :\n":      {{Op: instr.Go, Imm: 1}, {Op: instr.Go, Imm: 2}, {Op: instr.Zero, A: 3, Imm: 3}},
		"r7 ← 18446744073709551615\nroot r1 ← r2\nret r3\n": {{Op: instr.Set, A: 7, Imm: math.MaxUint64}, {Op: instr.PutRoot, A: 2, B: 1}, ret},
	} {
		if got := asm.Text(code); got != text {
			t.Errorf("Text(%v): %q, not %q", code, got, text)
		}
		read(t, text, code...)
	}
}

// P4.1: programs that have no text.
func TestNoText(t *testing.T) {
	ret := api.Instr{Op: instr.Return}
	for _, in := range []api.Instr{
		{Op: -1}, {Op: 22}, {Op: math.MinInt}, {Op: math.MaxInt},
		{Op: instr.Set, A: 16}, {Op: instr.Set, A: -1}, {Op: instr.Set, B: 1}, {Op: instr.New, Imm: 1}, {Op: instr.Go, A: 1, Imm: 2},
		{Op: instr.Go}, {Op: instr.Go, Imm: 1}, {Op: instr.Go, Imm: 4}, {Op: instr.Go, Imm: 257}, {Op: instr.Go, Imm: math.MaxUint64}, {Op: instr.Go, Imm: 1 << 63},
		{Op: instr.Zero}, {Op: instr.Zero, Imm: 1}, {Op: instr.Zero, Imm: 4}, {Op: instr.Zero, Imm: 1<<32 + 2},
		{Op: instr.Back, Imm: 2}, {Op: instr.Back, Imm: 3}, {Op: instr.Back, Imm: 4}, {Op: instr.Back, Imm: math.MaxUint64},
	} {
		if got := asm.Text([]api.Instr{ret, in, ret}); got != "" {
			t.Errorf("Text with %v: %q", in, got)
		}
	}
	for _, in := range []api.Instr{{Op: instr.Go, Imm: 2}, {Op: instr.Go, Imm: 3}, {Op: instr.Zero, Imm: 3}, {Op: instr.Back}, {Op: instr.Back, Imm: 1}} {
		code := []api.Instr{ret, in, ret}
		if got := asm.Text(code); got == "" {
			t.Errorf("Text with %v: nothing", in)
		} else {
			read(t, got, code...)
		}
	}
}

// plainForms is the document's table of forms, as expressions over a line whose tokens have one blank between.
func plainForms() []string {
	return []string{
		"a ← i", "a ← b", `a ← b \+ c`, "a ← b - c", "a ← b × c", "a ← b % c", "a ← b = c", "a ← b < c",
		"a ← arg i", "a ← root b", "root b ← a", `a ← \[ b \+ i \]`, `a ← \[ b \+ c \]`, `\[ b \+ i \] ← a`, `\[ b \+ c \] ← a`,
		"a ← new", "free a", "go l", "zero a l", "back a l", "ret a", "abort i",
	}
}

// expressions are these forms, ready to be held against lines.
var expressions = func() []*regexp.Regexp {
	const reg = `r(\d|1[0-5])`
	var list []*regexp.Regexp
	for _, form := range plainForms() {
		var b strings.Builder
		for _, part := range strings.Fields(form) {
			switch part {
			case "a", "b", "c":
				part = "(?P<" + part + ">" + reg + ")"
			case "i":
				part = `(?P<i>\d+)`
			case "l":
				part = `(?P<l>[a-zA-Z_][\w.]*)`
			}
			b.WriteString(" " + part)
		}
		list = append(list, regexp.MustCompile("^"+b.String()[1:]+"$"))
	}
	return list
}()

var noLabel = regexp.MustCompile(`^(r(\d|1[0-5])|arg|root|new|free|go|zero|back|ret|abort)$`)

// plainRead is a line's kind and parts, by the expressions; -1 is none.
func plainRead(line string) (int, map[string]string) {
	for op, x := range expressions {
		found := x.FindStringSubmatch(line)
		if found == nil {
			continue
		}
		parts := map[string]string{}
		for i, name := range x.SubexpNames() {
			parts[name] = found[i]
		}
		if !noLabel.MatchString(parts["l"]) {
			return op, parts
		}
	}
	return -1, nil
}

// plainAssemble is what the document says of a text, worked out another way: over printed lines, and in two rounds.
func plainAssemble(text string) ([]api.Instr, int, api.Errno) {
	tokens, at, e := glyph.Lex(text)
	if e != api.OK {
		return nil, at, e
	}
	var code []api.Instr
	var starts []int
	var names []string
	places := map[string]int{}
	for list := range glyph.Lines(tokens) {
		if len(list) == 0 {
			continue
		}
		line, start := glyph.Print(list), list[0].At
		if name, ok := strings.CutSuffix(line, " :"); ok && len(list) == 2 && list[0].Kind == glyph.Word && !noLabel.MatchString(name) {
			if _, ok := places[name]; ok {
				return nil, start, api.ErrTwice
			}
			places[name] = len(code)
			continue
		}
		op, parts := plainRead(line)
		if op < 0 {
			return nil, start, api.ErrSyntax
		}
		if len(code) >= 256 {
			return nil, start, api.ErrMany
		}
		reg := func(name string) int {
			n, _ := strconv.Atoi(strings.TrimPrefix(parts[name], "r"))
			return n
		}
		imm, _ := strconv.ParseUint(parts["i"], 10, 64)
		code = append(code, api.Instr{Op: op, A: reg("a"), B: reg("b"), C: reg("c"), Imm: imm})
		starts, names = append(starts, start), append(names, parts["l"])
	}
	for i := range code {
		if names[i] == "" {
			continue
		}
		place, ok := places[names[i]]
		if !ok || code[i].Op == 19 && place > i || code[i].Op != 19 && place <= i {
			return nil, starts[i], api.ErrLabel
		}
		code[i].Imm = uint64(place)
	}
	return code, 0, api.OK
}

// numbers is a row of numbers that looks like chance, the same ones each time.
type numbers uint64

func (n *numbers) below(limit int) int {
	*n = *n*6364136223846793005 + 1442695040888963407
	return int(uint64(*n) >> 33 % uint64(limit))
}

func (n *numbers) of(list []string) string { return list[n.below(len(list))] }

// line is a form's line, with parts that mostly fit.
func (n *numbers) line() string {
	form := strings.ReplaceAll(n.of(plainForms()), `\`, "")
	var b strings.Builder
	for _, part := range strings.Fields(form) {
		switch part {
		case "a", "b", "c":
			part = "r" + strconv.Itoa(n.below(16))
		case "i":
			part = n.of([]string{"0", "1", "7", "300", "18446744073709551615"})
		case "l":
			part = n.of([]string{"x", "y", "z", "r16", "a.b"})
		}
		if n.below(150) == 0 {
			part = n.of([]string{"", "r16", "r3", "5", "new", "x", "+", "? "})
		}
		b.WriteString(part + n.of([]string{" ", " ", "  ", "\t"}))
	}
	return b.String()
}

// P4.1: any text is read as the document's table is read plainly.
func TestAnyText(t *testing.T) {
	n := numbers(11)
	met := map[api.Errno]int{}
	for range 20000 {
		var b strings.Builder
		for range n.below(8) {
			switch n.below(5) {
			case 0:
				b.WriteString(n.of([]string{"x", "y", "z", "r16", "a.b", "new"}) + ":")
			case 1:
				b.WriteString(n.of([]string{"", " ", "# remark", "  # x:"}))
			default:
				b.WriteString(n.line())
			}
			b.WriteString("\n")
		}
		text := b.String()
		want, wantAt, wantE := plainAssemble(text)
		got, at, e := asm.Assemble(text)
		if e != wantE || at != wantAt || !slices.Equal(got, want) {
			t.Fatalf("Assemble(%q): %v, error %d at %d, not %v, %d at %d", text, got, e, at, want, wantE, wantAt)
		}
		met[e]++
	}
	for _, e := range []api.Errno{api.OK, api.ErrSyntax, api.ErrTwice, api.ErrLabel, api.ErrChar} {
		if met[e] < 100 {
			t.Errorf("error %d was met %d times", e, met[e])
		}
	}
}

// program is a program that has a text.
func (n *numbers) program(size int) []api.Instr {
	code := make([]api.Instr, size)
	for at := range code {
		op := n.below(22)
		a, b, c, imm := instr.Uses(op)
		in := api.Instr{Op: op}
		for _, part := range []struct {
			has bool
			reg *int
		}{{a, &in.A}, {b, &in.B}, {c, &in.C}} {
			if part.has {
				*part.reg = n.below(16)
			}
		}
		switch {
		case op == instr.Back:
			in.Imm = uint64(n.below(at + 1))
		case op == instr.Go || op == instr.Zero:
			in.Imm = uint64(at + 1 + n.below(size-at))
		case imm:
			in.Imm = uint64(n.below(1<<20)) << n.below(45)
		}
		code[at] = in
	}
	return code
}

// plainText is a program's text, worked out another way: it is put together line by line.
func plainText(code []api.Instr) string {
	goals := map[int]bool{}
	for _, in := range code {
		if in.Op >= 17 && in.Op <= 19 {
			goals[int(in.Imm)] = true
		}
	}
	var b strings.Builder
	for i := 0; i <= len(code); i++ {
		if goals[i] {
			b.WriteString("L" + strconv.Itoa(i) + " :\n")
		}
		if i == len(code) {
			break
		}
		for k, part := range strings.Fields(strings.ReplaceAll(plainForms()[code[i].Op], `\`, "")) {
			if k > 0 {
				b.WriteString(" ")
			}
			switch part {
			case "a":
				part = "r" + strconv.Itoa(code[i].A)
			case "b":
				part = "r" + strconv.Itoa(code[i].B)
			case "c":
				part = "r" + strconv.Itoa(code[i].C)
			case "i":
				part = strconv.FormatUint(code[i].Imm, 10)
			case "l":
				part = "L" + strconv.FormatUint(code[i].Imm, 10)
			}
			b.WriteString(part)
		}
		b.WriteString("\n")
	}
	return b.String()
}

// P4.1, P4.2: a program's text is as the document lays it, and is read as the program, whatever its labels are called.
func TestTextIsRead(t *testing.T) {
	n := numbers(17)
	label := regexp.MustCompile(`L\d+`)
	for round := range 300 {
		code := n.program(round % 257)
		text := asm.Text(code)
		if want := plainText(code); text != want {
			t.Fatalf("Text(%v): %q, not %q", code, text, want)
		}
		read(t, text, code...)
		for _, name := range []func(string) string{
			func(l string) string { return "r1" + l[1:] + "_" },
			func(l string) string { return "_." + l[1:] },
			func(l string) string { return "r" + strconv.Itoa(16+len(l)) + l[1:] },
			strings.ToLower,
		} {
			read(t, label.ReplaceAllStringFunc(text, name), code...)
		}
	}
}

// P4.2: what is read of a text, printed and read again, is the same program.
func TestReadTextRead(t *testing.T) {
	n := numbers(23)
	done := 0
	for range 20000 {
		var b strings.Builder
		for range 1 + n.below(5) {
			b.WriteString(n.of([]string{"", "", "x:\n", "y:\n"}) + n.line() + "\n")
		}
		code, _, e := asm.Assemble(b.String() + n.of([]string{"", "z:\n"}))
		if e == api.OK {
			done++
			read(t, asm.Text(code), code...)
		}
	}
	if done < 2000 {
		t.Errorf("only %d texts were read", done)
	}
}

// P2: what is handed in isn't changed, the memory behind its length neither; what is answered is new.
func TestApart(t *testing.T) {
	held := []api.Instr{{Op: instr.Go, Imm: 1}, {Op: instr.Return, A: 1}, {Op: 99}}
	kept := slices.Clone(held)
	if asm.Text(held[:2]) == "" || !slices.Equal(held, kept) {
		t.Errorf("Text turned what it was handed: %v", held)
	}
	const text = "go x\nx:\nret r1"
	first, _, _ := asm.Assemble(text)
	second, _, _ := asm.Assemble(text)
	clear(second[:cap(second)])
	if !slices.Equal(first, kept[:2]) {
		t.Errorf("two answers share memory: %v", first)
	}
}
