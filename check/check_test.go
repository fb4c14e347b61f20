package check_test

import (
	"math"
	"slices"
	"testing"

	"tumbler/api"
	"tumbler/asm"
	"tumbler/check"
	"tumbler/instr"
)

var (
	end  = api.Instr{Op: instr.Return}
	move = api.Instr{Op: instr.Move, A: 1, B: 2}
	odd  = api.Instr{Op: instr.Move, C: 1}
)

// code is a text's program.
func code(t *testing.T, text string) []api.Instr {
	t.Helper()
	out, at, e := asm.Assemble(text)
	if e != api.OK {
		t.Fatalf("Assemble(%q): error %d at %d", text, e, at)
	}
	return out
}

// long is a program of so many instructions that ends as it should.
func long(n int) []api.Instr {
	list := make([]api.Instr, n)
	list[n-1] = end
	return list
}

// fault holds for a program that is wrong at a place, or, with OK, for one that is right.
func fault(t *testing.T, list []api.Instr, at int, e api.Errno) {
	t.Helper()
	gotAt, got := check.Fault(list)
	if gotAt != at || got != e {
		t.Errorf("Fault(%.200v): error %d at %d, not %d at %d", list, got, gotAt, e, at)
	}
	right := e == api.OK
	if check.Right(list) != right {
		t.Errorf("Right(%.200v): %v", list, !right)
	}
	if right {
		return
	}
	if check.Reads(list) {
		t.Errorf("Reads(%.200v), which isn't right", list)
	}
	if met := check.Reach(list); len(met) != 0 {
		t.Errorf("Reach(%.200v), which isn't right: %v", list, met)
	}
	if n, ok := check.Longest(list); n != 0 || ok {
		t.Errorf("Longest(%.200v), which isn't right: %d, %v", list, n, ok)
	}
}

// P5.1: how many instructions there may be, which is looked for ahead of all else.
func TestHowMany(t *testing.T) {
	fault(t, nil, 0, api.ErrNone)
	fault(t, []api.Instr{}, 0, api.ErrNone)
	for _, n := range []int{1, 2, 3, 255, 256} {
		fault(t, long(n), 0, api.OK)
	}
	for _, n := range []int{257, 258, 512, 1 << 16, 1<<16 + 1} {
		fault(t, long(n), 256, api.ErrMany)
		fault(t, make([]api.Instr, n), 256, api.ErrMany)
		wrong := long(n)
		wrong[0] = odd
		fault(t, wrong, 256, api.ErrMany)
	}
}

// P5.1: of which kind the last instruction is.
func TestLast(t *testing.T) {
	for op := range instr.Kinds {
		last := api.Instr{Op: op}
		switch op {
		case instr.Return:
			fault(t, []api.Instr{last}, 0, api.OK)
			fault(t, []api.Instr{move, last}, 0, api.OK)
		case instr.Abort:
			last.Imm = 1
			fault(t, []api.Instr{last}, 0, api.OK)
			fault(t, []api.Instr{move, last}, 0, api.OK)
		case instr.Go, instr.Zero:
			// Behind the last one there is no place to go to.
			for imm := range uint64(4) {
				last.Imm = imm
				fault(t, []api.Instr{last}, 0, api.ErrLabel)
				fault(t, []api.Instr{end, last}, 1, api.ErrLabel)
			}
		default:
			fault(t, []api.Instr{last}, 0, api.ErrCode)
			fault(t, []api.Instr{end, last}, 1, api.ErrCode)
			fault(t, []api.Instr{move, end, last}, 2, api.ErrCode)
		}
	}
	list := long(256)
	list[255] = move
	fault(t, list, 255, api.ErrCode)
}

// P5.1: an instruction that isn't plain, of each kind and of none.
func TestNotPlain(t *testing.T) {
	for op := range instr.Kinds {
		a, b, c, imm := instr.Uses(op)
		for field, used := range []bool{a, b, c} {
			for _, reg := range []int{-1, 1, 15, 16, math.MaxInt, math.MinInt} {
				i := api.Instr{Op: op, Imm: fitting(op, 1)}
				*[]*int{&i.A, &i.B, &i.C}[field] = reg
				if used && reg >= 0 && reg < 16 {
					fault(t, []api.Instr{move, i, end}, 0, api.OK)
				} else {
					fault(t, []api.Instr{move, i, end}, 1, api.ErrCode)
				}
			}
		}
		if !imm {
			fault(t, []api.Instr{move, {Op: op, Imm: 1}, end}, 1, api.ErrCode)
		}
	}
	for _, op := range []int{-1, 22, 23, 99, 1 << 32, math.MaxInt, math.MinInt} {
		fault(t, []api.Instr{{Op: op}}, 0, api.ErrCode)
		fault(t, []api.Instr{{Op: op}, end}, 0, api.ErrCode)
		fault(t, []api.Instr{move, end, {Op: op}}, 2, api.ErrCode)
	}
}

// fitting is a number that an instruction of a kind may have at a place that has one behind it.
func fitting(op, at int) uint64 {
	switch op {
	case instr.Go, instr.Zero:
		return uint64(at) + 1
	case instr.Abort:
		return 255
	}
	return 0
}

// P5.1: which numbers may stand in the kinds that have some.
func TestNumbers(t *testing.T) {
	for _, imm := range []uint64{0, 1, 2, 3, 4, 5, 6, 7, 8, 9, 15, 16, 254, 255, 256, 257, 511, 1 << 16, 1<<16 + 1, 1 << 32, 1<<32 + 1, 1 << 63, 1<<63 + 1, math.MaxUint64} {
		number := func(op int, ok bool) {
			t.Helper()
			i := api.Instr{Op: op, Imm: imm}
			if ok {
				fault(t, []api.Instr{move, i, end}, 0, api.OK)
				fault(t, []api.Instr{i, end}, 0, api.OK)
				return
			}
			fault(t, []api.Instr{move, i, end}, 1, api.ErrArg)
			fault(t, []api.Instr{i, end}, 0, api.ErrArg)
		}
		number(instr.Set, true)
		number(instr.Arg, imm < 4)
		number(instr.Read, imm < 8)
		number(instr.Write, imm < 8)
		number(instr.Abort, imm != 0 && imm < 256)
	}
	// At the end, too.
	for _, imm := range []uint64{0, 256, math.MaxUint64} {
		fault(t, []api.Instr{end, {Op: instr.Abort, Imm: imm}}, 1, api.ErrArg)
	}
}

// P5.1: where the kinds that go somewhere may go, from each place of programs of several lengths.
func TestPlaces(t *testing.T) {
	for _, n := range []int{1, 2, 3, 4, 7, 255, 256} {
		for at := range n {
			if n > 7 && at > 2 && at < n-3 {
				continue
			}
			goals := []uint64{0, 1, uint64(at) - 1, uint64(at), uint64(at) + 1, uint64(at) + 2, uint64(n) - 2, uint64(n) - 1, uint64(n), uint64(n) + 1, 1 << 32, 1<<32 + uint64(at) + 1, 1 << 63, math.MaxUint64}
			for _, goal := range goals {
				behind := goal > uint64(at) && goal < uint64(n)
				place(t, n, at, api.Instr{Op: instr.Go, Imm: goal}, behind)
				place(t, n, at, api.Instr{Op: instr.Zero, A: 15, Imm: goal}, behind)
				place(t, n, at, api.Instr{Op: instr.Back, A: 15, Imm: goal}, goal <= uint64(at))
			}
		}
	}
}

// place holds for a program of so many with an instruction at a place that may stand there, or mustn't.
func place(t *testing.T, n, at int, i api.Instr, ok bool) {
	t.Helper()
	list := long(n)
	list[at] = i
	switch {
	case !ok:
		fault(t, list, at, api.ErrLabel)
	case at == n-1:
		fault(t, list, at, api.ErrCode)
	default:
		fault(t, list, 0, api.OK)
	}
}

// P5.1: where several things are wrong, the first instruction's is told, and that of the last one's kind at last.
func TestOrder(t *testing.T) {
	arg := api.Instr{Op: instr.Arg, Imm: 4}
	label := api.Instr{Op: instr.Go, Imm: 9}
	fault(t, []api.Instr{odd, arg, label}, 0, api.ErrCode)
	fault(t, []api.Instr{arg, odd, label}, 0, api.ErrArg)
	fault(t, []api.Instr{label, arg, odd}, 0, api.ErrLabel)
	fault(t, []api.Instr{move, label, arg}, 1, api.ErrLabel)
	fault(t, []api.Instr{move, arg, move}, 1, api.ErrArg)
	fault(t, []api.Instr{arg, move}, 0, api.ErrArg)
	fault(t, []api.Instr{move, label, move}, 1, api.ErrLabel)
	fault(t, []api.Instr{end, odd, end}, 1, api.ErrCode)
	// Of one instruction: that it isn't plain comes first.
	fault(t, []api.Instr{{Op: instr.Arg, C: 1, Imm: 4}, end}, 0, api.ErrCode)
	fault(t, []api.Instr{{Op: instr.Read, C: 1, Imm: 8}, end}, 0, api.ErrCode)
	fault(t, []api.Instr{{Op: instr.Write, A: 16, Imm: 8}, end}, 0, api.ErrCode)
	fault(t, []api.Instr{{Op: instr.Abort, A: 1}, end}, 0, api.ErrCode)
	fault(t, []api.Instr{{Op: instr.Go, A: 1}, end}, 0, api.ErrCode)
	fault(t, []api.Instr{{Op: instr.Zero, B: 1}, end}, 0, api.ErrCode)
	fault(t, []api.Instr{{Op: instr.Back, B: 1, Imm: 9}, end}, 0, api.ErrCode)
	// The last one: what is wrong with it as such comes ahead of its kind.
	fault(t, []api.Instr{move, arg}, 1, api.ErrArg)
	fault(t, []api.Instr{move, label}, 1, api.ErrLabel)
	fault(t, []api.Instr{move, {Op: instr.Back, Imm: 2}}, 1, api.ErrLabel)
	fault(t, []api.Instr{move, {Op: instr.Back, Imm: 1}}, 1, api.ErrCode)
}

// P5.1: which kinds write, wherever they stand.
func TestReads(t *testing.T) {
	for op := range instr.Kinds {
		writes := slices.Contains([]int{10, 13, 14, 15, 16}, op)
		i := api.Instr{Op: op, Imm: fitting(op, 1)}
		for _, list := range [][]api.Instr{{move, i, end}, {end, i, end}} {
			if got := check.Reads(list); got == writes {
				t.Errorf("Reads(%v): %v", list, got)
			}
		}
	}
	reads := func(text string, want bool) {
		t.Helper()
		if got := check.Reads(code(t, text)); got != want {
			t.Errorf("Reads(%q): %v", text, got)
		}
	}
	reads("ret r0", true)
	reads("abort 7", true)
	reads("r1 ← root r2\nr3 ← [ r1 + 1 ]\nr4 ← [ r1 + r3 ]\nret r4", true)
	reads("r1 ← root r2\nret r1\nroot r2 ← r1\nret r1", false)
	reads("go x\nfree r1\nx:\nret r1", false)
	reads("r1 ← r2", false)
	reads("r1 ← arg 4\nret r1", false)
}

// P5.1: what instructions of each kind write.
func TestCosts(t *testing.T) {
	want := map[int]int{10: 1, 13: 1, 14: 1, 15: 9, 16: 2}
	for op := range 32 {
		if got := check.Costs(op); got != want[op] {
			t.Errorf("Costs(%d): %d, not %d", op, got, want[op])
		}
	}
	for _, op := range []int{-1, -10, -15, 256 + 10, 256 + 15, 1<<32 + 16, math.MaxInt, math.MinInt} {
		if got := check.Costs(op); got != 0 {
			t.Errorf("Costs(%d): %d", op, got)
		}
	}
}

// P5.1: which instructions are come to, and how many are done at most; -1: one that goes back is come to.
func TestWays(t *testing.T) {
	for _, c := range []struct {
		text, met string
		most      int
	}{
		{"zero r1 x\nret r1\nx:\nabort 7", "yyy", 2},
		{"ret r1", "y", 1},
		{"abort 1", "y", 1},
		{"ret r1\nret r1", "yn", 1},
		{"abort 1\nret r1", "yn", 1},
		{"r1 ← 1\nr2 ← 2\nret r1\nabort 2", "yyyn", 3},
		{"go x\nr1 ← 1\nr2 ← 2\nx:\nret r1", "ynny", 2},
		{"go x\nx:\nret r1", "yy", 2},
		{"zero r1 x\nx:\nret r1", "yy", 2},
		{"zero r1 x\nr1 ← 1\nr2 ← 2\nx:\nret r1", "yyyy", 4},
		{"zero r1 x\nret r1\nx:\nr1 ← 1\nr2 ← 2\nret r2", "yyyyy", 4},
		{"zero r1 x\nr1 ← 1\nret r1\nx:\nret r2", "yyyy", 3},
		{"zero r1 a\ngo b\na:\nabort 3\nr1 ← 1\nb:\nr2 ← 1\nret r2", "yyynyy", 4},
		{"go a\nb:\nr1 ← 1\nret r1\na:\nback r1 b\nret r2", "yyyyy", -1},
		{"x:\nr1 ← 1\nback r1 x\nret r1", "yyy", -1},
		{"x:\nback r1 x\nret r1", "yy", -1},
		{"ret r1\nx:\nback r1 x\nret r1", "ynn", 1},
		{"go y\nx:\nback r1 x\ny:\nret r1", "yny", 2},
		{"zero r1 y\nret r1\ny:\nx:\nback r1 x\nret r1", "yyyy", -1},
		// Dead code that leads to what is come to adds nothing.
		{"go y\nr1 ← 1\nr1 ← 1\nr1 ← 1\ny:\nr1 ← 1\nret r1", "ynnnyy", 3},
		{"go y\nx:\nr1 ← 1\nback r1 x\ny:\nret r1", "ynny", 2},
	} {
		var want []bool
		for _, sign := range c.met {
			want = append(want, sign == 'y')
		}
		list := code(t, c.text)
		if got := check.Reach(list); !slices.Equal(got, want) {
			t.Errorf("Reach(%q): %v, not %v", c.text, got, want)
		}
		n, ok := check.Longest(list)
		if c.most < 0 && (n != 0 || ok) || c.most >= 0 && (n != c.most || !ok) {
			t.Errorf("Longest(%q): %d, %v, not %d", c.text, n, ok, c.most)
		}
	}
}

// P5.1: of what isn't right nothing is said, whatever is wrong with it.
func TestWaysOfWrong(t *testing.T) {
	fault(t, code(t, "ret r1\nr1 ← r2"), 1, api.ErrCode)
	fault(t, code(t, "ret r1\nabort 0\nret r1"), 1, api.ErrArg)
	fault(t, []api.Instr{end, {Op: instr.Go, Imm: 1}, end}, 1, api.ErrLabel)
}

// P1, P5.1: programs with more ways than could ever be gone are told of all the same.
func TestManyWays(t *testing.T) {
	list := long(256)
	for at := range 254 {
		list[at] = api.Instr{Op: instr.Zero, A: at % 16, Imm: uint64(at) + 2}
	}
	if n, ok := check.Longest(list); n != 256 || !ok {
		t.Errorf("Longest: %d, %v", n, ok)
	}
	if met := check.Reach(list); len(met) != 256 || slices.Contains(met, false) {
		t.Errorf("Reach: %v", met)
	}
	list[254] = api.Instr{Op: instr.Back}
	if n, ok := check.Longest(list); n != 0 || ok {
		t.Errorf("Longest, with a way back: %d, %v", n, ok)
	}
	if met := check.Reach(list); len(met) != 256 || slices.Contains(met, false) {
		t.Errorf("Reach, with a way back: %v", met)
	}
	// Through a way back to what no way ahead leads to.
	list = long(256)
	list[0] = api.Instr{Op: instr.Go, Imm: 254}
	list[254] = api.Instr{Op: instr.Back, Imm: 1}
	if met := check.Reach(list); len(met) != 256 || slices.Contains(met, false) {
		t.Errorf("Reach, from behind: %v", met)
	}
}

// numbers is a row of numbers that looks like chance, the same ones each time.
type numbers uint64

func (n *numbers) below(limit int) int {
	*n = *n*6364136223846793005 + 1442695040888963407
	return int(uint64(*n) >> 33 % uint64(limit))
}

// program is a program that may well be right; its numbers are near their bounds.
func (n *numbers) program() []api.Instr {
	list := make([]api.Instr, 1+n.below(9))
	for at := range list {
		i := api.Instr{Op: n.below(22)}
		if at == len(list)-1 && n.below(8) > 0 {
			i.Op = instr.Return
		}
		switch i.Op {
		case instr.Go, instr.Zero:
			i.Imm = uint64(at + 1 + n.below(max(1, len(list)-at-1)))
		case instr.Back:
			i.Imm = uint64(n.below(at + 1))
		case instr.Abort:
			i.Imm = uint64(1 + n.below(255))
		}
		if n.below(40) == 0 {
			i.Imm = uint64(n.below(12))
		}
		list[at] = i
	}
	return list
}

// leads is where a program may go on behind an instruction, by the chapter's words; it may lead out of it.
func leads(i api.Instr, at int) []uint64 {
	next := uint64(at) + 1
	switch i.Op {
	case 17:
		return []uint64{i.Imm}
	case 18, 19:
		return []uint64{i.Imm, next}
	case 20, 21:
		return nil
	}
	return []uint64{next}
}

// walk goes a program's ways, each place once, and tells which were met, and whether each led to an instruction.
func walk(list []api.Instr) ([]bool, bool) {
	met := make([]bool, len(list))
	met[0] = true
	within := true
	for range list {
		for at, i := range list {
			for _, to := range leads(i, at) {
				if !met[at] {
					continue
				}
				if to >= uint64(len(list)) {
					within = false
					continue
				}
				met[to] = true
			}
		}
	}
	return met, within
}

// most is how many instructions are done at most from a place on, each way gone to its end.
func most(list []api.Instr, at int) int {
	n := 0
	for _, to := range leads(list[at], at) {
		n = max(n, most(list, int(to)))
	}
	return n + 1
}

// P5.1, P5.2: of programs by chance, those that are right stay within themselves, and what is told of their ways is so.
func TestAnyProgram(t *testing.T) {
	n := numbers(7)
	right, straight := 0, 0
	for range 40000 {
		list := n.program()
		if !check.Right(list) {
			continue
		}
		right++
		met, within := walk(list)
		if !within {
			t.Fatalf("%v leads out of itself", list)
		}
		if got := check.Reach(list); !slices.Equal(got, met) {
			t.Fatalf("Reach(%v): %v, not %v", list, got, met)
		}
		back := false
		for at, i := range list {
			back = back || met[at] && i.Op == 19
		}
		want := 0
		if !back {
			straight++
			want = most(list, 0)
		}
		if got, ok := check.Longest(list); got != want || ok == back {
			t.Fatalf("Longest(%v): %d, %v, not %d", list, got, ok, want)
		}
	}
	if right < 1000 || straight < 1000 {
		t.Errorf("only %d right, %d straight", right, straight)
	}
}

// P5.1, P5.2: of all programs of up to three instructions, with numbers up to 3, so many are right, and none of these leads out of itself.
func TestSmallPrograms(t *testing.T) {
	var all []api.Instr
	for op := range instr.Kinds {
		_, _, _, imm := instr.Uses(op)
		for n := range uint64(4) {
			if imm || n == 0 {
				all = append(all, api.Instr{Op: op, Imm: n})
			}
		}
	}
	right := 0
	hold := func(list ...api.Instr) {
		if !check.Right(list) {
			return
		}
		right++
		for at, i := range list {
			for _, to := range leads(i, at) {
				if to >= uint64(len(list)) {
					t.Fatalf("%v leads out of itself", list)
				}
			}
		}
	}
	for _, a := range all {
		hold(a)
		for _, b := range all {
			hold(a, b)
			for _, c := range all {
				hold(a, b, c)
			}
		}
	}
	// Four may be the last one: return, and abort 1 to 3. Elsewhere abort 0 mayn't stand, and of go, zero and back those the wrong way.
	const (
		last        = 4
		firstOfTwo  = 46 - 1 - 3 - 3 - 3
		firstOf3    = 46 - 1 - 2 - 2 - 3
		secondOf3   = 46 - 1 - 3 - 3 - 2
		countOfThem = last + firstOfTwo*last + firstOf3*secondOf3*last
	)
	if len(all) != 46 || right != countOfThem {
		t.Errorf("of %d: %d right, not %d", len(all), right, countOfThem)
	}
}

// P2: what is handed in isn't turned, and what is answered is the caller's own.
func TestApart(t *testing.T) {
	list := code(t, "zero r1 x\nret r1\nx:\nabort 7\nr1 ← 1\nret r1")
	kept := slices.Clone(list)
	first := check.Reach(list[:3])
	clear(first[:cap(first)])
	if got := check.Reach(list[:3]); !slices.Equal(got, []bool{true, true, true}) {
		t.Errorf("an answer of Reach is shared: %v", got)
	}
	check.Fault(list[:3])
	check.Reads(list[:3])
	check.Longest(list[:3])
	if !slices.Equal(list, kept) {
		t.Errorf("what was handed in was turned: %v", list)
	}
}
