package model_test

import (
	"maps"
	"math"
	"slices"
	"testing"

	"tumbler/api"
	"tumbler/asm"
	"tumbler/instr"
	"tumbler/model"
)

type (
	args  = [api.Args]uint64
	regs  = [api.Regs]uint64
	roots = [api.Roots]uint64
)

// plenty is more fuel, and more words, than a program here asks for.
const plenty = 1000

// code is a text's program.
func code(t *testing.T, text string) []api.Instr {
	t.Helper()
	out, at, e := asm.Assemble(text)
	if e != api.OK {
		t.Fatalf("Assemble(%q): error %d at %d", text, e, at)
	}
	return out
}

// some is a state with roots and three blocks, one of them of a handle that no program takes.
func some() *model.State {
	return model.Of(roots{0: 5, 2: 7, 15: 99}, map[uint64]model.Block{
		5:    {10, 11, 12, 13, 14, 15, 16, 17},
		64:   {7: math.MaxUint64},
		1000: {},
	})
}

// holds holds for a state of just these roots and blocks.
func holds(t *testing.T, s *model.State, r roots, blocks map[uint64]model.Block) {
	t.Helper()
	for k := range r {
		if got := s.Root(k); got != r[k] {
			t.Errorf("root %d: %d, not %d", k, got, r[k])
		}
	}
	want := slices.Sorted(maps.Keys(blocks))
	if got := s.Handles(); !slices.Equal(got, want) {
		t.Errorf("handles %v, not %v", got, want)
	}
	for h, b := range blocks {
		if got, ok := s.Block(h); got != b || !ok {
			t.Errorf("block %d: %v, %v, not %v", h, got, ok, b)
		}
	}
	if !s.Same(model.Of(r, blocks)) {
		t.Errorf("it isn't the state of %v and %v", r, blocks)
	}
}

// P6.1: a new state has roots of noughts, and no blocks.
func TestNew(t *testing.T) {
	holds(t, model.New(), roots{}, nil)
	if b, ok := model.New().Block(0); b != (model.Block{}) || ok {
		t.Errorf("a block of nobody: %v, %v", b, ok)
	}
}

// P6.1: a state of roots and blocks, but one of the handle 0.
func TestOf(t *testing.T) {
	r := roots{0: 1, 7: math.MaxUint64, 15: 3}
	blocks := map[uint64]model.Block{1: {1}, 64: {2}, 65: {}, math.MaxUint64: {7: 4}}
	holds(t, model.Of(r, blocks), r, blocks)
	holds(t, model.Of(r, nil), r, nil)
	holds(t, model.Of(roots{}, map[uint64]model.Block{}), roots{}, nil)
	s := model.Of(r, map[uint64]model.Block{0: {9}, 3: {8}})
	if b, ok := s.Block(0); b != (model.Block{}) || ok {
		t.Errorf("a block of the handle 0: %v, %v", b, ok)
	}
	if got := s.Handles(); !slices.Equal(got, []uint64{3}) {
		t.Errorf("handles %v", got)
	}
	if !s.Same(model.Of(r, map[uint64]model.Block{3: {8}})) {
		t.Error("a block of the handle 0 makes a difference")
	}
	for _, text := range []string{"r1 ← [ r0 + 0 ]", "r1 ← [ r0 + r0 ]", "[ r0 + 0 ] ← r1", "[ r0 + r0 ] ← r1", "free r0"} {
		if d := s.Run(code(t, text+"\nret r1"), args{}, plenty, plenty, nil); d.Result != (api.Result{Code: api.ErrHandle}) {
			t.Errorf("%q: %v", text, d)
		}
	}
}

// P6.1: roots that there are, and others; blocks that there are, and others.
func TestRootAndBlock(t *testing.T) {
	r := roots{}
	for k := range r {
		r[k] = uint64(100 + k)
	}
	s := model.Of(r, map[uint64]model.Block{5: {1, 2, 3, 4, 5, 6, 7, 8}})
	for k := range r {
		if got := s.Root(k); got != uint64(100+k) {
			t.Errorf("Root(%d): %d", k, got)
		}
	}
	for _, k := range []int{-1, 16, 17, 256, 1 << 32, math.MaxInt, math.MinInt} {
		if got := s.Root(k); got != 0 {
			t.Errorf("Root(%d): %d", k, got)
		}
	}
	if b, ok := s.Block(5); b != (model.Block{1, 2, 3, 4, 5, 6, 7, 8}) || !ok {
		t.Errorf("Block(5): %v, %v", b, ok)
	}
	for _, h := range []uint64{0, 1, 4, 6, 64, 261, 1<<32 + 5, math.MaxUint64} {
		if b, ok := s.Block(h); b != (model.Block{}) || ok {
			t.Errorf("Block(%d): %v, %v", h, b, ok)
		}
	}
}

// P6.1: all handles rise, however many there are.
func TestHandles(t *testing.T) {
	blocks := map[uint64]model.Block{math.MaxUint64: {}, 1 << 63: {}}
	want := []uint64{}
	for h := range uint64(200) {
		blocks[h*37+1] = model.Block{h}
		want = append(want, h*37+1)
	}
	want = append(want, 1<<63, math.MaxUint64)
	s := model.Of(roots{}, blocks)
	if got := s.Handles(); !slices.Equal(got, want) {
		t.Errorf("%v", got)
	}
}

// P6.1: what makes two states differ.
func TestSame(t *testing.T) {
	base := func() (roots, map[uint64]model.Block) {
		return roots{1: 2}, map[uint64]model.Block{3: {1, 2}, 4: {}}
	}
	r, blocks := base()
	s := model.Of(r, blocks)
	same := func(want bool, turn func(r *roots, blocks map[uint64]model.Block)) {
		t.Helper()
		r, blocks := base()
		turn(&r, blocks)
		o := model.Of(r, blocks)
		if s.Same(o) != want || o.Same(s) != want {
			t.Errorf("of %v and %v: Same: %v, %v", r, blocks, s.Same(o), o.Same(s))
		}
	}
	same(true, func(r *roots, blocks map[uint64]model.Block) {})
	for k := range r {
		same(false, func(r *roots, blocks map[uint64]model.Block) { r[k] += 1 << (k * 4) })
	}
	for w := range 8 {
		same(false, func(r *roots, blocks map[uint64]model.Block) {
			b := blocks[3]
			b[w] += 1 << (w * 8)
			blocks[3] = b
		})
	}
	same(false, func(r *roots, blocks map[uint64]model.Block) { delete(blocks, 4) })
	same(false, func(r *roots, blocks map[uint64]model.Block) { blocks[5] = model.Block{} })
	same(false, func(r *roots, blocks map[uint64]model.Block) { delete(blocks, 4); blocks[5] = model.Block{} })
	same(false, func(r *roots, blocks map[uint64]model.Block) { blocks[3], blocks[4] = blocks[4], blocks[3] })
	same(false, func(r *roots, blocks map[uint64]model.Block) { clear(blocks) })
	same(true, func(r *roots, blocks map[uint64]model.Block) { blocks[0] = model.Block{1} })
	if !s.Same(s) || !model.New().Same(model.New()) || s.Same(model.New()) || s.Same(nil) {
		t.Error("Same of itself, of none, or of nothing")
	}
}

// P6.1, P2: what a state was made of, and what was made of it, goes its own way.
func TestApart(t *testing.T) {
	blocks := map[uint64]model.Block{5: {1}, 6: {2}}
	s := model.Of(roots{1: 1}, blocks)
	blocks[5] = model.Block{9}
	delete(blocks, 6)
	blocks[7] = model.Block{}
	was := map[uint64]model.Block{5: {1}, 6: {2}}
	holds(t, s, roots{1: 1}, was)

	turn := code(t, "r1 ← 5\nr2 ← 77\n[ r1 + 3 ] ← r2\nr3 ← new\nroot r3 ← r2\nr4 ← 6\nfree r4\nret r3")
	turned := map[uint64]model.Block{5: {0: 1, 3: 77}, 8: {}}
	c := s.Clone()
	holds(t, c, roots{1: 1}, was)
	if d := c.Run(turn, args{}, plenty, plenty, []uint64{8}); d.Result != (api.Result{Val: 8}) {
		t.Fatalf("%v", d)
	}
	holds(t, s, roots{1: 1}, was)
	holds(t, c, roots{1: 1, 8: 77}, turned)
	c = s.Clone()
	s.Run(turn, args{}, plenty, plenty, []uint64{8})
	holds(t, c, roots{1: 1}, was)
	holds(t, s, roots{1: 1, 8: 77}, turned)

	list := s.Handles()
	clear(list[:cap(list)])
	holds(t, s, roots{1: 1, 8: 77}, turned)
}

// P2: what a run is handed isn't turned, and what it answers shares nothing with it.
func TestRunApart(t *testing.T) {
	pick := []uint64{3, 4, 5, 6, 7}
	program := code(t, "r1 ← new\nr1 ← new\nr1 ← new\nret r1")
	room := append(slices.Clone(program), api.Instr{Op: 99})
	s := model.New()
	d := s.Run(room[:len(program)], args{}, plenty, plenty, pick[:4])
	if !slices.Equal(d.News, []uint64{3, 4, 5}) {
		t.Errorf("%v", d)
	}
	if !slices.Equal(pick, []uint64{3, 4, 5, 6, 7}) || !slices.Equal(room[:4], program) || room[4] != (api.Instr{Op: 99}) {
		t.Errorf("what was handed in was turned: %v, %v", pick, room)
	}
	clear(pick)
	if !slices.Equal(d.News, []uint64{3, 4, 5}) {
		t.Errorf("the new handles are those that were handed in: %v", d.News)
	}
	pick = []uint64{10, 11, 12}
	d = s.Run(program, args{}, plenty, plenty, pick)
	clear(d.News[:cap(d.News)])
	if !slices.Equal(pick, []uint64{10, 11, 12}) || !slices.Equal(s.Handles(), []uint64{3, 4, 5, 10, 11, 12}) {
		t.Errorf("what was answered is shared: %v, %v", pick, s.Handles())
	}
}

// P6.1: the chapter's example.
func TestExample(t *testing.T) {
	s := model.New()
	d := s.Run(code(t, "r1 ← new\nr2 ← arg 1\n[ r1 + 3 ] ← r2\nroot r3 ← r1\nret r2"), args{1: 7}, plenty, plenty, []uint64{5})
	if d.Result != (api.Result{Val: 7}) || d.Steps != 5 || d.Writes != 11 || !slices.Equal(d.News, []uint64{5}) {
		t.Errorf("%v", d)
	}
	holds(t, s, roots{0: 5}, map[uint64]model.Block{5: {3: 7}})
}

// reckoning is an instruction, what its registers r2 and r3 hold, and what its register becomes.
type reckoning struct {
	i          api.Instr
	b, c, want uint64
}

// reckonings is each kind's ordinary cases and edges; the arguments are 50 to 53.
func reckonings() []reckoning {
	const most = math.MaxUint64
	return []reckoning{
		{api.Instr{Op: instr.Set}, 1, 2, 0},
		{api.Instr{Op: instr.Set, Imm: most}, 1, 2, most},
		{api.Instr{Op: instr.Move, B: 2}, 7, 9, 7},
		{api.Instr{Op: instr.Plus, B: 2, C: 3}, 7, 9, 16},
		{api.Instr{Op: instr.Plus, B: 2, C: 3}, most, 2, 1},
		{api.Instr{Op: instr.Plus, B: 2, C: 3}, 1 << 63, 1 << 63, 0},
		{api.Instr{Op: instr.Minus, B: 2, C: 3}, 9, 7, 2},
		{api.Instr{Op: instr.Minus, B: 2, C: 3}, 7, 9, most - 1},
		{api.Instr{Op: instr.Minus, B: 2, C: 3}, 0, most, 1},
		{api.Instr{Op: instr.Times, B: 2, C: 3}, 7, 9, 63},
		{api.Instr{Op: instr.Times, B: 2, C: 3}, 1 << 32, 1 << 32, 0},
		{api.Instr{Op: instr.Times, B: 2, C: 3}, 1<<32 + 1, 1 << 32, 1 << 32},
		{api.Instr{Op: instr.Times, B: 2, C: 3}, most, most, 1},
		{api.Instr{Op: instr.Modulo, B: 2, C: 3}, 9, 7, 2},
		{api.Instr{Op: instr.Modulo, B: 2, C: 3}, 7, 9, 7},
		{api.Instr{Op: instr.Modulo, B: 2, C: 3}, 9, 9, 0},
		{api.Instr{Op: instr.Modulo, B: 2, C: 3}, 9, 1, 0},
		{api.Instr{Op: instr.Modulo, B: 2, C: 3}, 9, 0, 9},
		{api.Instr{Op: instr.Modulo, B: 2, C: 3}, 0, 0, 0},
		{api.Instr{Op: instr.Modulo, B: 2, C: 3}, most, 1 << 63, 1<<63 - 1},
		{api.Instr{Op: instr.Equal, B: 2, C: 3}, 7, 7, 1},
		{api.Instr{Op: instr.Equal, B: 2, C: 3}, 7, 9, 0},
		{api.Instr{Op: instr.Equal, B: 2, C: 3}, 1 << 32, 0, 0},
		{api.Instr{Op: instr.Less, B: 2, C: 3}, 7, 9, 1},
		{api.Instr{Op: instr.Less, B: 2, C: 3}, 9, 7, 0},
		{api.Instr{Op: instr.Less, B: 2, C: 3}, 7, 7, 0},
		{api.Instr{Op: instr.Less, B: 2, C: 3}, 1, most, 1},
		{api.Instr{Op: instr.Less, B: 2, C: 3}, most, 1, 0},
		{api.Instr{Op: instr.Less, B: 2, C: 3}, 1 << 63, 1<<63 - 1, 0},
		{api.Instr{Op: instr.Arg, Imm: 0}, 1, 2, 50},
		{api.Instr{Op: instr.Arg, Imm: 1}, 1, 2, 51},
		{api.Instr{Op: instr.Arg, Imm: 2}, 1, 2, 52},
		{api.Instr{Op: instr.Arg, Imm: 3}, 1, 2, 53},
	}
}

// P6.1: what each kind makes of its register; and so in a program, in which that may be one of those that are read.
func TestReckon(t *testing.T) {
	given := args{50, 51, 52, 53}
	for _, c := range reckonings() {
		for a := range 16 {
			c.i.A = a
			if got := model.Reckon(c.i, regs{2: c.b, 3: c.c}, given); got != c.want {
				t.Errorf("Reckon(%v) of %d and %d: %d, not %d", c.i, c.b, c.c, got, c.want)
			}
			run := []api.Instr{{Op: instr.Set, A: 2, Imm: c.b}, {Op: instr.Set, A: 3, Imm: c.c}, c.i, {Op: instr.Return, A: a}}
			if d := model.New().Run(run, given, 4, 0, nil); d.Result != (api.Result{Val: c.want}) {
				t.Errorf("%v of %d and %d: %v, not %d", c.i, c.b, c.c, d.Result, c.want)
			}
		}
	}
}

// P6.1: each register is read.
func TestReckonRegisters(t *testing.T) {
	every := regs{}
	for k := range every {
		every[k] = uint64(1000 + k)
	}
	for k := range 16 {
		if got := model.Reckon(api.Instr{Op: instr.Move, B: k}, every, args{}); got != uint64(1000+k) {
			t.Errorf("of the register %d: %d", k, got)
		}
		if got := model.Reckon(api.Instr{Op: instr.Minus, C: k}, every, args{}); got != -uint64(k) {
			t.Errorf("less the register %d: %d", k, got)
		}
	}
}

// P1, P6.1: of other instructions nothing is said, but that it ends.
func TestReckonEnds(t *testing.T) {
	for _, op := range []int{-1, 0, 1, 2, 5, 8, 9, 11, 15, 17, 20, 21, 22, math.MaxInt, math.MinInt} {
		for _, reg := range []int{-1, 0, 16, math.MaxInt, math.MinInt} {
			for _, imm := range []uint64{0, 4, 16, math.MaxUint64} {
				model.Reckon(api.Instr{Op: op, A: reg, B: reg, C: reg, Imm: imm}, regs{}, args{})
				model.Reckon(api.Instr{Op: op, A: 1, B: reg, Imm: imm}, regs{}, args{})
				model.Reckon(api.Instr{Op: op, A: 1, Imm: imm}, regs{}, args{})
			}
		}
	}
}

// P6.1: a program that isn't right comes to nothing else, whatever else it is given.
func TestNotRight(t *testing.T) {
	for _, list := range [][]api.Instr{
		nil,
		{},
		make([]api.Instr, 257),
		code(t, "r1 ← 1"),
		code(t, "r1 ← new\nroot r1 ← r1\nr1 ← arg 4\nret r1"),
		code(t, "r1 ← new\nabort 0"),
		code(t, "abort 256"),
		{{Op: 99}, {Op: instr.Return}},
		{{Op: instr.Return, A: 16}},
		{{Op: instr.Go}, {Op: instr.Return}},
		{{Op: instr.Back, Imm: 1}, {Op: instr.Return}},
	} {
		for _, fuel := range []int{-1, 0, 9} {
			s := some()
			d := s.Run(list, args{1, 2, 3, 4}, fuel, 99, []uint64{6})
			if d.Result != (api.Result{Code: api.ErrCode}) || d.Steps != 0 || d.Writes != 0 || len(d.News) != 0 || !s.Same(some()) {
				t.Errorf("%.100v: %v", list, d)
			}
		}
	}
}

// run lets a program run over some state, and holds for what comes of it; an error must leave the state as it was.
func run(t *testing.T, text string, fuel, writes int, pick []uint64, want model.Done) *model.State {
	t.Helper()
	s := some()
	d := s.Run(code(t, text), args{20, 21, 22, 23}, fuel, writes, pick)
	if d.Result != want.Result || d.Steps != want.Steps || d.Writes != want.Writes || !slices.Equal(d.News, want.News) {
		t.Errorf("%q, fuel %d, writes %d, of %v: %v, not %v", text, fuel, writes, pick, d, want)
	}
	if want.Result.Code != api.OK && !s.Same(some()) {
		t.Errorf("%q, fuel %d, writes %d, of %v: an error turned the state", text, fuel, writes, pick)
	}
	return s
}

// returned is what a program comes to that returns.
func returned(val uint64, steps, writes int, news ...uint64) model.Done {
	return model.Done{Result: api.Result{Val: val}, Steps: steps, Writes: writes, News: news}
}

// refused is what a program comes to that ends by an error.
func refused(e api.Errno, steps, writes int, news ...uint64) model.Done {
	return model.Done{Result: api.Result{Code: e}, Steps: steps, Writes: writes, News: news}
}

// P6.1: registers are noughts at first, and a run leaves nothing in them for the next one.
func TestRegisters(t *testing.T) {
	s := model.New()
	for k := range 16 {
		set := []api.Instr{{Op: instr.Set, A: k, Imm: 7}, {Op: instr.Return, A: k}}
		get := []api.Instr{{Op: instr.Return, A: k}}
		if d := s.Run(set, args{}, 2, 0, nil); d.Result.Val != 7 {
			t.Errorf("r%d: %v", k, d)
		}
		if d := s.Run(get, args{9, 9, 9, 9}, 1, 0, nil); d.Result != (api.Result{}) {
			t.Errorf("r%d: %v", k, d)
		}
	}
}

// P6.1: roots, by what a register tells.
func TestRoots(t *testing.T) {
	run(t, "r1 ← root r2\nret r1", 2, 0, nil, returned(5, 2, 0))
	run(t, "r2 ← 15\nr1 ← root r2\nret r1", 3, 0, nil, returned(99, 3, 0))
	run(t, "r2 ← 2\nr2 ← root r2\nret r2", 3, 0, nil, returned(7, 3, 0))
	s := run(t, "r2 ← 15\nr1 ← 8\nroot r2 ← r1\nr3 ← root r2\nret r3", 5, 1, nil, returned(8, 5, 1))
	if s.Root(15) != 8 || s.Root(0) != 5 || s.Root(2) != 7 || s.Root(8) != 0 {
		t.Error("another root was written")
	}
	s = run(t, "r3 ← 3\nroot r3 ← r3\nret r3", 3, 1, nil, returned(3, 3, 1))
	if s.Root(3) != 3 {
		t.Error("root 3")
	}
	for _, k := range []string{"16", "17", "256", "4294967296", "18446744073709551615"} {
		run(t, "r2 ← "+k+"\nr1 ← root r2\nret r1", 9, 9, nil, refused(api.ErrHandle, 2, 0))
		run(t, "r2 ← "+k+"\nroot r2 ← r1\nret r1", 9, 9, nil, refused(api.ErrHandle, 2, 0))
	}
}

// P6.1: a block's words, by a number or by a register.
func TestWords(t *testing.T) {
	for w, digit := range "01234567" {
		val := uint64(10 + w)
		run(t, "r1 ← 5\nr2 ← [ r1 + "+string(digit)+" ]\nret r2", 3, 0, nil, returned(val, 3, 0))
		run(t, "r1 ← 5\nr3 ← "+string(digit)+"\nr2 ← [ r1 + r3 ]\nret r2", 4, 0, nil, returned(val, 4, 0))
		for _, text := range []string{
			"r1 ← 5\nr3 ← " + string(digit) + "\nr2 ← 77\n[ r1 + " + string(digit) + " ] ← r2\nr4 ← [ r1 + r3 ]\nret r4",
			"r1 ← 5\nr3 ← " + string(digit) + "\nr2 ← 77\n[ r1 + r3 ] ← r2\nr4 ← [ r1 + " + string(digit) + " ]\nret r4",
		} {
			s := run(t, text, 6, 1, nil, returned(77, 6, 1))
			want, _ := some().Block(5)
			want[w] = 77
			if got, _ := s.Block(5); got != want {
				t.Errorf("word %d: %v, not %v", w, got, want)
			}
			if got, _ := s.Block(64); got != (model.Block{7: math.MaxUint64}) {
				t.Errorf("another block was written: %v", got)
			}
		}
	}
	// A register that is both the block, the word and what is written.
	s := run(t, "r1 ← 5\n[ r1 + r1 ] ← r1\nr1 ← [ r1 + r1 ]\nret r1", 4, 1, nil, returned(5, 4, 1))
	if got, _ := s.Block(5); got[5] != 5 {
		t.Errorf("%v", got)
	}
	run(t, "r1 ← 1000\nr2 ← [ r1 + 7 ]\nret r2", 3, 0, nil, returned(0, 3, 0))
}

// P6.1: blocks and words that there aren't.
func TestNoBlock(t *testing.T) {
	for _, h := range []string{"0", "1", "6", "63", "65", "999", "4294967301", "18446744073709551615"} {
		run(t, "r1 ← "+h+"\nr2 ← [ r1 + 0 ]\nret r2", 9, 99, nil, refused(api.ErrHandle, 2, 0))
		run(t, "r1 ← "+h+"\nr2 ← [ r1 + r3 ]\nret r2", 9, 99, nil, refused(api.ErrHandle, 2, 0))
		run(t, "r1 ← "+h+"\n[ r1 + 0 ] ← r2\nret r2", 9, 99, nil, refused(api.ErrHandle, 2, 0))
		run(t, "r1 ← "+h+"\n[ r1 + r3 ] ← r2\nret r2", 9, 99, nil, refused(api.ErrHandle, 2, 0))
		run(t, "r1 ← "+h+"\nfree r1\nret r2", 9, 99, nil, refused(api.ErrHandle, 2, 0))
	}
	for _, w := range []string{"8", "9", "256", "4294967296", "18446744073709551615"} {
		run(t, "r1 ← 5\nr3 ← "+w+"\nr2 ← [ r1 + r3 ]\nret r2", 9, 99, nil, refused(api.ErrHandle, 3, 0))
		run(t, "r1 ← 5\nr3 ← "+w+"\n[ r1 + r3 ] ← r2\nret r2", 9, 99, nil, refused(api.ErrHandle, 3, 0))
	}
}

// P6.1: a block goes; it can't be touched any more, and its handle may be taken again.
func TestFree(t *testing.T) {
	s := run(t, "r1 ← 5\nfree r1\nret r1", 3, 2, nil, returned(5, 3, 2))
	holds(t, s, roots{0: 5, 2: 7, 15: 99}, map[uint64]model.Block{64: {7: math.MaxUint64}, 1000: {}})
	s = run(t, "r1 ← 1000\nfree r1\nret r0", 3, 2, nil, returned(0, 3, 2))
	holds(t, s, roots{0: 5, 2: 7, 15: 99}, map[uint64]model.Block{64: {7: math.MaxUint64}, 5: {10, 11, 12, 13, 14, 15, 16, 17}})
	for _, then := range []string{"free r1", "r2 ← [ r1 + 0 ]", "r2 ← [ r1 + r3 ]", "[ r1 + 0 ] ← r2", "[ r1 + r3 ] ← r2"} {
		run(t, "r1 ← 5\nfree r1\n"+then+"\nret r1", 9, 9, nil, refused(api.ErrHandle, 3, 2))
	}
	// Its handle is taken again, with words of noughts.
	s = run(t, "r1 ← 5\nfree r1\nr1 ← 0\nr1 ← new\nr2 ← [ r1 + 3 ]\nr2 ← r2 + r1\nret r2", 7, 11, []uint64{5}, returned(5, 7, 11, 5))
	if b, ok := s.Block(5); b != (model.Block{}) || !ok {
		t.Errorf("%v, %v", b, ok)
	}
	// A block that was taken goes again, and is told of.
	s = run(t, "r1 ← new\nfree r1\nr2 ← new\nret r2", 4, 20, []uint64{9, 9, 8}, returned(9, 4, 20, 9, 9))
	if b, ok := s.Block(9); b != (model.Block{}) || !ok || len(s.Handles()) != 4 {
		t.Errorf("%v, %v", b, ok)
	}
}

// P6.1: which handles a new block may have.
func TestTake(t *testing.T) {
	const one = "r2 ← 7\nr1 ← new\nret r1"
	for _, h := range []uint64{1, 2, 4, 6, 63} {
		s := run(t, one, 3, 9, []uint64{h}, returned(h, 3, 9, h))
		if b, ok := s.Block(h); b != (model.Block{}) || !ok || len(s.Handles()) != 4 {
			t.Errorf("block %d: %v, %v", h, b, ok)
		}
	}
	for _, h := range []uint64{0, 5, 64, 65, 66, 1000, 1 << 32, 1<<32 + 1, math.MaxUint64} {
		run(t, one, 9, 9, []uint64{h}, refused(api.ErrMem, 2, 9))
		run(t, one, 9, 9, []uint64{h, 1}, refused(api.ErrMem, 2, 9))
		run(t, "r1 ← new\nr1 ← new\nret r1", 9, 18, []uint64{3, h, 4}, refused(api.ErrMem, 2, 18, 3))
	}
	run(t, one, 9, 9, nil, refused(api.ErrMem, 2, 9))
	run(t, one, 9, 9, []uint64{}, refused(api.ErrMem, 2, 9))
	if d := model.New().Run(code(t, one), args{}, 9, 9, []uint64{64}); d.Result != (api.Result{Val: 64}) {
		t.Errorf("the last handle: %v", d)
	}
	const two = "r1 ← new\nr2 ← new\nret r2"
	run(t, two, 3, 18, []uint64{8, 3}, returned(3, 3, 18, 8, 3))
	run(t, two, 3, 18, []uint64{8, 3, 4}, returned(3, 3, 18, 8, 3))
	run(t, two, 3, 18, []uint64{8}, refused(api.ErrMem, 2, 18, 8))
	run(t, two, 3, 18, []uint64{8, 8}, refused(api.ErrMem, 2, 18, 8))
	// What is behind the list's length isn't there.
	run(t, two, 3, 18, []uint64{8, 3}[:1], refused(api.ErrMem, 2, 18, 8))
}

// P6.1: new blocks are told of beside every error.
func TestNewsBesideErrors(t *testing.T) {
	pick := []uint64{8, 9}
	const two = "r1 ← new\nr2 ← new\n"
	run(t, two+"abort 3", 9, 99, pick, model.Done{Result: api.Result{Code: api.ErrAbort, Val: 3}, Steps: 3, Writes: 18, News: pick})
	run(t, two+"r1 ← new\nret r1", 9, 99, pick, refused(api.ErrMem, 3, 27, 8, 9))
	run(t, two+"free r3\nret r1", 9, 99, pick, refused(api.ErrHandle, 3, 18, 8, 9))
	run(t, two+"free r1\nret r1", 9, 19, pick, refused(api.ErrWrites, 3, 18, 8, 9))
	run(t, two+"free r1\nret r1", 2, 99, pick, refused(api.ErrFuel, 2, 18, 8, 9))
	run(t, two+"free r1\nret r2", 4, 20, pick, returned(9, 4, 20, 8, 9))
}

// P6.1: how many words each kind writes, and how many there may be.
func TestWrites(t *testing.T) {
	for _, c := range []struct {
		text  string
		costs int
	}{
		{"root r2 ← r1", 1}, {"[ r1 + 1 ] ← r2", 1}, {"[ r1 + r2 ] ← r2", 1}, {"free r1", 2}, {"r3 ← new", 9},
	} {
		text := "r1 ← 5\n" + c.text + "\nret r1"
		var news []uint64
		if c.costs == 9 {
			news = []uint64{3}
		}
		run(t, text, 3, c.costs, []uint64{3}, returned(5, 3, c.costs, news...))
		run(t, text, 3, math.MaxInt, []uint64{3}, returned(5, 3, c.costs, news...))
		for _, writes := range []int{c.costs - 1, 0, -1, math.MinInt} {
			run(t, text, 3, writes, []uint64{3}, refused(api.ErrWrites, 2, 0))
		}
		text = "r1 ← 5\nroot r4 ← r1\n" + c.text + "\nret r1"
		run(t, text, 4, c.costs+1, []uint64{3}, returned(5, 4, c.costs+1, news...))
		run(t, text, 4, c.costs, []uint64{3}, refused(api.ErrWrites, 3, 1))
	}
	// What only reads isn't refused, however little may be written.
	for _, writes := range []int{0, -1, math.MinInt} {
		run(t, "r1 ← root r0\nr2 ← [ r1 + 1 ]\nr2 ← [ r1 + r3 ]\nzero r0 x\nx:\nback r0 x\nret r2", 9, writes, nil, returned(10, 6, 0))
	}
	// The same word counts each time.
	run(t, "r1 ← 5\nx:\n[ r1 + 0 ] ← r1\nr1 ← r1 - r2\nr2 ← 0\nr3 ← r3 + r1\nr4 ← 20\nr4 ← r3 < r4\nback r4 x\nret r3", 99, 4, nil, returned(20, 30, 4))
	run(t, "r1 ← 5\nx:\n[ r1 + 0 ] ← r1\nr1 ← r1 - r2\nr2 ← 0\nr3 ← r3 + r1\nr4 ← 20\nr4 ← r3 < r4\nback r4 x\nret r3", 99, 3, nil, refused(api.ErrWrites, 23, 3))
}

// P6.1: ErrHandle is looked for ahead of ErrWrites, and that ahead of ErrMem; ErrFuel ahead of all.
func TestErrorsInOrder(t *testing.T) {
	for _, text := range []string{"r2 ← 16\nroot r2 ← r1", "r2 ← 9\n[ r2 + 1 ] ← r1", "r2 ← 9\n[ r2 + r1 ] ← r1", "r2 ← 9\nfree r2"} {
		run(t, text+"\nret r1", 2, 0, nil, refused(api.ErrHandle, 2, 0))
		run(t, text+"\nret r1", 1, 0, nil, refused(api.ErrFuel, 1, 0))
	}
	run(t, "r2 ← 5\nr3 ← 8\n[ r2 + r3 ] ← r1\nret r1", 9, 0, nil, refused(api.ErrHandle, 3, 0))
	for _, pick := range [][]uint64{nil, {0}, {5}, {65}} {
		run(t, "r1 ← new\nret r1", 1, 9, pick, refused(api.ErrMem, 1, 9))
		run(t, "r1 ← new\nret r1", 1, 8, pick, refused(api.ErrWrites, 1, 0))
		run(t, "r1 ← new\nret r1", 0, 8, pick, refused(api.ErrFuel, 0, 0))
	}
	run(t, "abort 7", 0, 0, nil, refused(api.ErrFuel, 0, 0))
}

// P6.1: how many instructions may be begun.
func TestFuel(t *testing.T) {
	const text = "r1 ← 1\nr2 ← 2\nr3 ← r1 + r2\nret r3"
	for fuel := -2; fuel < 4; fuel++ {
		run(t, text, fuel, 0, nil, refused(api.ErrFuel, max(fuel, 0), 0))
	}
	for _, fuel := range []int{4, 5, 1 << 40, math.MaxInt} {
		run(t, text, fuel, 0, nil, returned(3, 4, 0))
	}
	run(t, text, math.MinInt, 0, nil, refused(api.ErrFuel, 0, 0))
	run(t, "ret r1", 0, 0, nil, refused(api.ErrFuel, 0, 0))
	run(t, "x:\nr1 ← 1\nback r1 x\nret r1", 1001, 0, nil, refused(api.ErrFuel, 1001, 0))
	run(t, "x:\nr1 ← 1\nback r1 x\nret r1", 1000000, 0, nil, refused(api.ErrFuel, 1000000, 0))
	// What was written is counted, and undone.
	run(t, "r1 ← 5\nfree r1\nroot r2 ← r1\nret r1", 3, 9, nil, refused(api.ErrFuel, 3, 3))
}

// P6.1: where a program goes on.
func TestGoesOn(t *testing.T) {
	run(t, "go x\nabort 1\nx:\nret r1", 2, 0, nil, returned(0, 2, 0))
	run(t, "zero r1 x\nabort 1\nx:\nret r1", 2, 0, nil, returned(0, 2, 0))
	run(t, "r1 ← 1\nzero r1 x\nabort 2\nx:\nret r1", 9, 0, nil, model.Done{Result: api.Result{Code: api.ErrAbort, Val: 2}, Steps: 3})
	run(t, "r1 ← 18446744073709551615\nzero r1 x\nabort 255\nx:\nret r1", 9, 0, nil, model.Done{Result: api.Result{Code: api.ErrAbort, Val: 255}, Steps: 3})
	run(t, "x:\nback r1 x\nret r1", 2, 0, nil, returned(0, 2, 0))
	run(t, "r1 ← 1\nx:\nback r1 x\nret r1", 50, 0, nil, refused(api.ErrFuel, 50, 0))
	run(t, "r1 ← 9223372036854775808\nx:\nback r1 x\nret r1", 50, 0, nil, refused(api.ErrFuel, 50, 0))
	run(t, "r1 ← 5\nr2 ← 1\nx:\nr3 ← r3 + r1\nr1 ← r1 - r2\nback r1 x\nret r3", 99, 0, nil, returned(15, 18, 0))
	run(t, "abort 9", 1, 0, nil, model.Done{Result: api.Result{Code: api.ErrAbort, Val: 9}, Steps: 1})
	run(t, "r1 ← 7\nret r1\nabort 1", 9, 0, nil, returned(7, 2, 0))
}

// P6.1: arguments, each of them.
func TestArgs(t *testing.T) {
	for k, digit := range "0123" {
		run(t, "r9 ← arg "+string(digit)+"\nret r9", 2, 0, nil, returned(uint64(20+k), 2, 0))
	}
}

// P6.1, P6.2: of several runs each finds what those that returned ahead of it left.
func TestRunsInARow(t *testing.T) {
	s := model.New()
	push := code(t, "r1 ← new\nr2 ← arg 0\n[ r1 + 0 ] ← r2\nr2 ← root r3\n[ r1 + 1 ] ← r2\nroot r3 ← r1\nret r2")
	pop := code(t, "r1 ← root r3\nzero r1 none\nr2 ← [ r1 + 0 ]\nr4 ← [ r1 + 1 ]\nroot r3 ← r4\nfree r1\nret r2\nnone:\nabort 1")
	for n := range uint64(10) {
		d := s.Run(push, args{100 + n}, plenty, plenty, []uint64{10 - n})
		want := uint64(0)
		if n > 0 {
			want = 11 - n
		}
		if d.Result != (api.Result{Val: want}) || d.Writes != 12 {
			t.Fatalf("push %d: %v", n, d)
		}
		if d := s.Run(push, args{7}, plenty, 11, []uint64{20}); d.Result.Code != api.ErrWrites {
			t.Fatalf("%v", d)
		}
	}
	for n := range uint64(10) {
		if d := s.Run(pop, args{}, plenty, plenty, nil); d.Result != (api.Result{Val: 109 - n}) || d.Writes != 3 || d.Steps != 7 {
			t.Fatalf("pop %d: %v", n, d)
		}
	}
	if d := s.Run(pop, args{}, plenty, plenty, nil); d.Result != (api.Result{Code: api.ErrAbort, Val: 1}) || !s.Same(model.New()) {
		t.Errorf("at last: %v", d)
	}
}
