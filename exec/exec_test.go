package exec_test

import (
	"math"
	"slices"
	"testing"

	"tumbler/api"
	"tumbler/asm"
	"tumbler/exec"
	"tumbler/instr"
	"tumbler/lay"
	"tumbler/pool"
	"tumbler/view"
	"tumbler/wset"
)

type args = [api.Args]uint64

// mapOf is a map of three blocks, and so much to write and to do.
func mapOf(t *testing.T, writes, fuel int) lay.Map {
	t.Helper()
	m, e := lay.Of(api.Cfg{Threads: 2, Blocks: 3, Writes: writes, Fuel: fuel, Last: api.MaxSeq})
	if e != api.OK {
		t.Fatalf("no map: error %d", e)
	}
	return m
}

// code is a text's program.
func code(t *testing.T, text string) []api.Instr {
	t.Helper()
	out, at, e := asm.Assemble(text)
	if e != api.OK {
		t.Fatalf("Assemble(%q): error %d at %d", text, e, at)
	}
	return out
}

func was(val, seq uint64) api.Out { return api.Out{Was: api.Cell{Val: val, Seq: seq}, Ok: true} }

// desk is what programs run over: the thread 1's transaction behind the one of the number 6.
type desk struct {
	m lay.Map
	v *view.View
	p *pool.Pool
	w *wset.Set
}

// deskOf is a desk with so many free blocks, these ones in limbo (which the slots name), and entries.
func deskOf(m lay.Map, top uint64, limbo []uint64, entries ...wset.Entry) *desk {
	d := &desk{m: m, v: view.New(m, 1, 6), p: pool.New(m, 6), w: wset.New(m.Cap())}
	for i := range 2 {
		slot := uint64(0)
		if i < len(limbo) {
			slot = limbo[i] + 1
		}
		d.p.Tell(was(slot, 0))
	}
	d.p.Tell(was(top, 6))
	d.p.Tell(was(uint64(len(limbo)), 6))
	for _, b := range limbo {
		d.p.Tell(was(b, 6))
	}
	d.p.Settle(d.w)
	for _, e := range entries {
		d.w.Put(e.At, e.Val)
	}
	return d
}

// step is a step that is asked for, and what is told of it.
type step struct {
	op  api.Op
	val uint64
}

func (d *desk) load(val uint64, kind, i, k int) step {
	return step{api.Op{Kind: api.Load, At: d.m.At(kind, i, k)}, val}
}

// lives is the steps by which a block is told to live.
func (d *desk) lives(block int) []step {
	name := api.Op{Kind: api.Store, At: d.m.At(lay.Slot, 1, 0), New: api.Cell{Val: uint64(block) + 1}}
	return []step{{name, 77}, d.load(1, lay.Life, block, 0)}
}

func (d *desk) entry(kind, i, k int, val uint64) wset.Entry {
	return wset.Entry{At: d.m.At(kind, i, k), Val: val}
}

// taken is what becomes of the cells of a block that is taken.
func (d *desk) taken(block int) []wset.Entry {
	list := []wset.Entry{d.entry(lay.Life, block, 0, 1)}
	for k := range api.Words {
		list = append(list, d.entry(lay.Word, block, k, 0))
	}
	return list
}

// runs tells a fault unless a program asks for just these steps, and comes to that.
func (d *desk) runs(t *testing.T, name, text string, given args, steps []step, want api.Result, news ...uint64) {
	t.Helper()
	x := exec.New(d.m, code(t, text), given, d.v, d.p, d.w)
	for _, s := range steps {
		for range 2 {
			if op, ok := x.Ask(); op != s.op || !ok || x.Status() != view.Going {
				t.Errorf("%s: Ask: %v, %v, not %v; status %d", name, op, ok, s.op, x.Status())
				return
			}
		}
		x.Tell(was(s.val, 6))
	}
	for range 2 {
		op, ok := x.Ask()
		r, got := x.Result()
		if ok || op != (api.Op{}) || x.Status() != view.Good || r != want || !slices.Equal(got, news) {
			t.Errorf("%s: %v, %v, status %d; %v, %v, not %v, %v", name, op, ok, x.Status(), r, got, want, news)
		}
		x.Tell(was(5, 99))
	}
}

// writes tells a fault unless just that is to be written, and so many are free, and in limbo.
func (d *desk) writes(t *testing.T, name string, top, lim int, want ...wset.Entry) {
	t.Helper()
	if got := d.w.All(); !slices.Equal(got, want) {
		t.Errorf("%s: to be written: %v, not %v", name, got, want)
	}
	if got := d.p.Mark(); got != (pool.Mark{Top: top, Lim: lim}) {
		t.Errorf("%s: %v, not %d and %d", name, got, top, lim)
	}
}

func val(n uint64) api.Result        { return api.Result{Val: n} }
func refused(e api.Errno) api.Result { return api.Result{Code: e} }

// P11.1: the chapter's example.
func TestExample(t *testing.T) {
	d := deskOf(mapOf(t, 12, 20), 3, nil)
	text := "r1 ← new\nr2 ← 7\n[ r1 + 3 ] ← r2\nr4 ← root r3\nr5 ← [ r1 + 3 ]\nret r5"
	d.runs(t, "the example", text, args{}, []step{d.load(1, lay.Stack, 2, 0), d.load(9, lay.Root, 0, 0)}, val(7), 2)
	want := d.taken(1)
	want[4].Val = 7
	d.writes(t, "the example", 2, 0, want...)
}

// P11.1: a program that isn't right ends at once, and asks for nothing.
func TestWrongCode(t *testing.T) {
	d := deskOf(mapOf(t, 12, 20), 3, nil, wset.Entry{At: 1, Val: 2})
	ret := api.Instr{Op: instr.Return}
	for i, c := range [][]api.Instr{
		nil,
		{},
		{{Op: instr.Set}},
		{{Op: instr.Root, A: 16}, ret},
		{{Op: instr.Root, A: -1}, ret},
		{{Op: 22}, ret},
		{{Op: -1}, ret},
		{{Op: instr.Arg, Imm: 4}, ret},
		{{Op: instr.Read, Imm: 8}, ret},
		{{Op: instr.Go, Imm: 0}, ret},
		{{Op: instr.Back, Imm: 1}, ret},
		{{Op: instr.Abort, Imm: 256}},
		{ret, {Op: instr.Return, B: 1}},
		append(make([]api.Instr, api.MaxInstrs), ret),
		make([]api.Instr, 1<<20),
	} {
		x := exec.New(d.m, c, args{1, 2}, d.v, d.p, d.w)
		for range 2 {
			op, ok := x.Ask()
			r, news := x.Result()
			if ok || op != (api.Op{}) || x.Status() != view.Good || r != refused(api.ErrCode) || len(news) != 0 {
				t.Errorf("program %d: %v, %v, status %d, %v, %v", i, op, ok, x.Status(), r, news)
			}
			x.Tell(was(1, 7))
		}
	}
	d.writes(t, "none is right", 3, 0, wset.Entry{At: 1, Val: 2})
	if _, how := d.v.End(); how != view.Good {
		t.Errorf("the view: %d", how)
	}
}

// P11.1: registers are 0 at first; numbers and turns are layer 6's.
func TestAlone(t *testing.T) {
	d := deskOf(mapOf(t, 12, 20), 3, nil)
	given := args{5, 9, 0, math.MaxUint64}
	for _, c := range []struct {
		text string
		want api.Result
	}{
		{"ret r15", val(0)},
		{"ret r0", val(0)},
		{"r15 ← 18446744073709551615\nret r15", val(math.MaxUint64)},
		{"r1 ← arg 0\nr2 ← arg 3\nr3 ← r1 + r2\nret r3", val(4)},
		{"r1 ← arg 1\nr2 ← r1\nret r2", val(9)},
		{"r1 ← arg 0\nr2 ← arg 1\nr3 ← r1 - r2\nret r3", val(math.MaxUint64 - 3)},
		{"r1 ← arg 0\nr2 ← arg 1\nr3 ← r1 × r2\nret r3", val(45)},
		{"r1 ← arg 1\nr2 ← arg 0\nr3 ← r1 % r2\nret r3", val(4)},
		{"r1 ← arg 1\nr3 ← r1 % r2\nret r3", val(9)},
		{"r1 ← arg 1\nr2 ← 9\nr3 ← r1 = r2\nret r3", val(1)},
		{"r1 ← arg 1\nr2 ← 8\nr3 ← r1 = r2\nret r3", val(0)},
		{"r1 ← arg 3\nr2 ← 8\nr3 ← r2 < r1\nret r3", val(1)},
		{"r1 ← arg 3\nr2 ← 8\nr3 ← r1 < r2\nret r3", val(0)},
		{"go x\nr1 ← 5\nx:\nret r1", val(0)},
		{"r1 ← 4\nzero r2 x\nr1 ← 5\nx:\nret r1", val(4)},
		{"r1 ← 4\nzero r1 x\nr1 ← 5\nx:\nret r1", val(5)},
		{"r1 ← 4\nr3 ← 1\nx:\nr2 ← r2 + r1\nr1 ← r1 - r3\nback r1 x\nret r2", val(10)},
		{"x:\nback r1 x\nr2 ← 3\nret r2", val(3)},
		{"r1 ← 7\nabort 1", api.Result{Code: api.ErrAbort, Val: 1}},
		{"abort 255", api.Result{Code: api.ErrAbort, Val: 255}},
	} {
		d.runs(t, c.text, c.text, given, nil, c.want)
	}
	d.writes(t, "none writes", 3, 0)
}

// P11.1: ErrFuel, once as many instructions were begun as there is fuel.
func TestFuel(t *testing.T) {
	text := "r1 ← 1\nr2 ← root r1\nroot r1 ← r2\nret r2"
	for fuel, want := range map[int]api.Result{1: refused(api.ErrFuel), 2: refused(api.ErrFuel), 3: refused(api.ErrFuel), 4: val(8), 5: val(8)} {
		d := deskOf(mapOf(t, 12, fuel), 3, nil)
		steps := []step{d.load(8, lay.Root, 1, 0)}
		if fuel == 1 {
			steps = nil
		}
		d.runs(t, "little fuel", text, args{}, steps, want)
		if fuel < 4 {
			d.writes(t, "little fuel", 3, 0)
		}
	}
	d := deskOf(mapOf(t, 64, 1000), 3, nil)
	d.runs(t, "without end", "r1 ← 1\nx:\nback r1 x\nret r1", args{}, nil, refused(api.ErrFuel))
	d.runs(t, "the last one", "r1 ← 499\nr2 ← 1\nx:\nr1 ← r1 - r2\nback r1 x\nret r2", args{}, nil, refused(api.ErrFuel))
	d.runs(t, "just enough", "r1 ← 498\nr2 ← 1\nr3 ← 1\nx:\nr1 ← r1 - r2\nback r1 x\nret r2", args{}, nil, val(1))
}

// P11.1: a root is what it becomes, or what is read of it; there are 16.
func TestRoot(t *testing.T) {
	get := "r1 ← arg 0\nr2 ← root r1\nret r2"
	for k := range api.Roots {
		d := deskOf(mapOf(t, 12, 20), 3, nil)
		at := uint64(k)
		d.runs(t, "read", get, args{at}, []step{d.load(at+70, lay.Root, k, 0)}, val(at+70))
		d.runs(t, "read again", get, args{at}, []step{d.load(at+71, lay.Root, k, 0)}, val(at+71))
		d.writes(t, "read", 3, 0)
		d.runs(t, "put", "r1 ← arg 0\nr2 ← arg 1\nroot r1 ← r2\nr3 ← root r1\nret r3", args{at, 40}, nil, val(40))
		d.runs(t, "read by another one", get, args{at}, nil, val(40))
		d.writes(t, "put", 3, 0, d.entry(lay.Root, k, 0, 40))
		d.runs(t, "put again", "r1 ← arg 0\nroot r1 ← r2\nret r1", args{at}, nil, val(at))
		d.runs(t, "it becomes 0", get, args{at}, nil, val(0))
		d.writes(t, "put again", 3, 0, d.entry(lay.Root, k, 0, 0))
	}
	d := deskOf(mapOf(t, 0, 20), 3, nil)
	for _, k := range []uint64{16, 17, 64, 1 << 32, 1 << 63, math.MaxUint64} {
		d.runs(t, "no such root", get, args{k}, nil, refused(api.ErrHandle))
		d.runs(t, "no such root to be put", "r1 ← arg 0\nroot r1 ← r1\nret r1", args{k}, nil, refused(api.ErrHandle))
	}
	d.runs(t, "too many words", "r1 ← arg 0\nroot r1 ← r1\nret r1", args{15}, nil, refused(api.ErrWrites))
	d.writes(t, "nothing is put", 3, 0)
}

// wrongWords is programs that speak of a word by arg 0, a handle, and arg 1.
func wrongWords() []string {
	return []string{
		"r1 ← arg 0\nr2 ← arg 1\nr3 ← [ r1 + r2 ]\nret r3",
		"r1 ← arg 0\nr2 ← arg 1\n[ r1 + r2 ] ← r1\nret r3",
	}
}

// handled is programs that speak of the block whose handle is arg 0.
func handled() []string {
	return append(wrongWords(),
		"r1 ← arg 0\nr3 ← [ r1 + 7 ]\nret r3",
		"r1 ← arg 0\n[ r1 + 7 ] ← r1\nret r3",
		"r1 ← arg 0\nfree r1\nret r3")
}

// P11.1: of blocks and words that there aren't, and of blocks that go, or went, it is ErrHandle, without a step.
func TestNoSuchBlock(t *testing.T) {
	d := deskOf(mapOf(t, 0, 20), 3, nil)
	for _, h := range []uint64{0, 4, 5, 64, 1 << 32, 1<<32 + 1, 1 << 63, math.MaxUint64} {
		for _, text := range handled() {
			d.runs(t, text, text, args{h, 2}, nil, refused(api.ErrHandle))
		}
	}
	for _, w := range []uint64{8, 9, 1 << 32, 1 << 63, math.MaxUint64} {
		for _, text := range wrongWords() {
			d.runs(t, text, text, args{1, w}, nil, refused(api.ErrHandle))
			d.runs(t, text, text, args{0, w}, nil, refused(api.ErrHandle))
		}
	}
	d.writes(t, "of none", 3, 0)
	for _, life := range []uint64{0, 2, 3, 1<<32 + 1, math.MaxUint64} {
		d = deskOf(d.m, 3, nil, d.entry(lay.Life, 1, 0, life), d.entry(lay.Word, 1, 2, 5), d.entry(lay.Word, 1, 7, 5))
		for _, text := range handled() {
			d.runs(t, text, text, args{2, 2}, nil, refused(api.ErrHandle))
		}
	}
}

// P11.1: a block that is read of, but doesn't live, is none: whatever its Life was told to be, but 1.
func TestDead(t *testing.T) {
	for _, life := range []uint64{0, 2, 3, 1<<32 + 1, math.MaxUint64} {
		d := deskOf(mapOf(t, 0, 20), 3, nil)
		for _, text := range handled() {
			steps := d.lives(2)
			steps[1].val = life
			d.runs(t, text, text, args{3, 2}, steps, refused(api.ErrHandle))
		}
		d.writes(t, "dead", 3, 0)
	}
}

// P11.1: a word is what it becomes, or what is read of it by the view.
func TestRead(t *testing.T) {
	for _, text := range []string{"r1 ← 3\nr2 ← 5\nr3 ← [ r1 + 5 ]\nret r3", "r1 ← 3\nr2 ← 5\nr3 ← [ r1 + r2 ]\nret r3"} {
		d := deskOf(mapOf(t, 0, 20), 3, nil)
		word := d.load(44, lay.Word, 2, 5)
		d.runs(t, "read", text, args{}, append(d.lives(2), word), val(44))
		word.val = 45
		d.runs(t, "the block is held", text, args{}, []step{word}, val(45))
		if d.v.Held() != 2 {
			t.Errorf("held: %d", d.v.Held())
		}
		d = deskOf(d.m, 3, nil, d.entry(lay.Word, 2, 5, 46))
		d.runs(t, "an entry", text, args{}, nil, val(46))
		d = deskOf(d.m, 3, nil, d.entry(lay.Life, 2, 0, 1), d.entry(lay.Word, 2, 5, 0))
		d.runs(t, "an entry of a block that lives", text, args{}, nil, val(0))
		d = deskOf(d.m, 3, nil, d.entry(lay.Life, 2, 0, 1), d.entry(lay.Word, 2, 4, 3), d.entry(lay.Word, 1, 5, 3))
		d.runs(t, "it lives, and there is no entry", text, args{}, append(d.lives(2), word), val(45))
	}
	d := deskOf(mapOf(t, 0, 20), 3, nil)
	two := "r1 ← 1\nr2 ← 2\nr3 ← [ r1 + 0 ]\nr4 ← [ r2 + 7 ]\nr5 ← [ r1 + 0 ]\nr3 ← r3 × r4\nr3 ← r3 × r5\nret r3"
	first, second := d.load(2, lay.Word, 0, 0), d.load(3, lay.Word, 1, 7)
	d.runs(t, "two blocks by turns", two, args{}, slices.Concat(d.lives(0), []step{first}, d.lives(1), []step{second}, d.lives(0), []step{first}), val(12))
}

// P11.1: a word becomes something once the block is told to live, unless the set tells that it does.
func TestWrite(t *testing.T) {
	for _, text := range []string{"r1 ← 3\nr2 ← 5\n[ r1 + 5 ] ← r2\nret r1", "r1 ← 3\nr2 ← 5\n[ r1 + r2 ] ← r2\nret r1"} {
		d := deskOf(mapOf(t, 1, 20), 3, nil)
		d.runs(t, "written", text, args{}, d.lives(2), val(3))
		d.writes(t, "written", 3, 0, d.entry(lay.Word, 2, 5, 5))
		d.runs(t, "the block is held", text, args{}, nil, val(3))
		d.writes(t, "the block is held", 3, 0, d.entry(lay.Word, 2, 5, 5))
		d = deskOf(d.m, 3, nil, d.entry(lay.Word, 2, 5, 9))
		d.runs(t, "an entry of the word", text, args{}, d.lives(2), val(3))
		d.writes(t, "an entry of the word", 3, 0, d.entry(lay.Word, 2, 5, 5))
		d = deskOf(d.m, 3, nil, d.entry(lay.Life, 2, 0, 1))
		d.runs(t, "it lives", text, args{}, nil, val(3))
		d.writes(t, "it lives", 3, 0, d.entry(lay.Life, 2, 0, 1), d.entry(lay.Word, 2, 5, 5))
		d = deskOf(mapOf(t, 0, 20), 3, nil)
		d.runs(t, "too many words", text, args{}, d.lives(2), refused(api.ErrWrites))
		d = deskOf(d.m, 3, nil, d.entry(lay.Life, 2, 0, 1))
		d.runs(t, "it lives; too many words", text, args{}, nil, refused(api.ErrWrites))
		d.writes(t, "too many words", 3, 0, d.entry(lay.Life, 2, 0, 1))
	}
}

// P11.1: a block goes into limbo once it is told to live, unless the set tells that it does.
func TestFree(t *testing.T) {
	text := "r1 ← 3\nfree r1\nret r1"
	gone := func(d *desk, at int) []wset.Entry {
		return []wset.Entry{d.entry(lay.Life, 2, 0, 2), d.entry(lay.Limbo, at, 0, 2)}
	}
	d := deskOf(mapOf(t, 2, 20), 1, []uint64{0})
	d.runs(t, "free", text, args{}, d.lives(2), val(3))
	d.writes(t, "free", 1, 2, gone(d, 1)...)
	d.runs(t, "free again", text, args{}, nil, refused(api.ErrHandle))
	d.writes(t, "free again", 1, 2, gone(d, 1)...)
	d = deskOf(d.m, 1, nil, d.entry(lay.Life, 2, 0, 1))
	d.runs(t, "it lives", text, args{}, nil, val(3))
	d.writes(t, "it lives", 1, 1, gone(d, 0)...)
	d = deskOf(mapOf(t, 1, 20), 1, nil)
	d.runs(t, "too many words", text, args{}, d.lives(2), refused(api.ErrWrites))
	d.writes(t, "too many words", 1, 0)
	d = deskOf(d.m, 1, nil, d.entry(lay.Life, 2, 0, 1))
	d.runs(t, "it lives; too many words", text, args{}, nil, refused(api.ErrWrites))
	d.writes(t, "it lives; too many words", 1, 0, d.entry(lay.Life, 2, 0, 1))
}

// P11.1: a new block is the one at the top, which is fetched; ErrWrites comes ahead of ErrMem, and of any step.
func TestNewBlock(t *testing.T) {
	text := "r1 ← new\nret r1"
	d := deskOf(mapOf(t, 9, 20), 2, nil)
	d.runs(t, "new", text, args{}, []step{d.load(2, lay.Stack, 1, 0)}, val(3), 3)
	d.writes(t, "new", 1, 0, d.taken(2)...)
	d.runs(t, "another one", text, args{}, []step{d.load(0, lay.Stack, 0, 0)}, val(1), 1)
	d.writes(t, "another one", 0, 0, append(d.taken(2), d.taken(0)...)...)
	d.runs(t, "none is free", text, args{}, nil, refused(api.ErrMem))
	d.writes(t, "none is free", 0, 0, append(d.taken(2), d.taken(0)...)...)
	for _, b := range []uint64{3, 4, 64, 1 << 32, 1 << 63, math.MaxUint64} {
		d = deskOf(d.m, 2, nil)
		d.runs(t, "no block's number", text, args{}, []step{d.load(b, lay.Stack, 1, 0)}, refused(api.ErrMem))
		d = deskOf(d.m, 2, nil, d.entry(lay.Stack, 1, 0, b))
		d.runs(t, "no block's number to be", text, args{}, nil, refused(api.ErrMem))
		d.writes(t, "no block's number", 2, 0, d.entry(lay.Stack, 1, 0, b))
	}
	d = deskOf(d.m, 2, nil, d.entry(lay.Stack, 1, 0, 1), d.entry(lay.Life, 1, 0, 0), d.entry(lay.Word, 1, 3, 8))
	d.runs(t, "one that is free just now", "r1 ← new\nr2 ← [ r1 + 3 ]\nr3 ← [ r1 + 4 ]\nr2 ← r2 + r3\nret r2", args{}, nil, val(0), 2)
	d = deskOf(mapOf(t, 8, 20), 0, nil)
	d.runs(t, "too many words, and none is free", text, args{}, nil, refused(api.ErrWrites))
	d = deskOf(d.m, 2, nil)
	d.runs(t, "too many words", text, args{}, nil, refused(api.ErrWrites))
	d.writes(t, "too many words", 2, 0)
}

// P11.1: what the pool lets be free, the set tells: its number, and that it doesn't live.
func TestSettled(t *testing.T) {
	m := mapOf(t, 9, 20)
	d := &desk{m: m, v: view.New(m, 1, 6), p: pool.New(m, 6), w: wset.New(m.Cap())}
	for _, n := range []uint64{1, 0, 1, 2, 0, 2} {
		d.p.Tell(was(n, 0))
	}
	d.p.Settle(d.w)
	ahead := d.w.All()
	for _, text := range handled() {
		d.runs(t, text, text, args{3, 2}, nil, refused(api.ErrHandle))
	}
	d.writes(t, "settled", 2, 1, ahead...)
	d.runs(t, "new", "r1 ← new\nret r1", args{}, nil, val(3), 3)
	if life, ok := d.w.Get(m.At(lay.Life, 2, 0)); life != 1 || !ok {
		t.Errorf("its Life: %d, %v", life, ok)
	}
}
