package exec_test

import (
	"slices"
	"testing"

	"tumbler/api"
	"tumbler/exec"
	"tumbler/instr"
	"tumbler/lay"
	"tumbler/model"
	"tumbler/pool"
	"tumbler/view"
	"tumbler/wset"
)

// numbers is a row of numbers that is the same each time.
type numbers uint64

func (n *numbers) below(limit int) int {
	*n = *n*6364136223846793005 + 1442695040888963407
	return int(uint64(*n>>33) % uint64(limit))
}

// program is a right program, most times of handles, words and roots that there are.
func (n *numbers) program() []api.Instr {
	size := 4 + n.below(14)
	list := make([]api.Instr, 0, size)
	for r := range 3 {
		if n.below(10) == 0 {
			list = append(list, api.Instr{Op: instr.New, A: r})
			continue
		}
		list = append(list, api.Instr{Op: instr.Set, A: r, Imm: uint64(n.below(5))})
	}
	for len(list) < size-1 {
		list = append(list, n.instr(len(list), size))
	}
	if n.below(6) == 0 {
		return append(list, api.Instr{Op: instr.Abort, Imm: uint64(1 + n.below(255))})
	}
	return append(list, api.Instr{Op: instr.Return, A: n.below(5)})
}

// instr is a right instruction of any kind, but most times of one with roots or blocks.
func (n *numbers) instr(at, size int) api.Instr {
	op := n.below(instr.Kinds)
	if n.below(3) > 0 {
		op = instr.Root + n.below(8)
	}
	i := api.Instr{Op: op}
	a, b, c, imm := instr.Uses(op)
	for _, f := range []struct {
		used bool
		reg  *int
	}{{a, &i.A}, {b, &i.B}, {c, &i.C}} {
		if f.used {
			*f.reg = n.below(5)
		}
	}
	if imm {
		i.Imm = uint64(n.below(4))
	}
	switch op {
	case instr.Set:
		i.Imm = []uint64{0, 1, 2, 3, 4, 7, 8, 15, 16, 1<<32 + 1, 1<<64 - 1}[n.below(11)]
	case instr.Go, instr.Zero:
		i.Imm = uint64(at + 1 + n.below(size-1-at))
	case instr.Back:
		i.Imm = uint64(n.below(at + 1))
	case instr.Abort:
		i.Imm++
	}
	return i
}

// stop is why a second run ends ahead of the program's end.
type stop struct{ e api.Errno }

// second is the chapter read a second time: the program runs through in one go, and each step is done by a function.
type second struct {
	m       lay.Map
	held    *int
	p       *pool.Pool
	w       *wset.Set
	reply   func(op api.Op) api.Out
	seq     uint64
	r       [api.Regs]uint64
	news    []uint64
	begun   int
	written int
}

func (s *second) load(at int) uint64 {
	out := s.reply(api.Op{At: at})
	if out.Was.Seq > s.seq {
		panic(stop{-1})
	}
	return out.Was.Val
}

func (s *second) fetch(at int) uint64 {
	if v, ok := s.w.Get(at); ok {
		return v
	}
	return s.load(at)
}

func unless(ok bool, e api.Errno) {
	if !ok {
		panic(stop{e})
	}
}

func (s *second) live(block int) {
	if *s.held == block {
		return
	}
	s.reply(api.Op{Kind: api.Store, At: s.m.At(lay.Slot, 1, 0), New: api.Cell{Val: uint64(block + 1)}})
	*s.held = -1
	unless(s.load(s.m.At(lay.Life, block, 0)) == 1, api.ErrHandle)
	*s.held = block
}

func (s *second) cost(words int) {
	s.written += words
	unless(s.written <= s.m.Cfg().Writes, api.ErrWrites)
}

// block is the block of a handle, unless the set tells that it doesn't live, and whether the set tells that it does.
func (s *second) block(h uint64) (int, bool) {
	unless(h >= 1 && h <= uint64(s.m.Cfg().Blocks), api.ErrHandle)
	life, told := s.w.Get(s.m.At(lay.Life, int(h)-1, 0))
	unless(!told || life == 1, api.ErrHandle)
	return int(h) - 1, told
}

func (s *second) read(h, word uint64) uint64 {
	unless(word <= 7, api.ErrHandle)
	b, _ := s.block(h)
	at := s.m.At(lay.Word, b, int(word))
	if v, ok := s.w.Get(at); ok {
		return v
	}
	s.live(b)
	return s.load(at)
}

func (s *second) write(h, word, val uint64) {
	unless(word <= 7, api.ErrHandle)
	b, told := s.block(h)
	if !told {
		s.live(b)
	}
	s.cost(1)
	s.w.Put(s.m.At(lay.Word, b, int(word)), val)
}

func (s *second) take() uint64 {
	s.cost(9)
	at, ok := s.p.Top()
	unless(ok, api.ErrMem)
	b := s.fetch(at)
	unless(b < uint64(s.m.Cfg().Blocks), api.ErrMem)
	s.p.Take(s.w, int(b))
	s.news = append(s.news, b+1)
	return b + 1
}

func (s *second) free(h uint64) {
	b, told := s.block(h)
	if !told {
		s.live(b)
	}
	s.cost(2)
	s.p.Give(s.w, b)
}

// run is what a right program comes to; the error -1: it is stale.
func (s *second) run(list []api.Instr, given args) (result api.Result) {
	set, stood := s.w.Mark(), s.p.Mark()
	defer func() {
		if why, ok := recover().(stop); ok {
			s.w.Back(set)
			s.p.Back(stood)
			result = refused(why.e)
		}
	}()
	for at := 0; ; {
		unless(s.begun < s.m.Cfg().Fuel, api.ErrFuel)
		s.begun++
		i := list[at]
		a := &s.r[i.A]
		at++
		switch i.Op {
		case 9:
			unless(s.r[i.B] <= 15, api.ErrHandle)
			*a = s.fetch(s.m.At(lay.Root, int(s.r[i.B]), 0))
		case 10:
			unless(s.r[i.B] <= 15, api.ErrHandle)
			s.cost(1)
			s.w.Put(s.m.At(lay.Root, int(s.r[i.B]), 0), *a)
		case 11:
			*a = s.read(s.r[i.B], i.Imm)
		case 12:
			*a = s.read(s.r[i.B], s.r[i.C])
		case 13:
			s.write(s.r[i.B], i.Imm, *a)
		case 14:
			s.write(s.r[i.B], s.r[i.C], *a)
		case 15:
			*a = s.take()
		case 16:
			s.free(*a)
		case 17, 18, 19:
			if i.Op == 17 || (*a == 0) == (i.Op == 18) {
				at = int(i.Imm)
			}
		case 20:
			return val(*a)
		case 21:
			s.w.Back(set)
			s.p.Back(stood)
			return api.Result{Code: api.ErrAbort, Val: i.Imm}
		default:
			*a = model.Reckon(i, s.r, given)
		}
	}
}

// any is what a step may be told: most times of a block that lives, by a number that isn't above 6.
func (n *numbers) any(op api.Op) api.Out {
	reply := was([]uint64{0, 1, 1, 1, 1, 2, 3, 4, 1 << 40}[n.below(9)], []uint64{0, 5, 6, 6}[n.below(4)])
	if op.Kind != api.Load || n.below(30) == 0 {
		reply.Was.Seq = []uint64{7, 1 << 50, 1<<64 - 1}[n.below(3)]
	}
	reply.Ok = n.below(2) == 0
	return reply
}

// desks is a pool and a set, twice: as they may stand behind the settling, and another program.
func (n *numbers) desks(m lay.Map) (c, d *desk) {
	top := uint64(n.below(m.Cfg().Blocks + 1))
	limbo := make([]uint64, n.below(3))
	for i := range limbo {
		limbo[i] = uint64(n.below(m.Cfg().Blocks))
	}
	entries := make([]wset.Entry, n.below(6))
	for i := range entries {
		kind := []int{lay.Root, lay.Life, lay.Stack, lay.Word}[n.below(4)]
		at := m.At(kind, n.below(m.Cfg().Blocks), 0)
		entries[i] = wset.Entry{At: at, Val: []uint64{0, 1, 1, 2, 3, 5}[n.below(6)]}
	}
	return deskOf(m, top, limbo, entries...), deskOf(m, top, limbo, entries...)
}

// told is a step, and what it is told.
type told struct {
	op  api.Op
	out api.Out
}

// follow tells a program that runs what its second run was told, and tells a fault where it asks for something else.
func follow(t *testing.T, x *exec.Exec, steps []told) {
	t.Helper()
	for i, s := range steps {
		for range 2 {
			if op, ok := x.Ask(); op != s.op || !ok || x.Status() != view.Going {
				t.Errorf("step %d: %v, %v, not %v; status %d", i, op, ok, s.op, x.Status())
				return
			}
		}
		x.Tell(s.out)
	}
	if op, ok := x.Ask(); ok || op != (api.Op{}) {
		t.Errorf("%v is asked for behind the last step", op)
	}
	x.Tell(was(1, 0))
}

// P11.1, P11.3: rows of programs in one transaction, whatever replies come, against the chapter read a second time.
func TestAnyReplies(t *testing.T) {
	n := numbers(11)
	seen := map[api.Errno]int{}
	for range 10000 {
		m := mapOf(t, []int{0, 9, 12, 20, 64, 64}[n.below(6)], 3+n.below(30))
		c, d := n.desks(m)
		held := -1
		for range 3 {
			list, given := n.program(), args{uint64(n.below(4)), 7, 1, 16}
			steps := []told{}
			s := &second{m: m, held: &held, p: d.p, w: d.w, seq: 6}
			s.reply = func(op api.Op) api.Out {
				steps = append(steps, told{op, n.any(op)})
				return steps[len(steps)-1].out
			}
			want := s.run(list, given)
			seen[want.Code]++
			x := exec.New(m, list, given, c.v, c.p, c.w)
			follow(t, x, steps)
			if len(steps) > 3*s.begun {
				t.Errorf("%d steps of %d instructions", len(steps), s.begun)
			}
			if want.Code == -1 {
				if x.Status() != view.Stale {
					t.Errorf("status %d, not stale", x.Status())
				}
				break
			}
			r, news := x.Result()
			if x.Status() != view.Good || r != want || !slices.Equal(news, s.news) || c.v.Held() != held {
				t.Errorf("status %d, %v, not %v; %v, not %v; held %d, not %d", x.Status(), r, want, news, s.news, c.v.Held(), held)
			}
			c.writes(t, "at its end", d.p.Mark().Top, d.p.Mark().Lim, d.w.All()...)
		}
		if t.Failed() {
			return
		}
	}
	for _, e := range []api.Errno{api.OK, -1, api.ErrAbort, api.ErrFuel, api.ErrWrites, api.ErrMem, api.ErrHandle} {
		if seen[e] < 200 {
			t.Errorf("only %d programs that end so: %d", seen[e], e)
		}
	}
}
