package model_test

import (
	"slices"
	"testing"

	"tumbler/api"
	"tumbler/instr"
	"tumbler/model"
)

// second is roots and blocks, as the chapter's words are read a second time: every write is undone by going back over it.
type second struct {
	roots  roots
	blocks map[uint64]*model.Block
}

func secondOf(s *model.State) *second {
	o := &second{blocks: map[uint64]*model.Block{}}
	for k := range o.roots {
		o.roots[k] = s.Root(k)
	}
	for _, h := range s.Handles() {
		b, _ := s.Block(h)
		o.blocks[h] = &b
	}
	return o
}

func (o *second) state() *model.State {
	blocks := map[uint64]model.Block{}
	for h, b := range o.blocks {
		blocks[h] = *b
	}
	return model.Of(o.roots, blocks)
}

// secondRun is a right program at work over it; of each thing that is done it keeps how that is undone.
type secondRun struct {
	*second
	d      model.Done
	r      regs
	given  args
	writes int
	pick   []uint64
	undo   []func()
	place  int
}

// run lets a right program run.
func (o *second) run(list []api.Instr, given args, fuel, writes int, pick []uint64) model.Done {
	w := &secondRun{second: o, given: given, writes: writes, pick: pick}
	for w.d.Steps < fuel {
		w.d.Steps++
		i := list[w.place]
		w.place++
		switch i.Op {
		case 20:
			w.d.Result.Val = w.r[i.A]
			return w.d
		case 21:
			return w.fail(api.ErrAbort, i.Imm)
		}
		if e := w.do(i); e != api.OK {
			return w.fail(e, 0)
		}
	}
	return w.fail(api.ErrFuel, 0)
}

func (w *secondRun) fail(e api.Errno, val uint64) model.Done {
	for _, f := range slices.Backward(w.undo) {
		f()
	}
	w.d.Result = api.Result{Code: e, Val: val}
	return w.d
}

// do does an instruction that doesn't end the program.
func (w *secondRun) do(i api.Instr) api.Errno {
	cell := w.find(i)
	if cell == nil && (i.Op >= 9 && i.Op <= 14 || i.Op == 16) {
		return api.ErrHandle
	}
	if costs := map[int]int{10: 1, 13: 1, 14: 1, 15: 9, 16: 2}[i.Op]; costs != 0 {
		if w.d.Writes+costs > w.writes {
			return api.ErrWrites
		}
		w.d.Writes += costs
	}
	a := &w.r[i.A]
	switch i.Op {
	case 9, 11, 12:
		*a = *cell
	case 10, 13, 14:
		was := *cell
		w.undo = append(w.undo, func() { *cell = was })
		*cell = *a
	case 15:
		return w.new(a)
	case 16:
		h, b := *a, w.blocks[*a]
		w.undo = append(w.undo, func() { w.blocks[h] = b })
		delete(w.blocks, h)
	case 17, 18, 19:
		if i.Op == 17 || i.Op == 18 && *a == 0 || i.Op == 19 && *a != 0 {
			w.place = int(i.Imm)
		}
	default:
		*a = reckoned(i, w.r, w.given)
	}
	return api.OK
}

// find is the root or the word that an instruction speaks of, of 16 a block's first one; nil: there is none.
func (w *secondRun) find(i api.Instr) *uint64 {
	h, word := w.r[i.B], i.Imm
	switch i.Op {
	case 9, 10:
		if h > 15 {
			return nil
		}
		return &w.roots[h]
	case 12, 14:
		word = w.r[i.C]
	case 16:
		h, word = w.r[i.A], 0
	}
	if w.blocks[h] == nil || word > 7 {
		return nil
	}
	return &w.blocks[h][word]
}

func (w *secondRun) new(a *uint64) api.Errno {
	n := len(w.d.News)
	if n >= len(w.pick) || w.pick[n] == 0 || w.pick[n] > 64 || w.blocks[w.pick[n]] != nil {
		return api.ErrMem
	}
	h := w.pick[n]
	w.undo = append(w.undo, func() { delete(w.blocks, h) })
	w.d.News = append(w.d.News, h)
	w.blocks[h] = &model.Block{}
	*a = h
	return api.OK
}

// reckoned is what a register becomes, read a second time.
func reckoned(i api.Instr, r regs, given args) uint64 {
	truth := map[bool]uint64{true: 1}
	switch i.Op {
	case 0:
		return i.Imm
	case 1:
		return r[i.B]
	case 2:
		return r[i.B] + r[i.C]
	case 3:
		return r[i.B] - r[i.C]
	case 4:
		return r[i.B] * r[i.C]
	case 5:
		if r[i.C] != 0 {
			return r[i.B] - r[i.B]/r[i.C]*r[i.C]
		}
		return r[i.B]
	case 6:
		return truth[r[i.B] == r[i.C]]
	case 7:
		return truth[r[i.B] < r[i.C]]
	}
	return given[i.Imm]
}

// numbers is a row of numbers that looks like chance, the same ones each time.
type numbers uint64

func (n *numbers) below(limit int) int {
	*n = *n*6364136223846793005 + 1442695040888963407
	return int(uint64(*n) >> 33 % uint64(limit))
}

// program is a right program; its registers are few, so that handles come to where they are used.
func (n *numbers) program() []api.Instr {
	list := make([]api.Instr, 2+n.below(24))
	for at := range list {
		i := api.Instr{Op: n.below(22)}
		if n.below(6) == 0 {
			i.Op = instr.New
		}
		switch {
		case at == len(list)-1:
			i.Op = instr.Return
		case i.Op == instr.Abort && n.below(3) > 0:
			i.Op = instr.Set
		case i.Op == instr.Return && n.below(3) > 0:
			i.Op = instr.Root
		}
		a, b, c, _ := instr.Uses(i.Op)
		for field, used := range []bool{a, b, c} {
			if used {
				*[]*int{&i.A, &i.B, &i.C}[field] = n.below(4)
			}
		}
		switch i.Op {
		case instr.Set:
			i.Imm = uint64(n.below(9))
		case instr.Arg:
			i.Imm = uint64(n.below(4))
		case instr.Read, instr.Write:
			i.Imm = uint64(n.below(8))
		case instr.Go, instr.Zero:
			i.Imm = uint64(at + 1 + n.below(min(3, len(list)-at-1)))
		case instr.Back:
			i.Imm = uint64(at - n.below(min(4, at+1)))
		case instr.Abort:
			i.Imm = uint64(1 + n.below(255))
		}
		list[at] = i
	}
	return list
}

// state is a state of a few blocks, whose handles stand in roots and words.
func (n *numbers) state() *model.State {
	var r roots
	for k := range r {
		r[k] = uint64(n.below(9))
	}
	blocks := map[uint64]model.Block{}
	for range n.below(6) {
		var b model.Block
		for w := range b {
			b[w] = uint64(n.below(9))
		}
		blocks[uint64(1+n.below(8))] = b
	}
	return model.Of(r, blocks)
}

// pick is handles, most of which may be taken.
func (n *numbers) pick() []uint64 {
	list := make([]uint64, n.below(12))
	for k := range list {
		list[k] = uint64(1 + n.below(40))
		if n.below(20) == 0 {
			list[k] = uint64(n.below(3) * 65)
		}
	}
	return list
}

func sameDone(a, b model.Done) bool {
	return a.Result == b.Result && a.Steps == b.Steps && a.Writes == b.Writes && slices.Equal(a.News, b.News)
}

// P6.1, P6.2: programs by chance come to what a second reading of the chapter comes to; one that doesn't return turns nothing; one that returned does with more fuel and more words, too.
func TestAnyProgram(t *testing.T) {
	n := numbers(11)
	met := map[api.Errno]int{}
	for range 60000 {
		list, s, pick := n.program(), n.state(), n.pick()
		given := args{uint64(n.below(9)), uint64(n.below(9)), uint64(n.below(9)), 1 << 63}
		fuel, writes := n.below(60)-1, n.below(40)-1
		was, o := s.Clone(), secondOf(s)
		d := s.Run(list, given, fuel, writes, pick)
		if want := o.run(list, given, fuel, writes, pick); !sameDone(d, want) || !s.Same(o.state()) {
			t.Fatalf("%v of %v, fuel %d, writes %d, of %v: %v, not %v", list, given, fuel, writes, pick, d, want)
		}
		met[d.Result.Code]++
		if d.Result.Code != api.OK {
			if !s.Same(was) {
				t.Fatalf("%v: error %d turned the state", list, d.Result.Code)
			}
			continue
		}
		for _, more := range [][2]int{{d.Steps, d.Writes}, {fuel + 1, writes}, {fuel, writes + 1}, {1 << 30, 1 << 30}} {
			c := was.Clone()
			if got := c.Run(list, given, more[0], more[1], pick); !sameDone(got, d) || !c.Same(s) {
				t.Fatalf("%v with fuel %d, writes %d: %v, not %v", list, more[0], more[1], got, d)
			}
		}
		// With one less of what it took it doesn't return.
		c := was.Clone()
		if got := c.Run(list, given, d.Steps-1, writes, pick); got.Result != (api.Result{Code: api.ErrFuel}) || got.Steps != d.Steps-1 || !c.Same(was) {
			t.Fatalf("%v with fuel %d: %v", list, d.Steps-1, got)
		}
		if d.Writes == 0 {
			continue
		}
		if got := c.Run(list, given, fuel, d.Writes-1, pick); got.Result != (api.Result{Code: api.ErrWrites}) || !c.Same(was) {
			t.Fatalf("%v with writes %d: %v", list, d.Writes-1, got)
		}
	}
	for _, e := range []api.Errno{api.OK, api.ErrAbort, api.ErrFuel, api.ErrWrites, api.ErrMem, api.ErrHandle} {
		if met[e] < 300 {
			t.Errorf("error %d came up only %d times", e, met[e])
		}
	}
}

// P2: what a run answers hangs on nothing but what it is given.
func TestAgain(t *testing.T) {
	n := numbers(13)
	for range 2000 {
		list, s, pick := n.program(), n.state(), n.pick()
		first, again := s.Clone(), s.Clone()
		a := first.Run(list, args{1, 2, 3, 4}, 99, 99, pick)
		b := again.Run(list, args{1, 2, 3, 4}, 99, 99, pick)
		if !sameDone(a, b) || !first.Same(again) {
			t.Fatalf("%v: %v, then %v", list, a, b)
		}
	}
}
