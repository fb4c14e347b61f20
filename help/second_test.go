package help_test

import (
	"slices"
	"testing"

	"tumbler/api"
	"tumbler/help"
	"tumbler/lay"
	"tumbler/wset"
)

// numbers is a row of numbers that is the same each time.
type numbers uint64

func (n *numbers) below(limit int) int {
	*n = *n*6364136223846793005 + 1442695040888963407
	return int(uint64(*n>>33) % uint64(limit))
}

// second is the chapter read a second time: straight on, each step answered at once, and written down.
type second struct {
	desk
	n     *numbers
	steps []step
}

// do does a step, and tells what the cell held.
func (s *second) do(op api.Op) api.Cell {
	was := s.n.reply(s.desk, op.At)
	s.steps = append(s.steps, step{op, was})
	return was
}

func (s *second) load(at int) api.Cell { return s.do(api.Op{At: at}) }

func (s *second) beingDone() bool {
	is := s.load(s.at(lay.Open, s.owner, 0))
	return is.Val == 1 && is.Seq == s.seq
}

// read reads the log; false: the transaction isn't being done.
func (s *second) read() ([]wset.Entry, bool) {
	var list []wset.Entry
	count := s.load(s.at(lay.Len, s.owner, 0)).Val
	for i := range s.m.Cap() {
		if uint64(i) < count {
			c := s.load(s.at(lay.Log, s.owner, i))
			list = append(list, wset.Entry{At: int(min(c.Seq, 1<<16)), Val: c.Val})
		}
	}
	return list, s.beingDone()
}

// write does the entries.
func (s *second) write(list []wset.Entry) {
	held := -1
	for _, e := range list {
		kind, block, _ := s.m.What(e.At)
		if !slices.Contains([]int{7, 8, 9, 10, 11, 12, 13, 14, 15, 16}, kind) {
			continue
		}
		if kind == 16 && block != held {
			s.do(api.Op{Kind: 1, At: s.at(lay.Slot, s.who, 0), New: api.Cell{Val: uint64(block + 1)}})
			if !s.beingDone() {
				return
			}
			held = block
		}
		if was := s.load(e.At); was.Seq < s.seq {
			s.do(api.Op{Kind: 2, At: e.At, Old: was, New: api.Cell{Val: e.Val, Seq: s.seq}})
		}
	}
	s.do(api.Op{Kind: 2, At: s.at(lay.Open, s.owner, 0), Old: api.Cell{Val: 1, Seq: s.seq}, New: api.Cell{Seq: s.seq}})
}

// cell is the number of a cell, most times of one that transactions write, and often of a word.
func (n *numbers) cell(m lay.Map) int {
	switch n.below(4) {
	case 0:
		return n.below(m.Size()+6) - 3
	case 1:
		return m.At(lay.Root, n.below(api.Roots), 0)
	}
	return m.At(lay.Word, n.below(min(3, m.Cfg().Blocks)), n.below(api.Words))
}

// reply is what a cell may hold: most times something by which it goes on.
func (n *numbers) reply(d desk, at int) api.Cell {
	kind, _, _ := d.m.What(at)
	any := api.Cell{Val: uint64(n.below(4)), Seq: d.seq + uint64(n.below(3)) - 2}
	switch {
	case kind == lay.Len && n.below(20) == 0:
		return api.Cell{Val: 1 << n.below(64)}
	case kind == lay.Len:
		return api.Cell{Val: uint64(n.below(8)), Seq: any.Seq}
	case kind == lay.Log && n.below(20) == 0:
		return api.Cell{Val: any.Val, Seq: uint64(n.cell(d.m)) + 1<<n.below(64)}
	case kind == lay.Log:
		return api.Cell{Val: any.Val, Seq: uint64(n.cell(d.m))}
	case kind == lay.Open && n.below(8) > 0:
		return api.Cell{Val: 1, Seq: d.seq}
	}
	return any
}

// P12.1: any replies, against the chapter read a second time.
func TestAnyReplies(t *testing.T) {
	n := numbers(12)
	sizes := []lay.Map{mapOf(t, 1, 1, 0), mapOf(t, 2, 3, 4), mapOf(t, 8, 5, 1), mapOf(t, 3, 64, 2)}
	ends := map[int]int{}
	for range 6000 {
		m := sizes[n.below(len(sizes))]
		s := &second{desk: desk{m, n.below(m.Cfg().Threads), n.below(m.Cfg().Threads), uint64(2 + n.below(5))}, n: &n}
		var h *help.Help
		if n.below(2) == 0 {
			h = s.help()
			if list, ok := s.read(); ok {
				s.write(list)
			}
		} else {
			s.owner = s.who
			var list []wset.Entry
			for range n.below(8) {
				list = append(list, wset.Entry{At: n.cell(m), Val: uint64(n.below(4))})
			}
			h = help.Own(m, s.who, s.seq, list)
			s.write(list)
		}
		asks(t, "at random", h, s.steps)
		touches(t, s)
		if t.Failed() {
			return
		}
		ends[s.steps[len(s.steps)-1].op.Kind]++
	}
	if ends[api.Load] < 1000 || ends[api.Swap] < 1000 {
		t.Errorf("not both ends are often: %v", ends)
	}
}

// touches tells a fault if a step is of a word of a block but that which the slot names, and behind which the transaction was being done.
func touches(t *testing.T, s *second) {
	t.Helper()
	names, known := -1, false
	for i, e := range s.steps {
		switch kind, block, _ := s.m.What(e.op.At); {
		case kind == lay.Slot:
			names, known = int(e.op.New.Val)-1, false
		case kind == lay.Open && e.op.Kind == api.Load:
			known = e.was == api.Cell{Val: 1, Seq: s.seq}
		case kind == lay.Word && (block != names || !known):
			t.Errorf("step %d is of the block %d; the slot names %d, known: %v", i, block, names, known)
		}
	}
}
