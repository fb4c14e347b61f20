package view_test

import (
	"testing"

	"tumbler/api"
	"tumbler/lay"
	"tumbler/view"
)

// numbers is a row of numbers that is the same each time.
type numbers uint64

func (n *numbers) below(limit int) int {
	*n = *n*6364136223846793005 + 1442695040888963407
	return int(uint64(*n>>33) % uint64(limit))
}

// second is the chapter read a second time: a reading is a row of steps, each struck off as it is told.
type second struct {
	m      lay.Map
	slot   int
	seq    uint64
	held   int
	block  int
	steps  []api.Op
	val    uint64
	status view.Status
}

func (s *second) begin(block int, steps ...api.Op) {
	if s.status == view.Stale {
		return
	}
	s.block, s.steps, s.val, s.status = block, steps, 0, view.Going
	if len(steps) == 0 {
		s.status = view.Good
	}
}

func (s *second) none() {
	if s.status != view.Stale {
		s.steps, s.val, s.status = nil, 0, view.Dead
	}
}

func (s *second) cell(at int) {
	kind, _, _ := s.m.What(at)
	switch kind {
	case lay.Tag, lay.Code, lay.Val, lay.Root, lay.Life, lay.Top, lay.Stack, lay.Lim, lay.Limbo:
		s.begin(-1, load(at))
	default:
		s.none()
	}
}

func (s *second) living(block int) []api.Op {
	if block == s.held {
		return nil
	}
	return []api.Op{{Kind: 1, At: s.slot, New: api.Cell{Val: uint64(block + 1)}}, load(s.m.At(lay.Life, block, 0))}
}

func (s *second) live(block int) {
	if block < 0 || block >= s.m.Cfg().Blocks {
		s.none()
		return
	}
	s.begin(block, s.living(block)...)
}

func (s *second) word(block, w int) {
	if block < 0 || block >= s.m.Cfg().Blocks || w < 0 || w >= 8 {
		s.none()
		return
	}
	s.begin(block, append(s.living(block), load(s.m.At(lay.Word, block, w)))...)
}

func (s *second) tell(out api.Out) {
	if len(s.steps) == 0 {
		return
	}
	step := s.steps[0]
	s.steps = s.steps[1:]
	kind, _, _ := s.m.What(step.At)
	switch {
	case kind == lay.Slot:
		s.held = -1
		return
	case out.Was.Seq > s.seq:
		s.steps, s.status = nil, view.Stale
	case s.block >= 0 && kind == lay.Life && out.Was.Val != 1:
		s.steps, s.status = nil, view.Dead
	case s.block >= 0 && kind == lay.Life:
		s.held = s.block
		if len(s.steps) == 0 {
			s.status = view.Good
		}
	default:
		s.val, s.status = out.Was.Val, view.Good
	}
}

// both begins one reading in a view and in its second, most times of something that there is.
func (n *numbers) both(v *view.View, s *second) {
	cfg := s.m.Cfg()
	block, w, at := n.below(cfg.Blocks+2)-1, n.below(10)-1, n.below(s.m.Size()+2)-1
	switch n.below(3) {
	case 0:
		v.Cell(at)
		s.cell(at)
	case 1:
		v.Live(block)
		s.live(block)
	case 2:
		v.Word(block, w)
		s.word(block, w)
	}
}

func (n *numbers) reply() api.Out {
	val := []uint64{0, 1, 1, 1, 1, 1, 2, 3, 1 << 63}[n.below(9)]
	seq := []uint64{0, 5, 6, 6, 6}[n.below(5)]
	if n.below(25) == 0 {
		seq = []uint64{7, 1 << 50, 1<<64 - 1}[n.below(3)]
	}
	return api.Out{Was: api.Cell{Val: val, Seq: seq}, Ok: n.below(2) == 0}
}

// slotWatch is what the steps told of a view's slot: which block it names (-1: none), and whether that was told to live behind that.
type slotWatch struct {
	m     lay.Map
	seq   uint64
	names int
	lives bool
}

// step tells a fault if a step asks for a word of another block, or of one of which nothing is known.
func (s *slotWatch) step(t *testing.T, op api.Op, out api.Out) {
	t.Helper()
	switch kind, i, _ := s.m.What(op.At); kind {
	case lay.Slot:
		s.names, s.lives = int(op.New.Val)-1, false
	case lay.Life:
		s.lives = s.lives || i == s.names && out.Was.Val == 1 && out.Was.Seq <= s.seq
	case lay.Word:
		if i != s.names || !s.lives || op.Kind != api.Load {
			t.Errorf("a word of the block %d is asked for; the slot names %d, known to live: %v", i, s.names, s.lives)
		}
	}
}

// P9.1, P9.2: readings of all kinds, whatever replies come, against the chapter read a second time, and against what the slot names.
func TestAnyReplies(t *testing.T) {
	n := numbers(9)
	sizes := []lay.Map{mapOf(t, 1, 1, 0), mapOf(t, 2, 3, 4), mapOf(t, 8, 5, 1), mapOf(t, 3, 64, 2)}
	seen := map[view.Status]int{}
	for range 4000 {
		m := sizes[n.below(len(sizes))]
		who := n.below(m.Cfg().Threads)
		v := view.New(m, who, 6)
		s := &second{m: m, slot: m.At(lay.Slot, who, 0), seq: 6, held: -1, status: view.Good}
		watch := &slotWatch{m: m, seq: 6, names: -1}
		for range 12 {
			n.both(v, s)
			for {
				stands(t, "at random", v, s.held, s.val, s.status, s.steps...)
				op, ok := v.Ask()
				out := n.reply()
				v.Tell(out)
				s.tell(out)
				if !ok {
					break
				}
				watch.step(t, op, out)
			}
			_, how := v.End()
			seen[how]++
		}
		if t.Failed() {
			return
		}
	}
	for _, s := range []view.Status{view.Good, view.Stale, view.Dead} {
		if seen[s] < 1000 {
			t.Errorf("only %d readings that end so: %d", seen[s], s)
		}
	}
}

// P2: two views of one memory know nothing of each other.
func TestApart(t *testing.T) {
	m := mapOf(t, 2, 3, 4)
	a, b := view.New(m, 0, 6), view.New(m, 0, 5)
	a.Live(1)
	b.Word(2, 2)
	a.Tell(was(0, 0))
	a.Tell(was(1, 6))
	b.Tell(was(0, 0))
	b.Tell(was(1, 6))
	stands(t, "the first one", a, 1, 0, view.Good)
	stands(t, "the second one", b, -1, 0, view.Stale)
}
