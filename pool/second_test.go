package pool_test

import (
	"slices"
	"testing"

	"tumbler/api"
	"tumbler/lay"
	"tumbler/pool"
	"tumbler/view"
	"tumbler/wset"
)

// numbers is a row of numbers that is the same each time.
type numbers uint64

func (n *numbers) below(limit int) int {
	*n = *n*6364136223846793005 + 1442695040888963407
	return int(uint64(*n>>33) % uint64(limit))
}

// second is the chapter read a second time: all that is to be read is a row of places, and what is in limbo a list.
type second struct {
	m             lay.Map
	seq           uint64
	places        []int
	vals          []uint64
	status        view.Status
	top, lim      int
	wasTop, wasIn int
	w             *wset.Set
}

func secondOf(m lay.Map, seq uint64) *second {
	s := &second{m: m, seq: seq}
	for i := range m.Cfg().Threads {
		s.places = append(s.places, m.At(lay.Slot, i, 0))
	}
	s.places = append(s.places, m.At(lay.Top, 0, 0), m.At(lay.Lim, 0, 0))
	return s
}

func (s *second) tell(c api.Cell) {
	if s.status != view.Going {
		return
	}
	threads := s.m.Cfg().Threads
	n := len(s.vals)
	if n >= threads && c.Seq > s.seq {
		s.status = view.Stale
		return
	}
	s.vals = append(s.vals, c.Val)
	if n == threads {
		s.top = int(min(c.Val, uint64(s.m.Cfg().Blocks)))
	}
	if n == threads+1 {
		s.lim = int(min(c.Val, uint64(s.m.Limit())))
		for i := range s.lim {
			s.places = append(s.places, s.m.At(lay.Limbo, i, 0))
		}
	}
	if len(s.vals) == len(s.places) {
		s.status = view.Good
		s.wasTop, s.wasIn = s.top, s.lim
	}
}

func (s *second) put(kind, i, k int, val uint64) { s.w.Put(s.m.At(kind, i, k), val) }

func (s *second) settle() {
	threads := s.m.Cfg().Threads
	slots, limbo := s.vals[:threads], s.vals[threads+2:]
	s.lim = 0
	for i, b := range limbo {
		if b > uint64(s.m.Cfg().Blocks-1) {
			continue
		}
		if slices.Contains(slots, b+1) {
			if i > s.lim {
				s.put(lay.Limbo, s.lim, 0, b)
			}
			s.lim++
			continue
		}
		s.put(lay.Life, int(b), 0, 0)
		if s.top != s.m.Cfg().Blocks {
			s.put(lay.Stack, s.top, 0, b)
			s.top++
		}
	}
}

func (s *second) take(b int) {
	if s.top > 0 && s.m.At(lay.Life, b, 0) >= 0 {
		s.top--
		s.put(lay.Life, b, 0, 1)
		for k := range 8 {
			s.put(lay.Word, b, k, 0)
		}
	}
}

func (s *second) give(b int) {
	if s.m.At(lay.Limbo, s.lim, 0) >= 0 && s.m.At(lay.Life, b, 0) >= 0 {
		s.put(lay.Life, b, 0, 2)
		s.put(lay.Limbo, s.lim, 0, uint64(b))
		s.lim++
	}
}

func (s *second) end() {
	if s.top != s.wasTop {
		s.put(lay.Top, 0, 0, uint64(s.top))
	}
	if s.lim != s.wasIn {
		s.put(lay.Lim, 0, 0, uint64(s.lim))
	}
}

// like tells a fault unless a pool, and the set that it writes, stand as the second one and its set.
func (s *second) like(t *testing.T, p *pool.Pool, w *wset.Set) {
	t.Helper()
	if p.Mark() != (pool.Mark{Top: s.top, Lim: s.lim}) {
		t.Errorf("%v, not %d and %d", p.Mark(), s.top, s.lim)
	}
	at, ok := p.Top()
	if at != s.m.At(lay.Stack, s.top-1, 0) || ok != (s.top > 0) {
		t.Errorf("Top: %d, %v", at, ok)
	}
	if !slices.Equal(w.All(), s.w.All()) {
		t.Errorf("%v, not %v", w.All(), s.w.All())
	}
}

// reply is what a cell may hold: most times a number that means something.
func (n *numbers) reply() api.Out {
	val := uint64(n.below(6))
	if n.below(15) == 0 {
		val = []uint64{9, 64, 1 << 20, 1 << 63, 1<<64 - 1}[n.below(5)]
	}
	seq := uint64(n.below(6))
	if n.below(60) == 0 {
		seq = []uint64{6, 1 << 40, 1<<64 - 1}[n.below(3)]
	}
	return api.Out{Was: api.Cell{Val: val, Seq: seq}, Ok: n.below(2) == 0}
}

// read tells a pool and its second the same replies, till both ask for nothing more.
func (n *numbers) read(t *testing.T, p *pool.Pool, s *second) {
	t.Helper()
	for {
		op, ok := p.Ask()
		if p.Status() != s.status || ok != (s.status == view.Going) {
			t.Fatalf("status %d, not %d; %v, %v", p.Status(), s.status, op, ok)
		}
		if !ok {
			return
		}
		if want := (api.Op{Kind: api.Load, At: s.places[len(s.vals)]}); op != want {
			t.Errorf("%v, not %v", op, want)
		}
		out := n.reply()
		if len(s.vals) < s.m.Cfg().Threads {
			out.Was.Seq = uint64(n.below(9))
		}
		p.Tell(out)
		s.tell(out.Was)
	}
}

// P10.1: any replies, then any takes, gives and marks, against the chapter read a second time.
func TestAnyReplies(t *testing.T) {
	n := numbers(10)
	sizes := []lay.Map{mapOf(t, 1, 1, 0), mapOf(t, 2, 3, 4), mapOf(t, 8, 5, 1), mapOf(t, 3, 64, 2), mapOf(t, 2, 5, 0)}
	good := 0
	for range 5000 {
		m := sizes[n.below(len(sizes))]
		p, s := pool.New(m, 5), secondOf(m, 5)
		n.read(t, p, s)
		if p.Status() != view.Good {
			continue
		}
		good++
		room := n.below(60)
		w := wset.New(room)
		s.w = wset.New(room)
		s.like(t, p, w)
		p.Settle(w)
		s.settle()
		s.like(t, p, w)
		mark := p.Mark()
		for range 12 {
			b := n.below(m.Cfg().Blocks+2) - 1
			switch n.below(8) {
			case 0, 1, 2:
				p.Take(w, b)
				s.take(b)
			case 3, 4, 5:
				p.Give(w, b)
				s.give(b)
			case 6:
				mark = p.Mark()
			case 7:
				p.Back(mark)
				s.top, s.lim = mark.Top, mark.Lim
			}
			s.like(t, p, w)
		}
		p.End(w)
		s.end()
		s.like(t, p, w)
		if t.Failed() {
			return
		}
	}
	if good < 3000 {
		t.Errorf("only %d pools that are Good", good)
	}
}

// memory is where blocks stand: how each lives, which are free, which in limbo, and what slots hold.
func (n *numbers) memory(m lay.Map) (cells map[int]uint64, lives, slots []uint64) {
	cells = map[int]uint64{}
	free, limbo := 0, 0
	cfg := m.Cfg()
	begin := n.below(cfg.Blocks)
	for i := range cfg.Blocks {
		b := (begin + i) % cfg.Blocks
		life := uint64(n.below(3))
		if life == 2 && limbo == m.Limit() {
			life = 1
		}
		switch life {
		case 0:
			cells[m.At(lay.Stack, free, 0)] = uint64(b)
			free++
		case 2:
			cells[m.At(lay.Limbo, limbo, 0)] = uint64(b)
			limbo++
		}
		cells[m.At(lay.Life, b, 0)] = life
	}
	for b := range cfg.Blocks {
		lives = append(lives, cells[m.At(lay.Life, b, 0)])
	}
	for i := range cfg.Threads {
		slots = append(slots, uint64(n.below(cfg.Blocks+1)))
		cells[m.At(lay.Slot, i, 0)] = slots[i]
	}
	cells[m.At(lay.Top, 0, 0)] = uint64(free)
	cells[m.At(lay.Lim, 0, 0)] = uint64(limbo)
	return cells, lives, slots
}

// P10.2: behind the settling just what slots name, of what was in limbo, is there yet; all else of it is free, each just once.
func TestWhatStays(t *testing.T) {
	n := numbers(11)
	sizes := []lay.Map{mapOf(t, 1, 1, 0), mapOf(t, 2, 3, 4), mapOf(t, 8, 5, 1), mapOf(t, 3, 64, 10), mapOf(t, 2, 64, 64)}
	for range 2000 {
		m := sizes[n.below(len(sizes))]
		cells, lives, slots := n.memory(m)
		p := pool.New(m, 5)
		for op, ok := p.Ask(); ok; op, ok = p.Ask() {
			p.Tell(was(cells[op.At], 5))
		}
		w := wset.New(m.Cap())
		p.Settle(w)
		p.End(w)
		for _, e := range w.All() {
			cells[e.At] = e.Val
		}
		for b, life := range lives {
			if life == 2 && !slices.Contains(slots, uint64(b)+1) {
				life = 0
			}
			if got := cells[m.At(lay.Life, b, 0)]; got != life {
				t.Errorf("block %d: Life %d, not %d", b, got, life)
			}
			if free := times(m, cells, lay.Stack, lay.Top, b); free != int(1-min(life, 1)) {
				t.Errorf("block %d, of Life %d: free %d times", b, life, free)
			}
			if limbo := times(m, cells, lay.Limbo, lay.Lim, b); limbo != int(life/2) {
				t.Errorf("block %d, of Life %d: in limbo %d times", b, life, limbo)
			}
		}
		if stay := cells[m.At(lay.Lim, 0, 0)]; stay > uint64(m.Cfg().Threads) {
			t.Errorf("%d stay, of %d threads", stay, m.Cfg().Threads)
		}
		if t.Failed() {
			return
		}
	}
}

// times is how often a block's number stands below a count.
func times(m lay.Map, cells map[int]uint64, kind, count, b int) int {
	n := 0
	for i := range int(cells[m.At(count, 0, 0)]) {
		if cells[m.At(kind, i, 0)] == uint64(b) {
			n++
		}
	}
	return n
}

// P2: two pools of one memory, and their sets, know nothing of each other.
func TestApart(t *testing.T) {
	m := mapOf(t, 2, 3, 4)
	a, b := readFrom(t, m, []uint64{0, 0}, 1, 1, 2), readFrom(t, m, []uint64{3, 0}, 1, 1, 2)
	v, w := wset.New(9), wset.New(9)
	a.Settle(v)
	b.Settle(w)
	b.Give(w, 1)
	stands(t, "the first one", a, 2, 0)
	stands(t, "the second one", b, 1, 2)
	writes(t, "the first one", v, entry(m, lay.Life, 2, 0, 0), entry(m, lay.Stack, 1, 0, 2))
	writes(t, "the second one", w, entry(m, lay.Life, 1, 0, 2), entry(m, lay.Limbo, 1, 0, 1))
}
