package scribe_test

import (
	"math"
	"slices"
	"testing"

	"tumbler/api"
	"tumbler/lay"
	"tumbler/scribe"
	"tumbler/wset"
)

// mapOf is a map of so many threads, blocks and words to write.
func mapOf(t *testing.T, threads, blocks, writes int) lay.Map {
	t.Helper()
	m, e := lay.Of(api.Cfg{Threads: threads, Blocks: blocks, Writes: writes, Fuel: 1, Last: api.MaxSeq})
	if e != api.OK {
		t.Fatalf("no map: error %d", e)
	}
	return m
}

func store(at int, val, seq uint64) api.Op {
	return api.Op{Kind: api.Store, At: at, New: api.Cell{Val: val, Seq: seq}}
}

// log is the steps by which a thread's log is written, the chapter read a second time.
func log(m lay.Map, who int, seq uint64, list []wset.Entry) []api.Op {
	var ops []api.Op
	for k := 0; k < len(list) && k < m.Cap(); k++ {
		ops = append(ops, store(m.At(lay.Log, who, k), list[k].Val, uint64(int64(list[k].At))))
	}
	count := uint64(len(ops))
	return append(ops, store(m.At(lay.Len, who, 0), count, 0), store(m.At(lay.Open, who, 0), 1, seq))
}

// asks tells a fault unless just these steps are asked for, however often it is asked, and whatever is told of them.
func asks(t *testing.T, name string, s *scribe.Scribe, ops []api.Op) {
	t.Helper()
	outs := []api.Out{{}, {Ok: true}, {Was: api.Cell{Val: 1, Seq: math.MaxUint64}}, {Was: api.Cell{Val: math.MaxUint64}, Ok: true}}
	for i, want := range ops {
		for range 2 {
			if op, ok := s.Ask(); op != want || !ok || s.Done() {
				t.Errorf("%s: step %d: %v, %v, not %v; done: %v", name, i, op, ok, want, s.Done())
				return
			}
		}
		s.Tell(outs[i%len(outs)])
	}
	for i := range 4 {
		if op, ok := s.Ask(); op != (api.Op{}) || ok || !s.Done() {
			t.Errorf("%s: at the end: %v, %v; done: %v", name, op, ok, s.Done())
		}
		s.Tell(outs[i])
	}
}

// P13.1: the chapter's example: one entry, three Stores.
func TestExample(t *testing.T) {
	m := mapOf(t, 2, 3, 4)
	asks(t, "the example", scribe.New(m, 1, 6, []wset.Entry{{At: 130, Val: 9}}), []api.Op{
		store(m.At(lay.Log, 1, 0), 9, 130),
		store(m.At(lay.Len, 1, 0), 1, 0),
		store(m.At(lay.Open, 1, 0), 1, 6),
	})
}

// P13.1: two entries, step by step, in the cells where they are to stand: of two threads each has 8 cells and a log of 46.
func TestPlaces(t *testing.T) {
	m := mapOf(t, 2, 3, 4)
	list := []wset.Entry{{At: 7, Val: 1 << 40}, {At: 0, Val: 0}}
	asks(t, "the first thread", scribe.New(m, 0, 1, list), []api.Op{
		store(9, 1<<40, 7), store(10, 0, 0), store(8, 2, 0), store(7, 1, 1),
	})
	asks(t, "the second thread", scribe.New(m, 1, api.MaxSeq, list), []api.Op{
		store(63, 1<<40, 7), store(64, 0, 0), store(62, 2, 0), store(61, 1, api.MaxSeq),
	})
}

// P13.1: of no entries only how many there are, and the number.
func TestNone(t *testing.T) {
	m := mapOf(t, 3, 3, 4)
	ops := []api.Op{store(m.At(lay.Len, 2, 0), 0, 0), store(m.At(lay.Open, 2, 0), 1, 6)}
	asks(t, "nil", scribe.New(m, 2, 6, nil), ops)
	asks(t, "empty", scribe.New(m, 2, 6, []wset.Entry{}), ops)
}

// P13.1: any number of a transaction, any number of a cell, also of none, and any Val; one cell twice stands twice.
func TestAnyNumbers(t *testing.T) {
	m := mapOf(t, 2, 3, 4)
	for _, seq := range []uint64{0, 1, 6, 1 << 32, api.MaxSeq, math.MaxUint64} {
		var list []wset.Entry
		for _, at := range []int{0, -1, -2, 5, 5, math.MinInt, math.MaxInt, 1 << 16, 1<<32 + 5, -1 << 32} {
			list = append(list, wset.Entry{At: at, Val: seq - uint64(len(list))})
		}
		asks(t, "any numbers", scribe.New(m, 0, seq, list), log(m, 0, seq, list))
	}
	asks(t, "below 0", scribe.New(m, 0, 6, []wset.Entry{{At: -4, Val: 1}, {At: math.MinInt}}), []api.Op{
		store(m.At(lay.Log, 0, 0), 1, math.MaxUint64-3),
		store(m.At(lay.Log, 0, 1), 0, 1<<63),
		store(m.At(lay.Len, 0, 0), 2, 0),
		store(m.At(lay.Open, 0, 0), 1, 6),
	})
}

// P13.1: entries above the first Cap aren't written, nor counted.
func TestCap(t *testing.T) {
	for _, m := range []lay.Map{mapOf(t, 1, 1, 0), mapOf(t, 2, 3, 4), mapOf(t, 8, 64, 64)} {
		who := m.Cfg().Threads - 1
		for _, n := range []int{m.Cap() - 1, m.Cap(), m.Cap() + 1, 2*m.Cap() + 5} {
			list := make([]wset.Entry, n)
			for i := range list {
				list[i] = wset.Entry{At: i, Val: uint64(n - i)}
			}
			ops := log(m, who, 6, list)
			if written := min(n, m.Cap()); len(ops) != written+2 || ops[written].New.Val != uint64(written) {
				t.Fatalf("of %d entries %d steps", n, len(ops))
			}
			asks(t, "a long list", scribe.New(m, who, 6, list), ops)
		}
	}
}

// P13.1: each thread writes its own log; no two of them a cell of the other.
func TestThreads(t *testing.T) {
	m := mapOf(t, 8, 3, 2)
	writer := map[int]int{}
	list := make([]wset.Entry, m.Cap())
	for who := range 8 {
		s := scribe.New(m, who, 6, list)
		for op, ok := s.Ask(); ok; op, ok = s.Ask() {
			if other, twice := writer[op.At]; twice {
				t.Errorf("the cell %d is written by %d and by %d", op.At, other, who)
			}
			writer[op.At] = who
			if kind, i, _ := m.What(op.At); i != who || kind != lay.Log && kind != lay.Len && kind != lay.Open {
				t.Errorf("the thread %d writes the cell %d, of the kind %d, of %d", who, op.At, kind, i)
			}
			s.Tell(api.Out{})
		}
	}
	if len(writer) != 8*(m.Cap()+2) {
		t.Errorf("%d cells are written", len(writer))
	}
}

// P2: entries that are handed in are written as they were, and aren't turned, nor what stands behind their length.
func TestEntriesHandedIn(t *testing.T) {
	m := mapOf(t, 2, 3, 4)
	room := []wset.Entry{{At: 1, Val: 2}, {At: 3, Val: 4}, {At: 5, Val: 6}}
	was := slices.Clone(room)
	a, b := scribe.New(m, 0, 6, room[:2]), scribe.New(m, 1, 7, room[:2])
	asks(t, "the first one", a, log(m, 0, 6, was[:2]))
	if !slices.Equal(room, was) {
		t.Errorf("turned: %v", room)
	}
	clear(room)
	asks(t, "the second one", b, log(m, 1, 7, was[:2]))
}

// P1: threads that there aren't, and maps that Of didn't tell, let nothing panic or go on for ever.
func TestOfNoSuchThreads(t *testing.T) {
	for _, m := range []lay.Map{mapOf(t, 2, 3, 4), {}} {
		for _, who := range []int{math.MinInt, -1, 2, 8, math.MaxInt} {
			s := scribe.New(m, who, 6, make([]wset.Entry, 99))
			for range m.Cap() + 2 {
				s.Ask()
				s.Tell(api.Out{})
			}
			if !s.Done() {
				t.Errorf("of the thread %d: it isn't written", who)
			}
		}
	}
}
