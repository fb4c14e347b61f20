package cell_test

import (
	"math"
	"slices"
	"testing"

	"tumbler/api"
	"tumbler/cell"
)

func made(t *testing.T, size int) *cell.Mem {
	t.Helper()
	m, e := cell.New(size)
	if m == nil || e != api.OK {
		t.Fatalf("New(%d): %v, %d", size, m, e)
	}
	return m
}

func do(t *testing.T, m *cell.Mem, who int, op api.Op) api.Out {
	t.Helper()
	out, e := m.Do(who, op)
	if e != api.OK {
		t.Fatalf("Do(%d, %v): error %d", who, op, e)
	}
	return out
}

func peek(t *testing.T, m *cell.Mem, at int) api.Cell {
	t.Helper()
	c, ok := m.Peek(at)
	if !ok {
		t.Fatalf("Peek(%d): no cell", at)
	}
	return c
}

// P1.1: sizes that may be, and the first ones that may not.
func TestNew(t *testing.T) {
	for _, size := range []int{math.MinInt, -1, api.MaxCells + 1, math.MaxInt} {
		if m, e := cell.New(size); m != nil || e != api.ErrArg {
			t.Errorf("New(%d): %v, %d", size, m, e)
		}
	}
	for _, size := range []int{0, 1, 173, api.MaxCells} {
		m := made(t, size)
		if m.Size() != size || m.Total() != 0 || len(m.Events()) != 0 {
			t.Errorf("New(%d): size %d, %d steps, %d events", size, m.Size(), m.Total(), len(m.Events()))
		}
		for at := range size {
			if c := peek(t, m, at); c != (api.Cell{}) {
				t.Fatalf("New(%d): the cell %d is %v", size, at, c)
			}
		}
		if _, ok := m.Peek(size); ok {
			t.Errorf("New(%d): there is a cell %d", size, size)
		}
	}
}

// P1.1: what each kind of step does to a cell, and tells.
func TestKinds(t *testing.T) {
	was := api.Cell{Val: 7, Seq: 2}
	other := api.Cell{Val: 9, Seq: 5}
	for name, c := range map[string]struct {
		op      api.Op
		ok      bool
		becomes api.Cell
	}{
		"load":                       {api.Op{Kind: api.Load}, true, was},
		"load, other fields set":     {api.Op{Kind: api.Load, Old: other, New: other}, true, was},
		"store":                      {api.Op{Kind: api.Store, New: other}, true, other},
		"store, noughts":             {api.Op{Kind: api.Store}, true, api.Cell{}},
		"store, another Old":         {api.Op{Kind: api.Store, Old: other, New: api.Cell{Val: 1, Seq: 1}}, true, api.Cell{Val: 1, Seq: 1}},
		"swap":                       {api.Op{Kind: api.Swap, Old: was, New: other}, true, other},
		"swap for the same":          {api.Op{Kind: api.Swap, Old: was, New: was}, true, was},
		"swap, another value":        {api.Op{Kind: api.Swap, Old: api.Cell{Val: 8, Seq: 2}, New: other}, false, was},
		"swap, another number":       {api.Op{Kind: api.Swap, Old: api.Cell{Val: 7, Seq: 3}, New: other}, false, was},
		"swap, value and number off": {api.Op{Kind: api.Swap, Old: api.Cell{Val: 2, Seq: 7}, New: other}, false, was},
		"swap, noughts told":         {api.Op{Kind: api.Swap, New: other}, false, was},
		"swap, New is what it is":    {api.Op{Kind: api.Swap, Old: other, New: was}, false, was},
		"add":                        {api.Op{Kind: api.Add, New: api.Cell{Val: 5}}, true, api.Cell{Val: 12, Seq: 2}},
		"add nothing":                {api.Op{Kind: api.Add}, true, was},
		"add, the number stays":      {api.Op{Kind: api.Add, New: api.Cell{Val: 1, Seq: 9}}, true, api.Cell{Val: 8, Seq: 2}},
		"add, another Old":           {api.Op{Kind: api.Add, Old: other, New: api.Cell{Val: 1}}, true, api.Cell{Val: 8, Seq: 2}},
		"add, round to nought":       {api.Op{Kind: api.Add, New: api.Cell{Val: math.MaxUint64 - 6}}, true, api.Cell{Seq: 2}},
		"add, one less":              {api.Op{Kind: api.Add, New: api.Cell{Val: math.MaxUint64}}, true, api.Cell{Val: 6, Seq: 2}},
	} {
		m := made(t, 3)
		m.Set(1, was)
		c.op.At = 1
		if out := do(t, m, 0, c.op); out != (api.Out{Was: was, Ok: c.ok}) {
			t.Errorf("%s: told %v", name, out)
		}
		if got := peek(t, m, 1); got != c.becomes {
			t.Errorf("%s: the cell is %v", name, got)
		}
		if peek(t, m, 0) != (api.Cell{}) || peek(t, m, 2) != (api.Cell{}) {
			t.Errorf("%s: another cell was turned", name)
		}
		if m.Steps(0) != 1 || m.Total() != 1 {
			t.Errorf("%s: %d steps", name, m.Steps(0))
		}
		if want := []api.Event{{Who: 0, Op: c.op, Out: api.Out{Was: was, Ok: c.ok}}}; !slices.Equal(m.Events(), want) {
			t.Errorf("%s: events %v", name, m.Events())
		}
	}
}

// P1.1: the first and the last cell, and the first and the last thread.
func TestEdges(t *testing.T) {
	m := made(t, 4)
	for _, who := range []int{0, 7} {
		for _, at := range []int{0, 3} {
			c := api.Cell{Val: uint64(10*who + at + 1)}
			do(t, m, who, api.Op{Kind: api.Store, At: at, New: c})
			if peek(t, m, at) != c {
				t.Errorf("the thread %d doesn't turn the cell %d", who, at)
			}
		}
	}
	if m.Steps(0) != 2 || m.Steps(7) != 2 {
		t.Errorf("%d and %d steps", m.Steps(0), m.Steps(7))
	}
}

// P1.1: errors in their order; what is refused is no step, and does nothing.
func TestDoRefuses(t *testing.T) {
	kinds := []int{math.MinInt, -1, 4, math.MaxInt}
	places := []int{math.MinInt, -1, 3, api.MaxCells, math.MaxInt}
	full := api.Op{Kind: api.Store, At: 1, New: api.Cell{Val: 1, Seq: 1}}
	m := made(t, 3)
	refused := func(who int, op api.Op, want api.Errno) {
		t.Helper()
		if out, e := m.Do(who, op); e != want || out != (api.Out{}) {
			t.Errorf("Do(%d, %v): %v, %d, not %d", who, op, out, e, want)
		}
	}
	for _, who := range []int{math.MinInt, -1, 8, math.MaxInt} {
		refused(who, full, api.ErrArg)
		refused(who, api.Op{Kind: 4, At: 1}, api.ErrArg)
		refused(who, api.Op{Kind: api.Load, At: 3}, api.ErrArg)
		refused(who, api.Op{Kind: -1, At: -1}, api.ErrArg)
	}
	for _, kind := range kinds {
		refused(0, api.Op{Kind: kind, At: 1, New: full.New}, api.ErrKind)
		for _, at := range places {
			refused(7, api.Op{Kind: kind, At: at}, api.ErrKind)
		}
	}
	for _, at := range places {
		for kind := api.Load; kind <= api.Add; kind++ {
			refused(3, api.Op{Kind: kind, At: at, New: full.New}, api.ErrAt)
		}
	}
	for at := range 3 {
		if peek(t, m, at) != (api.Cell{}) {
			t.Errorf("the cell %d was turned", at)
		}
	}
	for who := range api.MaxThreads {
		if m.Steps(who) != 0 {
			t.Errorf("the thread %d has done %d steps", who, m.Steps(who))
		}
	}
	if m.Total() != 0 || len(m.Events()) != 0 {
		t.Errorf("%d steps, events %v", m.Total(), m.Events())
	}
	none := made(t, 0)
	if _, e := none.Do(0, api.Op{}); e != api.ErrAt {
		t.Errorf("a step on no cells: %d", e)
	}
}

// P1.1: Peek and Set answer within the cells, and are no steps.
func TestPeekSet(t *testing.T) {
	m := made(t, 3)
	want := []api.Cell{{Val: 1, Seq: 4}, {Val: math.MaxUint64, Seq: math.MaxUint64}, {Val: 3}}
	for at, c := range want {
		if e := m.Set(at, c); e != api.OK {
			t.Errorf("Set(%d): %d", at, e)
		}
	}
	for _, at := range []int{math.MinInt, -1, 3, 4, math.MaxInt} {
		if e := m.Set(at, api.Cell{Val: 9}); e != api.ErrAt {
			t.Errorf("Set(%d): %d", at, e)
		}
		if c, ok := m.Peek(at); ok || c != (api.Cell{}) {
			t.Errorf("Peek(%d): %v, %v", at, c, ok)
		}
	}
	for at, c := range want {
		if peek(t, m, at) != c {
			t.Errorf("the cell %d is %v", at, peek(t, m, at))
		}
	}
	if m.Total() != 0 || m.Steps(0) != 0 || len(m.Events()) != 0 {
		t.Error("Peek or Set is a step")
	}
	if out := do(t, m, 0, api.Op{At: 2}); out.Was != want[2] {
		t.Errorf("what was set is read as %v", out.Was)
	}
}

// P1.1: steps are counted thread by thread, those that turn nothing too.
func TestSteps(t *testing.T) {
	m := made(t, 1)
	total := 0
	for who := range api.MaxThreads {
		for n := range who + 1 {
			do(t, m, who, api.Op{Kind: n % 4, Old: api.Cell{Seq: 99}})
			total++
		}
	}
	for who := range api.MaxThreads {
		if m.Steps(who) != who+1 {
			t.Errorf("the thread %d has done %d steps", who, m.Steps(who))
		}
	}
	for _, who := range []int{math.MinInt, -1, 8, 9, math.MaxInt} {
		if m.Steps(who) != 0 {
			t.Errorf("a thread %d has done %d steps", who, m.Steps(who))
		}
	}
	if m.Total() != total || len(m.Events()) != total {
		t.Errorf("%d steps, %d events, not %d", m.Total(), len(m.Events()), total)
	}
}

// P1.1: events tell steps as they were asked for, in order, whichever fields their kinds use; what is told is the caller's own.
func TestEvents(t *testing.T) {
	m := made(t, 2)
	old, fresh := api.Cell{Val: 3, Seq: 4}, api.Cell{Val: 5, Seq: 6}
	want := []api.Event{
		{Who: 7, Op: api.Op{Kind: api.Load, At: 1, Old: old, New: fresh}, Out: api.Out{Ok: true}},
		{Who: 0, Op: api.Op{Kind: api.Store, At: 1, Old: old, New: fresh}, Out: api.Out{Ok: true}},
		{Who: 3, Op: api.Op{Kind: api.Swap, At: 1, Old: old, New: fresh}, Out: api.Out{Was: fresh}},
		{Who: 3, Op: api.Op{Kind: api.Swap, At: 1, Old: fresh, New: old}, Out: api.Out{Was: fresh, Ok: true}},
		{Who: 0, Op: api.Op{Kind: api.Add, At: 1, Old: old, New: fresh}, Out: api.Out{Was: old, Ok: true}},
	}
	for i, v := range want {
		early := m.Events()
		if out := do(t, m, v.Who, v.Op); out != v.Out {
			t.Errorf("step %d: %v", i, out)
		}
		m.Do(0, api.Op{Kind: 5})
		if !slices.Equal(early, want[:i]) {
			t.Errorf("what was told ahead of step %d is %v", i, early)
		}
	}
	told := m.Events()
	if !slices.Equal(told, want) {
		t.Errorf("events %v", told)
	}
	told[0] = api.Event{Who: 99}
	told = append(told, api.Event{Who: 98})
	do(t, m, 1, api.Op{})
	if told[5].Who != 98 {
		t.Error("a step wrote into what was told")
	}
	again := m.Events()
	if !slices.Equal(again[:5], want) || again[5].Who != 1 {
		t.Errorf("events are turned from without: %v", again)
	}
	clear(again[:cap(again)])
	if !slices.Equal(m.Events()[:5], want) {
		t.Error("two answers share memory")
	}
}

// P1.1: a clone has the same cells and steps, and neither turns the other one.
func TestClone(t *testing.T) {
	m := made(t, 2)
	do(t, m, 2, api.Op{Kind: api.Store, At: 0, New: api.Cell{Val: 4, Seq: 1}})
	do(t, m, 5, api.Op{Kind: api.Add, At: 1, New: api.Cell{Val: 6}})
	do(t, m, 5, api.Op{Kind: api.Swap, At: 1})
	n := m.Clone()
	if n.Size() != 2 || peek(t, n, 0) != peek(t, m, 0) || peek(t, n, 1) != peek(t, m, 1) {
		t.Error("a clone has other cells")
	}
	if n.Steps(2) != 1 || n.Steps(5) != 2 || n.Total() != 3 || !slices.Equal(n.Events(), m.Events()) {
		t.Error("a clone has other steps")
	}
	ahead := m.Events()
	do(t, n, 1, api.Op{Kind: api.Store, At: 0, New: api.Cell{Val: 100}})
	n.Set(1, api.Cell{Val: 101})
	if peek(t, m, 0) != (api.Cell{Val: 4, Seq: 1}) || peek(t, m, 1) != (api.Cell{Val: 6}) || m.Steps(1) != 0 || m.Total() != 3 {
		t.Error("a clone turns what it is of")
	}
	do(t, m, 6, api.Op{Kind: api.Store, At: 0, New: api.Cell{Val: 200}})
	m.Set(1, api.Cell{Val: 201})
	if peek(t, n, 0).Val != 100 || peek(t, n, 1).Val != 101 || n.Steps(6) != 0 || n.Total() != 4 {
		t.Error("a clone is turned by what it is of")
	}
	if !slices.Equal(m.Events()[:3], ahead) || m.Events()[3].Who != 6 || n.Events()[3].Who != 1 {
		t.Error("events of a clone and of what it is of are mixed up")
	}
	if none := made(t, 0).Clone(); none == nil || none.Size() != 0 || none.Total() != 0 {
		t.Error("a clone of no cells")
	}
}

// P1.2: whoever comes first, of several swaps that tell the same reading just one turns the cell.
func TestOneSwapOfAReading(t *testing.T) {
	for first := range api.MaxThreads {
		m := made(t, 1)
		reading := do(t, m, first, api.Op{}).Was
		won := 0
		for n := range api.MaxThreads {
			who := (first + n) % api.MaxThreads
			out := do(t, m, who, api.Op{Kind: api.Swap, Old: reading, New: api.Cell{Val: uint64(who), Seq: 1}})
			if out.Ok {
				won++
			}
			if out.Ok != (n == 0) {
				t.Errorf("from %d on: swap %d: %v", first, n, out)
			}
		}
		if won != 1 || peek(t, m, 0) != (api.Cell{Val: uint64(first), Seq: 1}) {
			t.Errorf("from %d on: %d swaps were done, the cell is %v", first, won, peek(t, m, 0))
		}
	}
}

// P1.2: a value that came back under another number isn't the same reading.
func TestValueThatComesBack(t *testing.T) {
	m := made(t, 1)
	reading := do(t, m, 0, api.Op{}).Was
	do(t, m, 1, api.Op{Kind: api.Swap, Old: reading, New: api.Cell{Val: 5, Seq: 1}})
	do(t, m, 1, api.Op{Kind: api.Swap, Old: api.Cell{Val: 5, Seq: 1}, New: api.Cell{Val: 0, Seq: 2}})
	if out := do(t, m, 0, api.Op{Kind: api.Swap, Old: reading, New: api.Cell{Val: 7, Seq: 3}}); out.Ok {
		t.Error("an old reading turned the cell")
	}
	if peek(t, m, 0) != (api.Cell{Seq: 2}) {
		t.Errorf("the cell is %v", peek(t, m, 0))
	}
}

// numbers tells a row of numbers that is the same in each run.
type numbers uint64

func (n *numbers) below(limit int) int {
	*n = *n*6364136223846793005 + 1442695040888963407
	return int(uint64(*n) >> 33 % uint64(limit))
}

// P1.1, P1.2: any row of steps does what the words say, one after the other; the same steps tell the same again, whatever was asked for between them.
func TestRowsOfSteps(t *testing.T) {
	n := numbers(1)
	for range 50 {
		m := made(t, 3)
		var cells [3]api.Cell
		var events []api.Event
		for range 200 {
			at := n.below(3)
			op := api.Op{
				Kind: n.below(4), At: at,
				Old: api.Cell{Val: uint64(n.below(2)), Seq: uint64(n.below(2))},
				New: api.Cell{Val: uint64(n.below(2)), Seq: uint64(n.below(2))},
			}
			want := api.Out{Was: cells[at], Ok: true}
			if op.Kind == api.Swap && (op.Old.Val != cells[at].Val || op.Old.Seq != cells[at].Seq) {
				want.Ok = false
			} else if op.Kind == api.Swap || op.Kind == api.Store {
				cells[at] = op.New
			} else if op.Kind == api.Add {
				cells[at].Val += op.New.Val
			}
			who := n.below(8)
			if out := do(t, m, who, op); out != want {
				t.Fatalf("%v: %v, not %v", op, out, want)
			}
			events = append(events, api.Event{Who: who, Op: op, Out: want})
			if peek(t, m, at) != cells[at] {
				t.Fatalf("%v: the cell is %v, not %v", op, peek(t, m, at), cells[at])
			}
		}
		if !slices.Equal(m.Events(), events) {
			t.Fatal("other events than steps")
		}
		again(t, events)
	}
}

func again(t *testing.T, events []api.Event) {
	t.Helper()
	m := made(t, 3)
	for i, v := range events {
		m.Do(-1, v.Op)
		m.Peek(i)
		m.Events()
		m.Clone().Do(0, api.Op{Kind: api.Store, At: v.Op.At, New: api.Cell{Val: 77}})
		if out := do(t, m, v.Who, v.Op); out != v.Out {
			t.Fatalf("step %d tells %v, and told %v", i, out, v.Out)
		}
	}
}
