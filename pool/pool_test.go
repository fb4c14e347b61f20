package pool_test

import (
	"math"
	"slices"
	"testing"

	"tumbler/api"
	"tumbler/lay"
	"tumbler/pool"
	"tumbler/view"
	"tumbler/wset"
)

// mapOf is a map of so many threads, blocks and words to write.
func mapOf(t *testing.T, threads, blocks, writes int) lay.Map {
	t.Helper()
	m, e := lay.Of(api.Cfg{Threads: threads, Blocks: blocks, Writes: writes, Fuel: 1, Last: api.MaxSeq})
	if e != api.OK {
		t.Fatalf("no map: error %d", e)
	}
	return m
}

func was(val, seq uint64) api.Out { return api.Out{Was: api.Cell{Val: val, Seq: seq}, Ok: true} }

// readFrom is a pool of the transaction 5 that was told what slots, Top, Lim and Limbo hold.
func readFrom(t *testing.T, m lay.Map, slots []uint64, top, lim uint64, limbo ...uint64) *pool.Pool {
	t.Helper()
	p := pool.New(m, 5)
	for _, s := range slots {
		p.Tell(was(s, 99))
	}
	p.Tell(was(top, 5))
	p.Tell(was(lim, 5))
	for _, b := range limbo {
		p.Tell(was(b, 5))
	}
	if op, ok := p.Ask(); ok || p.Status() != view.Good {
		t.Fatalf("not done: %v, status %d", op, p.Status())
	}
	return p
}

// writes tells a fault unless a set has just these entries, in this order.
func writes(t *testing.T, name string, w *wset.Set, want ...wset.Entry) {
	t.Helper()
	if !slices.Equal(w.All(), want) {
		t.Errorf("%s: %v, not %v", name, w.All(), want)
	}
}

func stands(t *testing.T, name string, p *pool.Pool, top, lim int) {
	t.Helper()
	if p.Mark() != (pool.Mark{Top: top, Lim: lim}) {
		t.Errorf("%s: %v, not %d and %d", name, p.Mark(), top, lim)
	}
}

// entry is a cell that becomes something.
func entry(m lay.Map, kind, i, k int, val uint64) wset.Entry {
	return wset.Entry{At: m.At(kind, i, k), Val: val}
}

// P10.1: the steps, in their order, of few threads and of many, with none in limbo and with all that may be.
func TestSteps(t *testing.T) {
	for _, c := range []struct{ threads, blocks, writes, lim int }{
		{1, 1, 0, 0}, {1, 1, 0, 1}, {2, 3, 4, 0}, {2, 3, 4, 2}, {2, 3, 4, 10}, {8, 64, 64, 0}, {8, 64, 64, 520},
	} {
		m := mapOf(t, c.threads, c.blocks, c.writes)
		want := []int{}
		for i := range c.threads {
			want = append(want, m.At(lay.Slot, i, 0))
		}
		want = append(want, m.At(lay.Top, 0, 0), m.At(lay.Lim, 0, 0))
		for i := range c.lim {
			want = append(want, m.At(lay.Limbo, i, 0))
		}
		p := pool.New(m, 5)
		for i, at := range want {
			for range 2 {
				if op, ok := p.Ask(); !ok || op != (api.Op{Kind: api.Load, At: at}) || p.Status() != view.Going {
					t.Fatalf("%v: step %d: %v, %v, status %d; not a load of %d", c, i, op, ok, p.Status(), at)
				}
			}
			p.Tell(was(uint64(c.lim), 5))
		}
		for range 2 {
			if op, ok := p.Ask(); ok || op != (api.Op{}) || p.Status() != view.Good {
				t.Errorf("%v: behind the last step: %v, %v, status %d", c, op, ok, p.Status())
			}
			p.Tell(was(7, 9))
		}
		stands(t, "read", p, min(c.lim, c.blocks), c.lim)
	}
}

// P10.1: Top counts at most as Blocks, Lim as Limit.
func TestCounts(t *testing.T) {
	m := mapOf(t, 2, 3, 4)
	for _, c := range []struct {
		val      uint64
		top, lim int
	}{
		{0, 0, 0}, {1, 1, 1}, {2, 2, 2}, {3, 3, 3}, {4, 3, 4}, {9, 3, 9}, {10, 3, 10}, {11, 3, 10}, {1 << 32, 3, 10}, {1 << 63, 3, 10}, {math.MaxUint64, 3, 10},
	} {
		p := readFrom(t, m, []uint64{0, 0}, c.val, c.val, make([]uint64, c.lim)...)
		stands(t, "read", p, c.top, c.lim)
		w := wset.New(9)
		p.End(w)
		writes(t, "as it counted", w)
	}
}

// P10.1: by one of Top, Lim and Limbo whose Seq is greater it is Stale, and asks for nothing more; by a slot it isn't.
func TestStale(t *testing.T) {
	m := mapOf(t, 2, 3, 4)
	for _, seq := range []uint64{0, 5, api.MaxSeq, math.MaxUint64 - 1} {
		for bad := range 6 {
			for _, late := range []uint64{seq + 1, math.MaxUint64} {
				p := pool.New(m, seq)
				for range bad {
					p.Tell(was(2, seq))
				}
				p.Tell(was(2, late))
				if bad < 2 {
					if _, ok := p.Ask(); !ok || p.Status() != view.Going {
						t.Errorf("stale by the slot %d", bad)
					}
					continue
				}
				for range 2 {
					if op, ok := p.Ask(); ok || op != (api.Op{}) || p.Status() != view.Stale {
						t.Errorf("seq %d, step %d of %d: %v, %v, status %d", seq, bad, late, op, ok, p.Status())
					}
					p.Tell(was(0, 0))
				}
			}
		}
	}
	p := pool.New(m, math.MaxUint64)
	for range 6 {
		p.Tell(was(2, math.MaxUint64))
	}
	if p.Status() != view.Good {
		t.Errorf("of the greatest number: status %d", p.Status())
	}
}

// P10.1: the chapter's example, and what each slot, Top and Limbo make of it.
func TestSettle(t *testing.T) {
	m := mapOf(t, 2, 3, 4)
	life := func(b int) wset.Entry { return entry(m, lay.Life, b, 0, 0) }
	stack := func(i int, b uint64) wset.Entry { return entry(m, lay.Stack, i, 0, b) }
	limbo := func(i int, b uint64) wset.Entry { return entry(m, lay.Limbo, i, 0, b) }
	for _, c := range []struct {
		name     string
		slots    []uint64
		top      uint64
		limbo    []uint64
		toTop    int
		toLim    int
		expected []wset.Entry
	}{
		{"none", []uint64{1, 2}, 2, nil, 2, 0, nil},
		{"the example", []uint64{0, 2}, 1, []uint64{0, 1}, 2, 1, []wset.Entry{life(0), stack(1, 0), limbo(0, 1)}},
		{"all go", []uint64{0, 0}, 0, []uint64{2, 0, 1}, 3, 0, []wset.Entry{life(2), stack(0, 2), life(0), stack(1, 0), life(1), stack(2, 1)}},
		{"all stay", []uint64{1, 3}, 0, []uint64{2, 0}, 0, 2, nil},
		{"the first one stays", []uint64{3, 3}, 0, []uint64{2, 0}, 1, 1, []wset.Entry{life(0), stack(0, 0)}},
		{"the last ones stay", []uint64{2, 3}, 0, []uint64{0, 1, 2}, 1, 2, []wset.Entry{life(0), stack(0, 0), limbo(0, 1), limbo(1, 2)}},
		{"slots name others", []uint64{2, 4}, 0, []uint64{0}, 1, 0, []wset.Entry{life(0), stack(0, 0)}},
		{"a slot of noughts names none", []uint64{0, 0}, 0, []uint64{0}, 1, 0, []wset.Entry{life(0), stack(0, 0)}},
		{"far too great a slot", []uint64{1<<32 + 1, math.MaxUint64}, 0, []uint64{0}, 1, 0, []wset.Entry{life(0), stack(0, 0)}},
		{"no room among the free ones", []uint64{0, 0}, 2, []uint64{0, 1}, 3, 0, []wset.Entry{life(0), stack(2, 0), life(1)}},
		{"no blocks", []uint64{2, 4}, 1, []uint64{3, 64, 1 << 32, math.MaxUint64, 1<<32 + 1}, 1, 0, nil},
		{"one behind no blocks", []uint64{2, 4}, 1, []uint64{3, math.MaxUint64, 1}, 1, 1, []wset.Entry{limbo(0, 1)}},
		{"one ahead of no blocks", []uint64{2, 4}, 1, []uint64{1, 3}, 1, 1, nil},
	} {
		p := readFrom(t, m, c.slots, c.top, uint64(len(c.limbo)), c.limbo...)
		w := wset.New(m.Cap())
		p.Settle(w)
		stands(t, c.name, p, c.toTop, c.toLim)
		writes(t, c.name, w, c.expected...)
		p.End(w)
		if c.toTop != int(c.top) {
			c.expected = append(c.expected, entry(m, lay.Top, 0, 0, uint64(c.toTop)))
		}
		if c.toLim != len(c.limbo) {
			c.expected = append(c.expected, entry(m, lay.Lim, 0, 0, uint64(c.toLim)))
		}
		writes(t, c.name+", at its end", w, c.expected...)
	}
}

// P10.1: it is settled once, and when it is Good.
func TestSettleOnce(t *testing.T) {
	m := mapOf(t, 2, 3, 4)
	p := readFrom(t, m, []uint64{2, 0}, 0, 2, 0, 1)
	p.Settle(wset.New(9))
	stands(t, "settled", p, 1, 1)
	w := wset.New(9)
	p.Settle(w)
	stands(t, "again", p, 1, 1)
	writes(t, "again", w)

	p = pool.New(m, 5)
	for _, val := range []uint64{2, 0, 0, 2, 0} {
		p.Tell(was(val, 5))
	}
	p.Settle(w)
	writes(t, "not all is read", w)
	p.Tell(was(1, 5))
	p.Settle(w)
	stands(t, "then", p, 1, 1)
	writes(t, "then", w, entry(m, lay.Life, 0, 0, 0), entry(m, lay.Stack, 0, 0, 0), entry(m, lay.Limbo, 0, 0, 1))
}

// P10.1: where the next free block stands: one place below Top.
func TestTop(t *testing.T) {
	m := mapOf(t, 2, 64, 4)
	for top := range 65 {
		p := readFrom(t, m, []uint64{0, 0}, uint64(top), 0)
		at, ok := p.Top()
		if want := m.At(lay.Stack, top-1, 0); at != want || ok != (top > 0) {
			t.Errorf("Top %d: %d, %v, not %d", top, at, ok, want)
		}
	}
}

// P10.1: a block that is taken lives, with words of noughts; nothing is taken of none, or of no free ones.
func TestTake(t *testing.T) {
	m := mapOf(t, 2, 3, 4)
	p := readFrom(t, m, []uint64{1, 2}, 2, 0)
	w := wset.New(m.Cap())
	for _, b := range []int{math.MinInt, -1, 3, 4, 64, 1 << 32, math.MaxInt} {
		p.Take(w, b)
	}
	stands(t, "no such block", p, 2, 0)
	writes(t, "no such block", w)
	want := []wset.Entry{}
	for i, b := range []int{2, 0} {
		p.Take(w, b)
		want = append(want, entry(m, lay.Life, b, 0, 1))
		for k := range 8 {
			want = append(want, entry(m, lay.Word, b, k, 0))
		}
		stands(t, "taken", p, 1-i, 0)
		writes(t, "taken", w, want...)
	}
	p.Take(w, 1)
	stands(t, "none is free", p, 0, 0)
	writes(t, "none is free", w, want...)
	if at, ok := p.Top(); at != -1 || ok {
		t.Errorf("none is free: %d, %v", at, ok)
	}
	p.End(w)
	writes(t, "at its end", w, append(want, entry(m, lay.Top, 0, 0, 0))...)
}

// P10.1: a block that is given is in limbo; nothing is given of none, or where there is no room.
func TestGive(t *testing.T) {
	m := mapOf(t, 2, 3, 0)
	p := readFrom(t, m, []uint64{0, 0}, 0, 0)
	w := wset.New(m.Cap())
	for _, b := range []int{math.MinInt, -1, 3, 4, 64, 1 << 32, math.MaxInt} {
		p.Give(w, b)
	}
	stands(t, "no such block", p, 0, 0)
	writes(t, "no such block", w)
	p.Give(w, 2)
	p.Give(w, 0)
	want := []wset.Entry{
		entry(m, lay.Life, 2, 0, 2), entry(m, lay.Limbo, 0, 0, 2), entry(m, lay.Life, 0, 0, 2), entry(m, lay.Limbo, 1, 0, 0),
	}
	stands(t, "given", p, 0, 2)
	writes(t, "given", w, want...)
	p.Give(w, 1)
	stands(t, "no room", p, 0, 2)
	writes(t, "no room", w, want...)
	p.End(w)
	writes(t, "at its end", w, append(want, entry(m, lay.Lim, 0, 0, 2))...)
}

// P10.1: what the set has no room for is left out, and the counts go on; End's order is Top, then Lim.
func TestLeftOut(t *testing.T) {
	m := mapOf(t, 2, 3, 4)
	of := func(room int) *wset.Set {
		p := readFrom(t, m, []uint64{2, 0}, 1, 3, 0, 1, 2)
		w := wset.New(room)
		p.Settle(w)
		p.Take(w, 2)
		stands(t, "taken", p, 2, 1)
		p.Give(w, 2)
		stands(t, "given", p, 2, 2)
		p.End(w)
		stands(t, "at its end", p, 2, 2)
		return w
	}
	whole := of(m.Cap()).All()
	if last := whole[len(whole)-2:]; last[0] != entry(m, lay.Top, 0, 0, 2) || last[1] != entry(m, lay.Lim, 0, 0, 2) {
		t.Errorf("at the end: %v", last)
	}
	for room := range whole {
		writes(t, "of little room", of(room), whole[:room]...)
	}
}

// P10.1: it stands as at a mark, and goes on from there; what was written is the set's affair.
func TestBack(t *testing.T) {
	m := mapOf(t, 2, 3, 4)
	p := readFrom(t, m, []uint64{0, 0}, 3, 1, 2)
	w := wset.New(m.Cap())
	first := p.Mark()
	p.Settle(w)
	stands(t, "settled", p, 3, 0)
	second := p.Mark()
	p.Take(w, 0)
	p.Give(w, 1)
	p.Give(w, 2)
	third := p.Mark()
	stands(t, "turned", p, 2, 2)
	n := w.Len()
	p.Back(second)
	stands(t, "back", p, 3, 0)
	p.Back(third)
	stands(t, "and there again", p, 2, 2)
	p.Back(first)
	stands(t, "as it was read", p, 3, 1)
	if w.Len() != n {
		t.Errorf("%d entries, not %d", w.Len(), n)
	}
	p.End(w)
	if w.Len() != n {
		t.Error("it ends as it was read, and is written")
	}
	p.Back(second)
	if at, ok := p.Top(); at != m.At(lay.Stack, 2, 0) || !ok {
		t.Errorf("Top: %d, %v", at, ok)
	}
	w = wset.New(9)
	p.End(w)
	writes(t, "back at the settling", w, entry(m, lay.Lim, 0, 0, 0))
}

// P1: no call panics, of a mark that no pool tells, of a pool that isn't read, or is stale.
func TestNoPanic(t *testing.T) {
	m := mapOf(t, 2, 3, 4)
	stale := pool.New(m, 5)
	for range 4 {
		stale.Tell(was(2, 5))
	}
	stale.Tell(was(0, 6))
	for _, p := range []*pool.Pool{pool.New(m, 5), stale, readFrom(t, m, []uint64{1, 0}, 3, 2, 0, 1)} {
		for _, n := range []int{math.MinInt, -1, 0, 4, 11, 64, math.MaxInt} {
			w := wset.New(100)
			p.Back(pool.Mark{Top: n, Lim: n})
			p.Top()
			p.Take(w, 0)
			p.Give(w, 1)
			p.Settle(w)
			p.End(w)
			p.Back(pool.Mark{Top: n, Lim: -n})
			p.Give(w, 1)
			p.Take(w, 0)
			if at, ok := p.Top(); ok && at < m.At(lay.Stack, 0, 0) {
				t.Errorf("%d: Top: %d", n, at)
			}
			for _, e := range w.All() {
				if kind, _, _ := m.What(e.At); kind < lay.Life {
					t.Errorf("%d: it writes %v", n, e)
				}
			}
		}
	}
}
