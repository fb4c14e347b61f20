package view_test

import (
	"math"
	"testing"

	"tumbler/api"
	"tumbler/lay"
	"tumbler/view"
)

// mapOf is a map of so many threads, blocks and words to write.
func mapOf(t *testing.T, threads, blocks, writes int) lay.Map {
	t.Helper()
	m, e := lay.Of(api.Cfg{Threads: threads, Blocks: blocks, Writes: writes, Fuel: 1, Last: api.MaxSeq})
	if e != api.OK {
		t.Fatalf("no map: error %d", e)
	}
	return m
}

func was(val, seq uint64) api.Out { return api.Out{Was: api.Cell{Val: val, Seq: seq}, Ok: true} }

func load(at int) api.Op { return api.Op{Kind: api.Load, At: at} }

// stands tells a fault unless a view stands just so, however often it is asked.
func stands(t *testing.T, name string, v *view.View, held int, val uint64, s view.Status, asks ...api.Op) {
	t.Helper()
	for range 2 {
		if gotVal, got := v.End(); gotVal != val || got != s || v.Held() != held {
			t.Errorf("%s: End: %d, %d, not %d, %d; held %d, not %d", name, gotVal, got, val, s, v.Held(), held)
		}
		op, ok := v.Ask()
		if ok != (len(asks) > 0) {
			t.Errorf("%s: Ask: %v, %v", name, op, ok)
			return
		}
		want := api.Op{}
		if ok {
			want = asks[0]
		}
		if op != want {
			t.Errorf("%s: Ask: %v, not %v", name, op, want)
		}
	}
}

// P9.1: a new view holds nothing and is Good; the statuses are counted from 0.
func TestNew(t *testing.T) {
	for _, seq := range []uint64{0, 5, math.MaxUint64} {
		v := view.New(mapOf(t, 2, 3, 4), 1, seq)
		stands(t, "new", v, -1, 0, view.Good)
		v.Tell(was(1, 0))
		stands(t, "told without having asked", v, -1, 0, view.Good)
	}
	if view.Going != 0 || view.Good != 1 || view.Stale != 2 || view.Dead != 3 {
		t.Error("the statuses")
	}
}

// P9.1: the chapter's example, and each step's place, of any thread and block.
func TestWord(t *testing.T) {
	for _, c := range []struct{ threads, blocks, who, block, w int }{
		{2, 3, 1, 2, 4}, {1, 1, 0, 0, 0}, {8, 64, 7, 63, 7}, {8, 64, 0, 0, 7}, {3, 64, 2, 63, 0},
	} {
		m := mapOf(t, c.threads, c.blocks, 2)
		v := view.New(m, c.who, 6)
		v.Word(c.block, c.w)
		name := api.Op{Kind: api.Store, At: m.At(lay.Slot, c.who, 0), New: api.Cell{Val: uint64(c.block) + 1}}
		stands(t, "first", v, -1, 0, view.Going, name)
		v.Tell(was(77, 99))
		stands(t, "named", v, -1, 0, view.Going, load(m.At(lay.Life, c.block, 0)))
		v.Tell(was(1, 6))
		stands(t, "it lives", v, c.block, 0, view.Going, load(m.At(lay.Word, c.block, c.w)))
		v.Tell(was(9, 6))
		stands(t, "read", v, c.block, 9, view.Good)
		v.Tell(was(8, 7))
		stands(t, "told without having asked", v, c.block, 9, view.Good)
	}
}

// P9.1: of a block that is held no step is asked for but the word's; another one is named anew.
func TestHeld(t *testing.T) {
	m := mapOf(t, 2, 3, 4)
	v := view.New(m, 0, 6)
	name := func(block int) api.Op {
		return api.Op{Kind: api.Store, At: m.At(lay.Slot, 0, 0), New: api.Cell{Val: uint64(block) + 1}}
	}
	v.Live(1)
	stands(t, "Live", v, -1, 0, view.Going, name(1))
	v.Tell(was(0, 0))
	v.Tell(was(1, 3))
	stands(t, "held", v, 1, 0, view.Good)
	v.Word(1, 7)
	stands(t, "its word", v, 1, 0, view.Going, load(m.At(lay.Word, 1, 7)))
	v.Tell(was(5, 0))
	stands(t, "its word is read", v, 1, 5, view.Good)
	v.Live(1)
	stands(t, "Live again", v, 1, 0, view.Good)
	v.Cell(m.At(lay.Root, 3, 0))
	stands(t, "a root", v, 1, 0, view.Going, load(m.At(lay.Root, 3, 0)))
	v.Tell(was(4, 6))
	stands(t, "a root is read", v, 1, 4, view.Good)
	v.Live(2)
	stands(t, "another block", v, 1, 0, view.Going, name(2))
	v.Tell(was(0, 0))
	stands(t, "another block is named", v, -1, 0, view.Going, load(m.At(lay.Life, 2, 0)))
	v.Tell(was(2, 0))
	stands(t, "it is in limbo", v, -1, 0, view.Dead)
	v.Word(1, 7)
	stands(t, "the first one is named no more", v, -1, 0, view.Going, name(1))
}

// P9.1: of a block whose Life isn't 1 nothing is read; it is asked anew each time.
func TestDead(t *testing.T) {
	m := mapOf(t, 2, 3, 4)
	for _, life := range []uint64{0, 2, 3, 1 << 32, 1<<32 + 1, math.MaxUint64} {
		v := view.New(m, 1, 6)
		for range 2 {
			v.Word(0, 0)
			stands(t, "again", v, -1, 0, view.Going, api.Op{Kind: api.Store, At: m.At(lay.Slot, 1, 0), New: api.Cell{Val: 1}})
			v.Tell(was(0, 0))
			v.Tell(was(life, 6))
			stands(t, "dead", v, -1, 0, view.Dead)
			v.Tell(was(1, 0))
			stands(t, "told without having asked", v, -1, 0, view.Dead)
		}
	}
}

// P9.1: a cell is read if it is one of the kinds 7 to 15, whichever it is; of others there is no such thing.
func TestCell(t *testing.T) {
	m := mapOf(t, 2, 3, 4)
	v := view.New(m, 1, 6)
	for at := -3; at < m.Size()+3; at++ {
		kind, _, _ := m.What(at)
		v.Cell(at)
		if kind < 7 || kind > 15 {
			stands(t, "of no such cell", v, -1, 0, view.Dead)
			continue
		}
		stands(t, "of a cell", v, -1, 0, view.Going, load(at))
		v.Tell(was(uint64(at)+1<<40, 6))
		stands(t, "a cell is read", v, -1, uint64(at)+1<<40, view.Good)
	}
	for _, at := range []int{math.MinInt, math.MaxInt, 1<<32 + m.At(lay.Root, 0, 0)} {
		v.Cell(at)
		stands(t, "of no such cell", v, -1, 0, view.Dead)
	}
}

// P9.1: blocks and words that there aren't are Dead at once; the slot names what it named.
func TestNoSuchBlock(t *testing.T) {
	m := mapOf(t, 2, 3, 4)
	v := view.New(m, 1, 6)
	v.Live(2)
	v.Tell(was(0, 0))
	v.Tell(was(1, 0))
	wrong := func(name string, begin func()) {
		t.Helper()
		begin()
		stands(t, name, v, 2, 0, view.Dead)
		v.Word(2, 1)
		v.Tell(was(3, 3))
		stands(t, name+", then one that there is", v, 2, 3, view.Good)
	}
	for _, n := range []int{math.MinInt, -2, -1, 3, 64, 1 << 32, math.MaxInt} {
		wrong("Live", func() { v.Live(n) })
		wrong("Word of it", func() { v.Word(n, 0) })
	}
	for _, w := range []int{math.MinInt, -8, -1, 8, 9, 1 << 32, math.MaxInt} {
		wrong("Word", func() { v.Word(2, w) })
		wrong("Word of another block", func() { v.Word(0, w) })
	}
	wrong("Cell", func() { v.Cell(0) })
}

// P9.1: a Seq that is greater than the view's number is Stale; it stays so, and nothing is asked for any more.
func TestStale(t *testing.T) {
	m := mapOf(t, 2, 3, 4)
	begins := []func(v *view.View){
		func(v *view.View) { v.Cell(m.At(lay.Top, 0, 0)) },
		func(v *view.View) { v.Live(0); v.Tell(was(1, math.MaxUint64)) },
		func(v *view.View) { v.Word(0, 3); v.Tell(was(1, math.MaxUint64)) },
		func(v *view.View) { v.Word(0, 3); v.Tell(was(1, math.MaxUint64)); v.Tell(was(1, 0)) },
	}
	held := []int{-1, -1, -1, 0}
	for i, begin := range begins {
		for _, seq := range []uint64{0, 1, 6, 1 << 32, api.MaxSeq, math.MaxUint64 - 1} {
			for _, reply := range []api.Out{was(0, seq+1), was(1, seq+1), was(2, math.MaxUint64)} {
				v := view.New(m, 1, seq)
				begin(v)
				v.Tell(reply)
				stands(t, "stale", v, held[i], 0, view.Stale)
				for k, next := range begins {
					next(v)
					v.Tell(was(1, 0))
					stands(t, "a reading behind that", v, held[i], 0, view.Stale)
					v.Live(-1)
					v.Cell(k)
					v.Word(held[i], 9)
					stands(t, "of no such thing behind that", v, held[i], 0, view.Stale)
				}
			}
		}
	}
}

// P9.1: a Seq that is the view's number, or below it, isn't greater; nor is any than the greatest.
func TestNotStale(t *testing.T) {
	m := mapOf(t, 2, 3, 4)
	for _, seq := range []uint64{0, 1, 6, 1 << 32, api.MaxSeq, math.MaxUint64} {
		for _, now := range []uint64{0, seq / 2, seq} {
			v := view.New(m, 1, seq)
			v.Word(0, 3)
			v.Tell(was(1, math.MaxUint64))
			v.Tell(was(1, now))
			v.Tell(was(7, now))
			stands(t, "a word", v, 0, 7, view.Good)
			v.Cell(m.At(lay.Top, 0, 0))
			v.Tell(was(8, now))
			stands(t, "a cell", v, 0, 8, view.Good)
			v.Live(1)
			v.Tell(was(1, math.MaxUint64))
			v.Tell(was(0, now))
			stands(t, "a block", v, -1, 0, view.Dead)
		}
	}
}
