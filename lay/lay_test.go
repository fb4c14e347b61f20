package lay_test

import (
	"math"
	"testing"

	"tumbler/api"
	"tumbler/lay"
)

func made(t *testing.T, c api.Cfg) lay.Map {
	t.Helper()
	m, e := lay.Of(c)
	if e != api.OK {
		t.Fatalf("Of(%v): error %d", c, e)
	}
	return m
}

// place is what stands somewhere: the k-th place of the i-th thing of a kind.
type place struct{ kind, i, k int }

// rows tells all cells in the order in which the chapter lets them stand, one by one.
func rows(c api.Cfg) []place {
	limit := c.Threads * (c.Writes + 1)
	room := c.Threads*(c.Writes+3) + 3*limit + 2
	list := []place{{lay.Now, 0, 0}}
	put := func(kind, i, places int) {
		for k := range places {
			list = append(list, place{kind, i, k})
		}
	}
	each := func(kind, things, places int) {
		for i := range things {
			put(kind, i, places)
		}
	}
	for i := range c.Threads {
		put(lay.Ann, i, 1)
		put(lay.Arg, i, 4)
		put(lay.Slot, i, 1)
		put(lay.Open, i, 1)
		put(lay.Len, i, 1)
		put(lay.Log, i, room)
	}
	for i := range c.Threads {
		put(lay.Tag, i, 1)
		put(lay.Code, i, 1)
		put(lay.Val, i, 1)
	}
	each(lay.Root, 16, 1)
	each(lay.Life, c.Blocks, 1)
	each(lay.Top, 1, 1)
	each(lay.Stack, c.Blocks, 1)
	each(lay.Lim, 1, 1)
	each(lay.Limbo, limit, 1)
	each(lay.Word, c.Blocks, 8)
	return list
}

// all tells numbers of every sort: each number of threads, with few and many blocks, and words to write.
func all() []api.Cfg {
	var list []api.Cfg
	for threads := 1; threads <= api.MaxThreads; threads++ {
		for _, blocks := range []int{1, 2, 3, 31, 63, 64} {
			for _, writes := range []int{0, 1, 4, 63, 64} {
				list = append(list, api.Cfg{Threads: threads, Blocks: blocks, Writes: writes, Fuel: 1 + len(list), First: uint64(len(list)), Last: 1 << 40})
			}
		}
	}
	return list
}

// P7.1: the kinds' numbers.
func TestKinds(t *testing.T) {
	kinds := []int{lay.None, lay.Now, lay.Ann, lay.Arg, lay.Slot, lay.Open, lay.Len, lay.Log, lay.Tag, lay.Code, lay.Val, lay.Root, lay.Life, lay.Top, lay.Stack, lay.Lim, lay.Limbo, lay.Word}
	for i, kind := range kinds {
		if kind != i-1 {
			t.Errorf("kind %d is %d", i-1, kind)
		}
	}
}

// P7.1: the edges of each number, and the first ones beyond them; an error goes with a map of nothing.
func TestOf(t *testing.T) {
	good := api.Cfg{Threads: 2, Blocks: 3, Writes: 4, Fuel: 5, First: 6, Last: 7}
	for name, c := range map[string]struct {
		turn func(c *api.Cfg)
		want api.Errno
	}{
		"as it is":              {func(c *api.Cfg) {}, api.OK},
		"one thread":            {func(c *api.Cfg) { c.Threads = 1 }, api.OK},
		"eight threads":         {func(c *api.Cfg) { c.Threads = 8 }, api.OK},
		"no threads":            {func(c *api.Cfg) { c.Threads = 0 }, api.ErrArg},
		"nine threads":          {func(c *api.Cfg) { c.Threads = 9 }, api.ErrArg},
		"threads below 0":       {func(c *api.Cfg) { c.Threads = -1 }, api.ErrArg},
		"threads, the least":    {func(c *api.Cfg) { c.Threads = math.MinInt }, api.ErrArg},
		"threads, the greatest": {func(c *api.Cfg) { c.Threads = math.MaxInt }, api.ErrArg},
		"one block":             {func(c *api.Cfg) { c.Blocks = 1 }, api.OK},
		"64 blocks":             {func(c *api.Cfg) { c.Blocks = 64 }, api.OK},
		"no blocks":             {func(c *api.Cfg) { c.Blocks = 0 }, api.ErrArg},
		"65 blocks":             {func(c *api.Cfg) { c.Blocks = 65 }, api.ErrArg},
		"blocks, the least":     {func(c *api.Cfg) { c.Blocks = math.MinInt }, api.ErrArg},
		"blocks, the greatest":  {func(c *api.Cfg) { c.Blocks = math.MaxInt }, api.ErrArg},
		"nothing to write":      {func(c *api.Cfg) { c.Writes = 0 }, api.OK},
		"64 words to write":     {func(c *api.Cfg) { c.Writes = 64 }, api.OK},
		"writes below 0":        {func(c *api.Cfg) { c.Writes = -1 }, api.ErrArg},
		"65 words to write":     {func(c *api.Cfg) { c.Writes = 65 }, api.ErrArg},
		"writes, the least":     {func(c *api.Cfg) { c.Writes = math.MinInt }, api.ErrArg},
		"writes, the greatest":  {func(c *api.Cfg) { c.Writes = math.MaxInt }, api.ErrArg},
		"fuel 1":                {func(c *api.Cfg) { c.Fuel = 1 }, api.OK},
		"fuel 1000":             {func(c *api.Cfg) { c.Fuel = 1000 }, api.OK},
		"no fuel":               {func(c *api.Cfg) { c.Fuel = 0 }, api.ErrArg},
		"fuel 1001":             {func(c *api.Cfg) { c.Fuel = 1001 }, api.ErrArg},
		"fuel, the least":       {func(c *api.Cfg) { c.Fuel = math.MinInt }, api.ErrArg},
		"fuel, the greatest":    {func(c *api.Cfg) { c.Fuel = math.MaxInt }, api.ErrArg},
		"from 0 to 0":           {func(c *api.Cfg) { c.First, c.Last = 0, 0 }, api.OK},
		"First is Last":         {func(c *api.Cfg) { c.First = 7 }, api.OK},
		"First above Last":      {func(c *api.Cfg) { c.First = 8 }, api.ErrArg},
		"First, the greatest":   {func(c *api.Cfg) { c.First = math.MaxUint64 }, api.ErrArg},
		"Last is MaxSeq":        {func(c *api.Cfg) { c.Last = 1 << 47 }, api.OK},
		"both are MaxSeq":       {func(c *api.Cfg) { c.First, c.Last = 1<<47, 1<<47 }, api.OK},
		"Last above MaxSeq":     {func(c *api.Cfg) { c.Last = 1<<47 + 1 }, api.ErrArg},
		"both above MaxSeq":     {func(c *api.Cfg) { c.First, c.Last = 1<<47+1, 1<<47+1 }, api.ErrArg},
		"Last, the greatest":    {func(c *api.Cfg) { c.Last = math.MaxUint64 }, api.ErrArg},
		"everything at its most": {func(c *api.Cfg) {
			*c = api.Cfg{Threads: 8, Blocks: 64, Writes: 64, Fuel: 1000, First: 1 << 47, Last: 1 << 47}
		}, api.OK},
		"noughts": {func(c *api.Cfg) { *c = api.Cfg{} }, api.ErrArg},
	} {
		cfg := good
		c.turn(&cfg)
		m, e := lay.Of(cfg)
		if e != c.want {
			t.Errorf("%s: error %d", name, e)
		}
		if e != api.OK && m != (lay.Map{}) {
			t.Errorf("%s: an error, and a map of %v", name, m.Cfg())
		}
		if e == api.OK && m.Cfg() != cfg {
			t.Errorf("%s: a map of %v", name, m.Cfg())
		}
	}
}

// P7.1: how great everything is, by numbers worked out on paper.
func TestSizes(t *testing.T) {
	for _, c := range []struct{ threads, blocks, writes, limit, room, stride, size int }{
		{2, 3, 4, 10, 46, 54, 173},
		{1, 1, 0, 1, 8, 16, 49},
		{8, 64, 64, 520, 2098, 2106, 18051},
		{1, 64, 64, 65, 264, 272, 999},
		{8, 1, 0, 8, 50, 58, 525},
	} {
		m := made(t, api.Cfg{Threads: c.threads, Blocks: c.blocks, Writes: c.writes, Fuel: 1})
		if m.Limit() != c.limit || m.Cap() != c.room || m.Stride() != c.stride || m.Size() != c.size {
			t.Errorf("%v: limit %d, cap %d, stride %d, size %d", c, m.Limit(), m.Cap(), m.Stride(), m.Size())
		}
	}
}

// P7.1, P7.2: every cell is the one place that the chapter's order gives it, and no other; of all numbers.
func TestEveryCell(t *testing.T) {
	for _, c := range all() {
		m := made(t, c)
		list := rows(c)
		if m.Size() != len(list) {
			t.Fatalf("%v: %d cells, not %d", c, m.Size(), len(list))
		}
		count := func(ok func(p place) bool) int {
			n := 0
			for _, p := range list {
				if ok(p) {
					n++
				}
			}
			return n
		}
		room := count(func(p place) bool { return p.kind == lay.Log && p.i == 0 })
		limbo := count(func(p place) bool { return p.kind == lay.Limbo })
		stride := count(func(p place) bool { return p.kind >= lay.Ann && p.kind <= lay.Log && p.i == 0 })
		if m.Cap() != room || m.Limit() != limbo || m.Stride() != stride {
			t.Errorf("%v: cap %d, limit %d, stride %d", c, m.Cap(), m.Limit(), m.Stride())
		}
		for at, p := range list {
			if got := m.At(p.kind, p.i, p.k); got != at {
				t.Fatalf("%v: At(%d, %d, %d): %d, not %d", c, p.kind, p.i, p.k, got, at)
			}
			if kind, i, k := m.What(at); p != (place{kind, i, k}) {
				t.Fatalf("%v: What(%d): %d, %d, %d, not %v", c, at, kind, i, k, p)
			}
		}
	}
}

// P7.2: of all kinds, things and places around those that there are just so many stand somewhere as there are cells, no two at one place.
func TestNoTwoAtOnePlace(t *testing.T) {
	for _, c := range []api.Cfg{{Threads: 2, Blocks: 3, Writes: 4, Fuel: 1}, {Threads: 1, Blocks: 20, Writes: 0, Fuel: 1}, {Threads: 8, Blocks: 1, Writes: 1, Fuel: 1}} {
		m := made(t, c)
		seen := make([]int, m.Size())
		for kind := -3; kind <= 20; kind++ {
			for i := -2; i <= 40; i++ {
				for k := -2; k <= 100; k++ {
					if at := m.At(kind, i, k); at >= 0 && at < len(seen) {
						seen[at]++
					} else if at != lay.None {
						t.Fatalf("%v: At(%d, %d, %d): %d", c, kind, i, k, at)
					}
				}
			}
		}
		for at, n := range seen {
			if n != 1 {
				t.Errorf("%v: %d places are the cell %d", c, n, at)
			}
		}
	}
}

// P7.1: kinds, things and places that there aren't: the first beyond each edge, and the greatest numbers.
func TestNoPlace(t *testing.T) {
	m := made(t, api.Cfg{Threads: 2, Blocks: 3, Writes: 4, Fuel: 5})
	things := [lay.Word + 1]int{1, 2, 2, 2, 2, 2, 2, 2, 2, 2, 16, 3, 1, 3, 1, 10, 3}
	places := [lay.Word + 1]int{1, 1, 4, 1, 1, 1, 46, 1, 1, 1, 1, 1, 1, 1, 1, 1, 8}
	for kind := range things {
		for _, i := range []int{math.MinInt, -1, things[kind], things[kind] + 1, math.MaxInt/54 + 1, math.MaxInt} {
			if at := m.At(kind, i, 0); at != lay.None {
				t.Errorf("At(%d, %d, 0): %d", kind, i, at)
			}
		}
		for _, k := range []int{math.MinInt, -1, places[kind], places[kind] + 1, math.MaxInt} {
			if at := m.At(kind, 0, k); at != lay.None {
				t.Errorf("At(%d, 0, %d): %d", kind, k, at)
			}
		}
		if m.At(kind, things[kind]-1, places[kind]-1) == lay.None {
			t.Errorf("the last place of the kind %d is nowhere", kind)
		}
	}
	for _, kind := range []int{math.MinInt, -2, lay.None, lay.Word + 1, 18, math.MaxInt} {
		if at := m.At(kind, 0, 0); at != lay.None {
			t.Errorf("At(%d, 0, 0): %d", kind, at)
		}
	}
	for _, at := range []int{math.MinInt, -2, -1, 173, 174, 1 << 16, math.MaxInt} {
		if kind, i, k := m.What(at); kind != lay.None || i != 0 || k != 0 {
			t.Errorf("What(%d): %d, %d, %d", at, kind, i, k)
		}
	}
}

// P7.1: with what all begins: each cell, and no steps.
func TestBoot(t *testing.T) {
	for n, c := range all() {
		c.First = []uint64{0, 6, 1 << 47}[n%3]
		c.Last = 1 << 47
		m := made(t, c)
		mem := m.Boot()
		if mem.Size() != m.Size() || mem.Total() != 0 || len(mem.Events()) != 0 {
			t.Fatalf("%v: %d cells, %d steps", c, mem.Size(), mem.Total())
		}
		for who := range api.MaxThreads {
			if mem.Steps(who) != 0 {
				t.Errorf("%v: the thread %d has done %d steps", c, who, mem.Steps(who))
			}
		}
		for at, p := range rows(c) {
			var want api.Cell
			switch p.kind {
			case lay.Now:
				want.Seq = c.First
			case lay.Top:
				want.Val = uint64(c.Blocks)
			case lay.Stack:
				want.Val = uint64(c.Blocks - 1 - p.i)
			}
			if got, ok := mem.Peek(at); got != want || !ok {
				t.Fatalf("%v: the cell %d, which is %v, is %v", c, at, p, got)
			}
		}
	}
}

// P7.1, P2: each boot is a memory of its own; a map tells the same whatever was asked for, of it and of others.
func TestApart(t *testing.T) {
	c := api.Cfg{Threads: 2, Blocks: 3, Writes: 4, Fuel: 5, First: 6, Last: 7}
	m := made(t, c)
	one, two := m.Boot(), m.Boot()
	for at := range one.Size() {
		one.Set(at, api.Cell{Val: 9, Seq: 9})
		one.Do(0, api.Op{At: at})
	}
	made(t, api.Cfg{Threads: 8, Blocks: 64, Writes: 64, Fuel: 1})
	for _, mem := range []interface {
		Peek(at int) (api.Cell, bool)
		Total() int
	}{two, m.Boot(), made(t, c).Boot()} {
		now, _ := mem.Peek(0)
		top, _ := mem.Peek(134)
		if now != (api.Cell{Seq: 6}) || top != (api.Cell{Val: 3}) || mem.Total() != 0 {
			t.Errorf("one memory turns another: %v, %v, %d steps", now, top, mem.Total())
		}
	}
	if m.Cfg() != c || m.Size() != 173 || m.At(lay.Word, 2, 7) != 172 || m != made(t, c) {
		t.Error("a map is another one behind a boot")
	}
}
