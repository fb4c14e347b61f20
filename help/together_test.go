package help_test

import (
	"testing"

	"tumbler/api"
	"tumbler/cell"
	"tumbler/help"
	"tumbler/lay"
	"tumbler/wset"
)

// machine is who asks for one step after the other.
type machine interface {
	Ask() (api.Op, bool)
	Tell(api.Out)
}

// row is steps that are known ahead.
type row struct{ ops []api.Op }

func (r *row) Ask() (api.Op, bool) {
	if len(r.ops) == 0 {
		return api.Op{}, false
	}
	return r.ops[0], true
}

func (r *row) Tell(api.Out) {
	if len(r.ops) > 0 {
		r.ops = r.ops[1:]
	}
}

// deed is a transaction.
type deed struct {
	owner int
	seq   uint64
	list  []wset.Entry
}

// written is the steps by which a log is written.
func (d deed) written(m lay.Map) *row {
	r := &row{}
	store := func(kind, k int, c api.Cell) {
		r.ops = append(r.ops, api.Op{Kind: api.Store, At: m.At(kind, d.owner, k), New: c})
	}
	for i, e := range d.list {
		store(lay.Log, i, api.Cell{Val: e.Val, Seq: uint64(e.At)})
	}
	store(lay.Len, 0, api.Cell{Val: uint64(len(d.list))})
	store(lay.Open, 0, api.Cell{Val: 1, Seq: d.seq})
	return r
}

// own is its owner, who does it; another is a thread that helps.
func (d deed) own(m lay.Map) machine              { return help.Own(m, d.owner, d.seq, d.list) }
func (d deed) another(m lay.Map, who int) machine { return help.New(m, who, d.owner, d.seq) }

// play lets threads go on till all are done, each through its machines; pick tells which one of so many that aren't done is next.
func play(mem *cell.Mem, threads [][]machine, pick func(int) int) {
	for {
		var left []int
		for i := range threads {
			for len(threads[i]) > 0 {
				if _, ok := threads[i][0].Ask(); ok {
					left = append(left, i)
					break
				}
				threads[i] = threads[i][1:]
			}
		}
		if len(left) == 0 {
			return
		}
		who := left[pick(len(left))]
		op, _ := threads[who][0].Ask()
		out, _ := mem.Do(who, op)
		threads[who][0].Tell(out)
	}
}

// choices goes through all orders: each time it tells the same picks as the last time, but the last one that may be another.
type choices struct{ picks, of []int }

// orders does something once for each order.
func orders(do func(pick func(int) int) bool) int {
	c, count := choices{}, 0
	for {
		at := 0
		ok := do(func(n int) int {
			if at == len(c.picks) {
				c.picks, c.of = append(c.picks, 0), append(c.of, n)
			}
			at++
			return c.picks[at-1]
		})
		count++
		last := len(c.picks) - 1
		for last >= 0 && c.picks[last] == c.of[last]-1 {
			last--
		}
		if !ok || last < 0 {
			return count
		}
		c.picks, c.of = c.picks[:last+1], c.of[:last+1]
		c.picks[last]++
	}
}

// key is a cell, and the transaction that turned it.
type key struct {
	seq uint64
	at  int
}

// once tells a fault unless each cell of each transaction became what that says, once, and none became anything else; and unless all was done when it was said to be.
func once(t *testing.T, m lay.Map, events []api.Event, deeds ...deed) {
	t.Helper()
	says, turned := map[key]uint64{}, map[key]int{}
	for _, d := range deeds {
		for _, e := range d.list {
			says[key{d.seq, e.At}] = e.Val
		}
	}
	for i, e := range events {
		kind, _, _ := m.What(e.Op.At)
		turns := e.Op.Kind != api.Load && e.Out.Ok
		is := e.Op.New
		switch {
		case kind == lay.Open && e.Op.Kind == api.Swap && turns:
			for k := range says {
				if k.seq == is.Seq && turned[k] != 1 {
					t.Errorf("step %d: %d is said to be done, and of the cell %d isn't", i, k.seq, k.at)
				}
			}
		case kind >= lay.Tag && turns:
			k := key{is.Seq, e.Op.At}
			val, ok := says[k]
			turned[k]++
			if !ok || is.Val != val || turned[k] != 1 || e.Op.Kind != api.Swap || e.Out.Was.Seq >= is.Seq {
				t.Errorf("step %d: %v, of %v; %v, %d times", i, e.Op, e.Out.Was, ok, turned[k])
			}
		}
	}
	for k := range says {
		if turned[k] != 1 {
			t.Errorf("the cell %d became what %d says %d times", k.at, k.seq, turned[k])
		}
	}
}

// ends tells a fault unless a memory's cell is so.
func ends(t *testing.T, mem *cell.Mem, at int, want api.Cell) {
	t.Helper()
	if got, ok := mem.Peek(at); got != want || !ok {
		t.Errorf("at last the cell %d is %v, not %v", at, got, want)
	}
}

// P12.2: two threads do one transaction of a root and of a word: all orders.
func TestTwoInAllOrders(t *testing.T) {
	m := mapOf(t, 3, 2, 1)
	root, word := m.At(lay.Root, 4, 0), m.At(lay.Word, 1, 3)
	d := deed{1, 6, []wset.Entry{{At: root, Val: 9}, {At: word, Val: 0}}}
	count := orders(func(pick func(int) int) bool {
		mem := m.Boot()
		play(mem, [][]machine{{d.written(m)}}, func(int) int { return 0 })
		play(mem, [][]machine{{d.another(m, 0)}, {d.own(m)}}, pick)
		once(t, m, mem.Events(), d)
		ends(t, mem, root, api.Cell{Val: 9, Seq: 6})
		ends(t, mem, word, api.Cell{Val: 0, Seq: 6})
		ends(t, mem, m.At(lay.Open, 1, 0), api.Cell{Seq: 6})
		return !t.Failed()
	})
	if count < 5000 {
		t.Errorf("only %d orders", count)
	}
}

// P12.2: three threads do one transaction of one cell: all orders.
func TestThreeInAllOrders(t *testing.T) {
	m := mapOf(t, 3, 2, 1)
	root := m.At(lay.Root, 4, 0)
	d := deed{1, 6, []wset.Entry{{At: root, Val: 9}}}
	count := orders(func(pick func(int) int) bool {
		mem := m.Boot()
		play(mem, [][]machine{{d.written(m)}}, func(int) int { return 0 })
		play(mem, [][]machine{{d.another(m, 0)}, {d.own(m)}, {d.another(m, 2)}}, pick)
		once(t, m, mem.Events(), d)
		ends(t, mem, root, api.Cell{Val: 9, Seq: 6})
		return !t.Failed()
	})
	if count < 5000 {
		t.Errorf("only %d orders", count)
	}
}

// P12.2: a thread that comes late, while the owner is at its next transaction of the same cell already, turns nothing back: all orders.
func TestLateInAllOrders(t *testing.T) {
	m := mapOf(t, 2, 2, 1)
	root, word := m.At(lay.Root, 4, 0), m.At(lay.Word, 1, 3)
	for _, c := range []struct{ first, then []wset.Entry }{
		{[]wset.Entry{{At: root, Val: 9}}, []wset.Entry{{At: root, Val: 0}}},
		{[]wset.Entry{{At: word, Val: 9}}, []wset.Entry{{At: root, Val: 8}}},
		{[]wset.Entry{{At: root, Val: 9}}, []wset.Entry{{At: word, Val: 8}}},
	} {
		first, then := deed{1, 6, c.first}, deed{1, 7, c.then}
		count := orders(func(pick func(int) int) bool {
			mem := m.Boot()
			play(mem, [][]machine{{first.written(m)}}, func(int) int { return 0 })
			play(mem, [][]machine{{first.another(m, 0)}, {first.own(m), then.written(m), then.own(m)}}, pick)
			once(t, m, mem.Events(), first, then)
			ends(t, mem, m.At(lay.Open, 1, 0), api.Cell{Seq: 7})
			return !t.Failed()
		})
		if count < 500 {
			t.Errorf("only %d orders", count)
		}
	}
}

// P12.2: the owner stands still for ever, at any step: another thread does all that is left.
func TestOwnerStandsStill(t *testing.T) {
	m := mapOf(t, 2, 2, 1)
	d := deed{1, 6, []wset.Entry{{At: m.At(lay.Root, 0, 0), Val: 5}, {At: m.At(lay.Word, 0, 0), Val: 4}, {At: m.At(lay.Word, 1, 0), Val: 3}}}
	for still := range 14 {
		mem := m.Boot()
		play(mem, [][]machine{{d.written(m)}}, func(int) int { return 0 })
		own := d.own(m)
		for range still {
			if op, ok := own.Ask(); ok {
				out, _ := mem.Do(1, op)
				own.Tell(out)
			}
		}
		play(mem, [][]machine{{d.another(m, 0)}}, func(int) int { return 0 })
		once(t, m, mem.Events(), d)
	}
}

// P12.2: up to eight threads, each of which comes more than once, and great logs, in any orders.
func TestManyAtRandom(t *testing.T) {
	n := numbers(13)
	for range 400 {
		threads := 1 + n.below(8)
		m := mapOf(t, threads, 1+n.below(9), n.below(9))
		d := deed{owner: n.below(threads), seq: 1 + uint64(n.below(9))}
		set := wset.New(n.below(m.Cap() + 1))
		for range 40 {
			if at := n.cell(m); at >= m.At(lay.Tag, 0, 0) && at < m.Size() {
				set.Put(at, uint64(n.below(3)))
			}
		}
		d.list = set.All()
		mem := m.Boot()
		play(mem, [][]machine{{d.written(m)}}, func(int) int { return 0 })
		var all [][]machine
		for who := range threads {
			all = append(all, []machine{d.another(m, who), d.another(m, who)})
		}
		all[d.owner] = []machine{d.own(m)}
		// A thread that is picked goes on for a while, so that others stand still anywhere.
		who, left := 0, 0
		play(mem, all, func(of int) int {
			if left--; left < 0 {
				who, left = n.below(of), n.below(12)
			}
			return min(who, of-1)
		})
		once(t, m, mem.Events(), d)
		for _, e := range d.list {
			ends(t, mem, e.At, api.Cell{Val: e.Val, Seq: d.seq})
		}
		if t.Failed() {
			return
		}
	}
}
