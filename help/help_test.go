package help_test

import (
	"math"
	"slices"
	"testing"

	"tumbler/api"
	"tumbler/help"
	"tumbler/lay"
	"tumbler/wset"
)

// mapOf is a map of so many threads, blocks and words to write.
func mapOf(t *testing.T, threads, blocks, writes int) lay.Map {
	t.Helper()
	m, e := lay.Of(api.Cfg{Threads: threads, Blocks: blocks, Writes: writes, Fuel: 1, Last: api.MaxSeq})
	if e != api.OK {
		t.Fatalf("no map: error %d", e)
	}
	return m
}

// step is a step that is asked for, and what is told of it.
type step struct {
	op  api.Op
	was api.Cell
}

func load(at int, val, seq uint64) step {
	return step{api.Op{Kind: api.Load, At: at}, api.Cell{Val: val, Seq: seq}}
}

// swap is a swap; whatever is told of it makes no difference.
func swap(at int, was, is api.Cell) step {
	return step{api.Op{Kind: api.Swap, At: at, Old: was, New: is}, api.Cell{Val: 77, Seq: 99}}
}

// desk is whose transaction of which number is done, and by whom.
type desk struct {
	m          lay.Map
	who, owner int
	seq        uint64
}

func deskOf(t *testing.T) desk { return desk{mapOf(t, 2, 3, 4), 0, 1, 6} }

func (d desk) help() *help.Help { return help.New(d.m, d.who, d.owner, d.seq) }

func (d desk) at(kind, i, k int) int { return d.m.At(kind, i, k) }

// log is the steps by which a log is read; its cells are told as they are.
func (d desk) log(cells ...api.Cell) []step {
	list := []step{load(d.at(lay.Len, d.owner, 0), uint64(len(cells)), 99)}
	for i, c := range cells {
		list = append(list, load(d.at(lay.Log, d.owner, i), c.Val, c.Seq))
	}
	return list
}

// looks is the step by which it is read whether the transaction is being done yet: it is.
func (d desk) looks() step { return load(d.at(lay.Open, d.owner, 0), 1, d.seq) }

// turns is the steps by which a cell becomes something.
func (d desk) turns(at int, is uint64) []step {
	was := api.Cell{Val: 3, Seq: d.seq - 1}
	return []step{load(at, 3, d.seq-1), swap(at, was, api.Cell{Val: is, Seq: d.seq})}
}

// names is the steps by which a block is held.
func (d desk) names(block int) []step {
	name := api.Op{Kind: api.Store, At: d.at(lay.Slot, d.who, 0), New: api.Cell{Val: uint64(block) + 1}}
	return []step{{name, api.Cell{Val: 8, Seq: 99}}, d.looks()}
}

// shuts is the last step.
func (d desk) shuts() step {
	return swap(d.at(lay.Open, d.owner, 0), api.Cell{Val: 1, Seq: d.seq}, api.Cell{Seq: d.seq})
}

// asks tells a fault unless just these steps are asked for, however often it is asked, and whether or not they are done.
func asks(t *testing.T, name string, h *help.Help, steps ...[]step) {
	t.Helper()
	for i, s := range slices.Concat(steps...) {
		for range 2 {
			if op, ok := h.Ask(); op != s.op || !ok || h.Done() {
				t.Errorf("%s: step %d: %v, %v, not %v; done: %v", name, i, op, ok, s.op, h.Done())
				return
			}
		}
		h.Tell(api.Out{Was: s.was, Ok: i%2 == 0})
	}
	for range 3 {
		if op, ok := h.Ask(); op != (api.Op{}) || ok || !h.Done() {
			t.Errorf("%s: at the end: %v, %v; done: %v", name, op, ok, h.Done())
		}
		h.Tell(api.Out{Was: api.Cell{Val: 1, Seq: 6}, Ok: true})
	}
}

func one(s step) []step { return []step{s} }

func entry(at int, val uint64) api.Cell { return api.Cell{Val: val, Seq: uint64(at)} }

// P12.1: the chapter's example: one entry, of a word, is done by eight steps.
func TestExample(t *testing.T) {
	d := deskOf(t)
	word := d.at(lay.Word, 2, 5)
	steps := [][]step{d.log(entry(word, 9)), one(d.looks()), d.names(2), d.turns(word, 9), one(d.shuts())}
	if n := len(slices.Concat(steps...)); n != 8 {
		t.Errorf("%d steps", n)
	}
	asks(t, "the example", d.help(), steps...)
}

// P12.1: who does it names the block in its own slot; the log, and Open, are the owner's; of any threads.
func TestThreads(t *testing.T) {
	for _, threads := range []int{1, 2, 8} {
		m := mapOf(t, threads, 64, 2)
		for who := range threads {
			for owner := range threads {
				d := desk{m, who, owner, api.MaxSeq}
				word, root := d.at(lay.Word, 63, 7), d.at(lay.Root, 15, 0)
				asks(t, "another's", d.help(), d.log(entry(word, 9), entry(root, 8)), one(d.looks()), d.names(63), d.turns(word, 9), d.turns(root, 8), one(d.shuts()))
			}
			d := desk{m, who, who, 1}
			word := d.at(lay.Word, 0, 0)
			asks(t, "its own", help.Own(m, who, 1, []wset.Entry{{At: word, Val: 4}}), d.names(0), d.turns(word, 4), one(d.shuts()))
		}
	}
}

// P12.1: of no entries, or of such as are of no cells that transactions write, nothing is done but the end.
func TestNothingToWrite(t *testing.T) {
	d := deskOf(t)
	asks(t, "an empty log", d.help(), d.log(), one(d.looks()), one(d.shuts()))
	d.owner = d.who
	asks(t, "nil", help.Own(d.m, 0, 6, nil), one(d.shuts()))
	asks(t, "empty", help.Own(d.m, 0, 6, []wset.Entry{}), one(d.shuts()))
	asks(t, "of no cells", help.Own(d.m, 0, 6, make([]wset.Entry, 3)), one(d.shuts()))
	asks(t, "very many of no cells", help.Own(d.m, 0, 6, make([]wset.Entry, 1<<20)), one(d.shuts()))
}

// P12.1: of which cells an entry is done: those of the kinds 7 to 16, whichever place.
func TestCells(t *testing.T) {
	m := mapOf(t, 3, 4, 1)
	for at := -3; at < m.Size()+3; at++ {
		kind, block, _ := m.What(at)
		own, other := desk{m, 2, 2, 6}, desk{m, 0, 1, 6}
		var ownSteps, otherSteps [][]step
		if kind == 16 {
			ownSteps, otherSteps = append(ownSteps, own.names(block)), append(otherSteps, other.names(block))
		}
		if kind >= 7 {
			ownSteps, otherSteps = append(ownSteps, own.turns(at, 9)), append(otherSteps, other.turns(at, 9))
		}
		asks(t, "its own", help.Own(m, 2, 6, []wset.Entry{{At: at, Val: 9}}), append(ownSteps, one(own.shuts()))...)
		log := [][]step{other.log(entry(at, 9)), one(other.looks())}
		asks(t, "another's", other.help(), append(append(log, otherSteps...), one(other.shuts()))...)
		if t.Failed() {
			t.Fatalf("the cell %d, of the kind %d", at, kind)
		}
	}
}

// P12.1: numbers of cells that there aren't, some of them a cell's but for their high bits.
func TestNoSuchCell(t *testing.T) {
	d := deskOf(t)
	root := d.at(lay.Root, 2, 0)
	high := []uint64{1 << 16, 1 << 17, 1 << 31, 1 << 32, 1 << 48, 1 << 63}
	for _, h := range high {
		for _, cell := range []uint64{h, h - 1, h + uint64(root), -h + uint64(root)} {
			asks(t, "another's", d.help(), d.log(api.Cell{Val: 9, Seq: cell}, entry(root, 7)), one(d.looks()), d.turns(root, 7), one(d.shuts()))
			own := desk{d.m, 1, 1, 6}
			list := []wset.Entry{{At: int(cell), Val: 9}, {At: root, Val: 7}}
			asks(t, "its own", help.Own(d.m, 1, 6, list), own.turns(root, 7), one(own.shuts()))
		}
	}
	for _, at := range []int{math.MinInt, -1, d.m.Size(), math.MaxInt} {
		own := desk{d.m, 1, 1, 6}
		asks(t, "its own", help.Own(d.m, 1, 6, []wset.Entry{{At: root, Val: 7}, {At: at}}), own.turns(root, 7), one(own.shuts()))
	}
}

// P12.1: of a log at most Cap entries are read, however great its Len.
func TestCap(t *testing.T) {
	for _, m := range []lay.Map{mapOf(t, 1, 1, 0), mapOf(t, 2, 3, 4), mapOf(t, 8, 64, 64)} {
		d := desk{m, 0, m.Cfg().Threads - 1, 6}
		for _, n := range []uint64{uint64(m.Cap()) - 1, uint64(m.Cap()), uint64(m.Cap()) + 1, 1 << 31, 1 << 32, 1<<32 + 1, 1 << 63, math.MaxUint64} {
			cells := make([]api.Cell, min(n, uint64(m.Cap())))
			var done [][]step
			for i := range min(len(cells), api.Roots) {
				root := d.at(lay.Root, i, 0)
				cells[len(cells)-1-i] = entry(root, n)
				done = append([][]step{d.turns(root, n)}, done...)
			}
			log := d.log(cells...)
			log[0].was.Val = n
			asks(t, "a long log", d.help(), append(append([][]step{log, one(d.looks())}, done...), one(d.shuts()))...)
		}
	}
}

// P12.1: its own entries are done all of them, more than Cap too.
func TestOwnBeyondCap(t *testing.T) {
	m := mapOf(t, 1, 64, 0)
	d := desk{m, 0, 0, 6}
	var list []wset.Entry
	var steps [][]step
	for block := range 64 {
		for k := range api.Words {
			at := d.at(lay.Word, block, k)
			list = append(list, wset.Entry{At: at, Val: uint64(at)})
			if k == 0 {
				steps = append(steps, d.names(block))
			}
			steps = append(steps, d.turns(at, uint64(at)))
		}
	}
	asks(t, "more than Cap", help.Own(m, 0, 6, list), append(steps, one(d.shuts()))...)
}

// P12.1: a block is held from one word to the next, other cells between them; another one is named anew, and so is the first one behind that.
func TestHeld(t *testing.T) {
	d := deskOf(t)
	a, b, c, other := d.at(lay.Word, 0, 0), d.at(lay.Word, 0, 7), d.at(lay.Word, 0, 3), d.at(lay.Word, 1, 0)
	life, none := d.at(lay.Life, 1, 0), d.at(lay.Now, 0, 0)
	log := d.log(entry(a, 1), entry(life, 2), entry(none, 3), entry(b, 4), entry(other, 5), entry(c, 6))
	steps := [][]step{one(d.looks()), d.names(0), d.turns(a, 1), d.turns(life, 2), d.turns(b, 4), d.names(1), d.turns(other, 5), d.names(0), d.turns(c, 6), one(d.shuts())}
	asks(t, "held", d.help(), append([][]step{log}, steps...)...)
}

// P12.1: whether a transaction is being done is told by both numbers of Open: at first, and whenever a block was named.
func TestBeingDone(t *testing.T) {
	d := deskOf(t)
	word, other := d.at(lay.Word, 1, 4), d.at(lay.Word, 2, 4)
	log := d.log(entry(word, 9), entry(other, 8))
	for _, is := range []api.Cell{{}, {Val: 1}, {Seq: 6}, {Val: 1, Seq: 5}, {Val: 1, Seq: 7}, {Val: 2, Seq: 6}, {Val: 6, Seq: 1}, {Val: 1, Seq: 1<<32 + 6}, {Val: 1<<32 + 1, Seq: 6}, {Val: math.MaxUint64, Seq: 6}} {
		shut := d.looks()
		shut.was = is
		asks(t, "at first", d.help(), log, one(shut))
		asks(t, "at first, of an empty log", d.help(), d.log(), one(shut))
		asks(t, "behind a block", d.help(), log, one(d.looks()), d.names(1)[:1], one(shut))
		asks(t, "behind the second block", d.help(), log, one(d.looks()), d.names(1), d.turns(word, 9), d.names(2)[:1], one(shut))
		own := desk{d.m, 1, 1, 6}
		shut.op.At = own.at(lay.Open, 1, 0)
		asks(t, "its own", help.Own(d.m, 1, 6, []wset.Entry{{At: word, Val: 9}}), own.names(1)[:1], one(shut))
	}
}

// P12.1: a cell is swapped just if its Seq is below the transaction's number.
func TestBelow(t *testing.T) {
	m := mapOf(t, 2, 3, 4)
	for _, c := range []struct {
		seq, is uint64
		below   bool
	}{
		{6, 0, true}, {6, 5, true}, {6, 6, false}, {6, 7, false}, {6, 1 << 32, false}, {6, math.MaxUint64, false},
		{0, 0, false}, {0, 1, false}, {1, 0, true}, {1 << 32, 6, true}, {1 << 32, 1<<32 - 1, true},
		{math.MaxUint64, math.MaxUint64 - 1, true}, {math.MaxUint64, 1 << 63, true}, {math.MaxUint64, math.MaxUint64, false},
	} {
		d := desk{m, 0, 1, c.seq}
		for _, at := range []int{d.at(lay.Tag, 0, 0), d.at(lay.Stack, 2, 0), d.at(lay.Word, 1, 1)} {
			steps := [][]step{d.log(entry(at, 9), entry(at, 9)), one(d.looks())}
			if at == d.at(lay.Word, 1, 1) {
				steps = append(steps, d.names(1))
			}
			for range 2 {
				steps = append(steps, one(load(at, 9, c.is)))
				if c.below {
					steps = append(steps, one(swap(at, api.Cell{Val: 9, Seq: c.is}, api.Cell{Val: 9, Seq: c.seq})))
				}
			}
			asks(t, "below", d.help(), append(steps, one(d.shuts()))...)
		}
	}
}

// P2: entries that are handed in are kept as they were, and aren't turned, nor what stands behind their length.
func TestEntriesHandedIn(t *testing.T) {
	m := mapOf(t, 2, 3, 4)
	d := desk{m, 1, 1, 6}
	roots := []int{d.at(lay.Root, 0, 0), d.at(lay.Root, 1, 0), d.at(lay.Root, 2, 0)}
	room := []wset.Entry{{At: roots[0], Val: 1}, {At: roots[1], Val: 2}, {At: roots[2], Val: 3}}
	was := slices.Clone(room)
	a, b := help.Own(m, 1, 6, room[:2]), help.Own(m, 1, 6, room[:2])
	asks(t, "the first one", a, d.turns(roots[0], 1), d.turns(roots[1], 2), one(d.shuts()))
	if !slices.Equal(room, was) {
		t.Errorf("turned: %v", room)
	}
	clear(room)
	asks(t, "the second one", b, d.turns(roots[0], 1), d.turns(roots[1], 2), one(d.shuts()))
}

// P2: two machines of one map know nothing of each other.
func TestApart(t *testing.T) {
	d := deskOf(t)
	root := d.at(lay.Root, 0, 0)
	a, b := d.help(), d.help()
	a.Tell(api.Out{Was: api.Cell{Val: 3}})
	b.Tell(api.Out{})
	asks(t, "the second one", b, one(d.looks()), one(d.shuts()))
	asks(t, "the first one", a, d.log(entry(root, 1), entry(root, 2), entry(root, 3))[1:], one(d.looks()), d.turns(root, 1), d.turns(root, 2), d.turns(root, 3), one(d.shuts()))
}

// P1: threads that there aren't, and maps that Of didn't tell, let nothing panic or go on for ever.
func TestOfNoSuchThreads(t *testing.T) {
	for _, m := range []lay.Map{mapOf(t, 2, 3, 4), {}} {
		list := []wset.Entry{{At: m.At(lay.Word, 1, 1), Val: 1}, {At: m.At(lay.Root, 1, 0), Val: 1}}
		for _, who := range []int{math.MinInt, -1, 2, 8, math.MaxInt} {
			for _, h := range []*help.Help{help.New(m, who, 0, 6), help.New(m, 0, who, 6), help.Own(m, who, 6, list)} {
				for range 2*m.Cap() + 20 {
					h.Ask()
					h.Tell(api.Out{Was: api.Cell{Val: 1, Seq: 6}})
				}
				if !h.Done() {
					t.Errorf("of the thread %d: it isn't done", who)
				}
			}
		}
	}
}
