package scribe_test

import (
	"testing"

	"tumbler/api"
	"tumbler/cell"
	"tumbler/help"
	"tumbler/lay"
	"tumbler/scribe"
	"tumbler/wset"
)

// numbers is a row of numbers that is the same each time.
type numbers uint64

func (n *numbers) below(limit int) int {
	*n = *n*6364136223846793005 + 1442695040888963407
	return int(uint64(*n>>33) % uint64(limit))
}

// list is entries, no two of one cell, some of them of cells that no transaction writes.
func (n *numbers) list(m lay.Map, most int) []wset.Entry {
	set := wset.New(most)
	for range n.below(most + 1) {
		at := m.At(lay.Tag, 0, 0) + n.below(m.Size()-m.At(lay.Tag, 0, 0))
		if n.below(9) == 0 {
			at = []int{0, 1, -1, -1 << 40, m.Size(), 1 << 16, 1 << 40}[n.below(7)]
		}
		set.Put(at, uint64(n.below(3)))
	}
	return set.All()
}

// machine is who asks for one step after the other.
type machine interface {
	Ask() (api.Op, bool)
	Tell(api.Out)
}

// do does all steps of a machine.
func do(mem *cell.Mem, who int, x machine) {
	for op, ok := x.Ask(); ok; op, ok = x.Ask() {
		out, _ := mem.Do(who, op)
		x.Tell(out)
	}
}

// P13.2: what one thread writes another one does: each cell becomes what its entry says, and no other one that transactions write is turned.
func TestWrittenIsDone(t *testing.T) {
	n := numbers(14)
	for range 400 {
		m := mapOf(t, 1+n.below(8), 1+n.below(64), n.below(20))
		list := n.list(m, m.Cap()+20)
		owner, who, seq := n.below(m.Cfg().Threads), n.below(m.Cfg().Threads), 1+uint64(n.below(99))
		mem := m.Boot()
		do(mem, owner, scribe.New(m, owner, seq, list))
		is := map[int]api.Cell{}
		for at := m.At(lay.Tag, 0, 0); at < m.Size(); at++ {
			is[at], _ = mem.Peek(at)
		}
		for _, e := range list[:min(len(list), m.Cap())] {
			if _, ok := is[e.At]; ok {
				is[e.At] = api.Cell{Val: e.Val, Seq: seq}
			}
		}
		is[m.At(lay.Open, owner, 0)] = api.Cell{Seq: seq}
		do(mem, who, help.New(m, who, owner, seq))
		for at, want := range is {
			if got, _ := mem.Peek(at); got != want {
				t.Errorf("the cell %d is %v, not %v", at, got, want)
			}
		}
		if t.Failed() {
			return
		}
	}
}

// P13.2: all entries that there is room for are done, and none above them.
func TestFullLogIsDone(t *testing.T) {
	m := mapOf(t, 1, 64, 0)
	list := make([]wset.Entry, m.Cap()+3)
	for i := range list {
		list[i] = wset.Entry{At: m.At(lay.Word, i/api.Words, i%api.Words), Val: uint64(i) + 1}
	}
	mem := m.Boot()
	do(mem, 0, scribe.New(m, 0, 6, list))
	do(mem, 0, help.New(m, 0, 0, 6))
	for i, e := range list {
		want := api.Cell{Val: e.Val, Seq: 6}
		if i >= m.Cap() {
			want = api.Cell{}
		}
		if got, _ := mem.Peek(e.At); got != want {
			t.Errorf("entry %d: %v, not %v", i, got, want)
		}
	}
}

// thread is a thread that makes transactions, one after the other: it looks at the last one, helps, writes its log, swaps Now, and does its own.
type thread struct {
	w    *world
	who  int
	next func(out api.Out) // what it goes on with, behind the machine
	at   machine
	last api.Out // what came of the step that was done last
	left int     // how many transactions it is to make yet
}

// world is a memory, all of its threads, and what the transactions say that became the last one.
type world struct {
	n       numbers
	m       lay.Map
	mem     *cell.Mem
	threads []*thread
	says    map[uint64][]wset.Entry
}

// single is a machine of one step.
type single struct {
	op   api.Op
	done bool
}

func (s *single) Ask() (api.Op, bool) { return s.op, !s.done }
func (s *single) Tell(api.Out)        { s.done = true }

func (t *thread) look(api.Out) {
	t.at, t.next = &single{op: api.Op{Kind: api.Load}}, t.help
}

func (t *thread) help(out api.Out) {
	now := out.Was
	t.at = help.New(t.w.m, t.who, int(now.Val), now.Seq)
	t.next = func(api.Out) { t.write(now) }
}

func (t *thread) write(now api.Cell) {
	list := t.w.n.list(t.w.m, 6)
	t.at = scribe.New(t.w.m, t.who, now.Seq+1, list)
	t.next = func(api.Out) { t.swap(now, list) }
}

func (t *thread) swap(now api.Cell, list []wset.Entry) {
	is := api.Cell{Val: uint64(t.who), Seq: now.Seq + 1}
	t.at = &single{op: api.Op{Kind: api.Swap, Old: now, New: is}}
	t.next = func(out api.Out) {
		if !out.Ok {
			t.look(out)
			return
		}
		t.w.says[is.Seq] = list
		t.at, t.next = help.Own(t.w.m, t.who, is.Seq, list), t.end
	}
}

func (t *thread) end(out api.Out) {
	t.left--
	t.look(out)
}

// step does a thread's next step; false: it has made all its transactions.
func (t *thread) step() bool {
	for t.left > 0 {
		if op, ok := t.at.Ask(); ok {
			t.last, _ = t.w.mem.Do(t.who, op)
			t.at.Tell(t.last)
			return true
		}
		t.next(t.last)
	}
	return false
}

// play lets threads go on till all are done, in any order; each that is picked goes on for a while.
func (w *world) play() {
	for len(w.threads) > 0 {
		i := w.n.below(len(w.threads))
		for range 1 + w.n.below(30) {
			if !w.threads[i].step() {
				w.threads = append(w.threads[:i], w.threads[i+1:]...)
				break
			}
		}
	}
}

// follows tells a fault unless, behind each transaction that became the last one, the cells held just what all transactions ahead say; and unless each cell became that once.
func (w *world) follows(t *testing.T) {
	t.Helper()
	boot := w.m.Boot()
	now, is := map[int]api.Cell{}, map[int]api.Cell{}
	for at := w.m.At(lay.Tag, 0, 0); at < w.m.Size(); at++ {
		now[at], _ = boot.Peek(at)
		is[at] = now[at]
	}
	turn := func(seq uint64) {
		for _, e := range w.says[seq] {
			if _, ok := is[e.At]; ok {
				is[e.At] = api.Cell{Val: e.Val, Seq: seq}
			}
		}
	}
	like := func(seq uint64) {
		for at, want := range is {
			if now[at] != want {
				t.Errorf("behind the transaction %d the cell %d is %v, not %v", seq, at, now[at], want)
			}
		}
	}
	last := uint64(0)
	for _, e := range w.mem.Events() {
		if e.Op.Kind == api.Load || !e.Out.Ok {
			continue
		}
		if e.Op.At == 0 {
			// The one ahead is done, just when the next one begins.
			like(last)
			last = e.Op.New.Seq
			turn(last)
		}
		if was, ok := now[e.Op.At]; ok {
			if was.Seq >= e.Op.New.Seq || e.Op.New != is[e.Op.At] {
				t.Errorf("within the transaction %d the cell %d becomes %v, from %v, not %v", last, e.Op.At, e.Op.New, was, is[e.Op.At])
			}
			now[e.Op.At] = e.Op.New
		}
	}
	like(last)
}

// P13.2, P12.2: threads that make transactions one after the other, and help, in any orders: each is done as a whole ahead of the next, and once.
func TestWorld(t *testing.T) {
	n := numbers(15)
	helped := 0
	for i := range 300 {
		w := &world{n: numbers(i), m: mapOf(t, 1+n.below(8), 1+n.below(3), n.below(3)), says: map[uint64][]wset.Entry{}}
		w.mem = w.m.Boot()
		for who := range w.m.Cfg().Threads {
			x := &thread{w: w, who: who, left: 1 + n.below(5)}
			x.look(api.Out{})
			w.threads = append(w.threads, x)
		}
		w.play()
		w.follows(t)
		for _, e := range w.mem.Events() {
			if kind, owner, _ := w.m.What(e.Op.At); kind == lay.Open && e.Op.Kind == api.Swap && e.Out.Ok && owner != e.Who {
				helped++
			}
		}
		if t.Failed() {
			return
		}
	}
	if helped < 300 {
		t.Errorf("only %d transactions were done by another thread", helped)
	}
}
