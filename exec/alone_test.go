package exec_test

import (
	"slices"
	"testing"

	"tumbler/api"
	"tumbler/cell"
	"tumbler/exec"
	"tumbler/lay"
	"tumbler/model"
	"tumbler/pool"
	"tumbler/view"
	"tumbler/wset"
)

// world is a memory that one thread alone writes, transaction by transaction, and the state of which it is the memory.
type world struct {
	m     lay.Map
	mem   *cell.Mem
	seq   uint64
	state *model.State
}

// do does all steps of a machine, and tells how many.
func (w *world) do(ask func() (api.Op, bool), tell func(api.Out)) int {
	steps := 0
	for op, ok := ask(); ok; op, ok = ask() {
		out, _ := w.mem.Do(1, op)
		tell(out)
		steps++
	}
	return steps
}

// begin is the next transaction, in which nothing ran as yet.
func (w *world) begin() *desk {
	d := &desk{m: w.m, v: view.New(w.m, 1, w.seq), p: pool.New(w.m, w.seq), w: wset.New(w.m.Cap())}
	w.do(d.p.Ask, d.p.Tell)
	d.p.Settle(d.w)
	return d
}

// end lets what a transaction is to write be written.
func (w *world) end(d *desk) {
	d.p.End(d.w)
	w.seq++
	for _, e := range d.w.All() {
		w.mem.Set(e.At, api.Cell{Val: e.Val, Seq: w.seq})
	}
}

// run lets a program run in a transaction, and tells a fault unless that comes to what the state comes to.
func (w *world) run(t *testing.T, d *desk, list []api.Instr, given args) api.Errno {
	t.Helper()
	entries, stood := d.w.All(), d.p.Mark()
	x := exec.New(w.m, list, given, d.v, d.p, d.w)
	steps := w.do(x.Ask, x.Tell)
	r, news := x.Result()
	cfg := w.m.Cfg()
	done := w.state.Run(list, given, cfg.Fuel, cfg.Writes, news)
	if x.Status() != view.Good || r != done.Result || !slices.Equal(news, done.News) {
		t.Errorf("%v: status %d, %v, not %v; %v, not %v", list, x.Status(), r, done.Result, news, done.News)
	}
	if steps > 3*done.Steps {
		t.Errorf("%v: %d steps of %d instructions", list, steps, done.Steps)
	}
	if r.Code != api.OK && (!slices.Equal(d.w.All(), entries) || d.p.Mark() != stood) {
		t.Errorf("%v: error %d, and it leaves %v, %v, not %v, %v", list, r.Code, d.w.All(), d.p.Mark(), entries, stood)
	}
	if r.Code == api.ErrMem && len(news) != stood.Top {
		t.Errorf("%v: none is free, and it took %d of %d", list, len(news), stood.Top)
	}
	return r.Code
}

// now is the state of which the memory is.
func (w *world) now() *model.State {
	roots := [api.Roots]uint64{}
	for k := range roots {
		c, _ := w.mem.Peek(w.m.At(lay.Root, k, 0))
		roots[k] = c.Val
	}
	blocks := map[uint64]model.Block{}
	for b := range w.m.Cfg().Blocks {
		life, _ := w.mem.Peek(w.m.At(lay.Life, b, 0))
		if life.Val != 1 {
			continue
		}
		words := model.Block{}
		for k := range words {
			c, _ := w.mem.Peek(w.m.At(lay.Word, b, k))
			words[k] = c.Val
		}
		blocks[uint64(b)+1] = words
	}
	return model.Of(roots, blocks)
}

// P11.2, P11.3: over a memory that nobody else writes, program by program, several in a transaction, against layer 6.
func TestAsAlone(t *testing.T) {
	n := numbers(12)
	seen := map[api.Errno]int{}
	for range 800 {
		m, e := lay.Of(api.Cfg{Threads: 2, Blocks: 1 + n.below(5), Writes: []int{9, 20, 64}[n.below(3)], Fuel: 10 + n.below(40), Last: 999})
		if e != api.OK {
			t.Fatalf("no map: error %d", e)
		}
		w := &world{m: m, mem: m.Boot(), state: model.New()}
		for range 12 {
			d := w.begin()
			for range 1 + n.below(3) {
				list := n.program()
				seen[w.run(t, d, list, args{uint64(n.below(5)), 7, 1, 16})]++
			}
			w.end(d)
			if !w.now().Same(w.state) {
				t.Errorf("behind the transaction %d the memory is another one", w.seq)
			}
			if t.Failed() {
				return
			}
		}
	}
	for _, e := range []api.Errno{api.OK, api.ErrAbort, api.ErrFuel, api.ErrWrites, api.ErrMem, api.ErrHandle} {
		if seen[e] < 100 {
			t.Errorf("only %d programs that end so: %d", seen[e], e)
		}
	}
}
