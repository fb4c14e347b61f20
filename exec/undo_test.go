package exec_test

import (
	"math"
	"slices"
	"testing"

	"tumbler/api"
	"tumbler/exec"
	"tumbler/lay"
	"tumbler/view"
	"tumbler/wset"
)

// P11.1: words are counted program by program, each time anew; just as many as there may be are let be.
func TestWrites(t *testing.T) {
	for _, c := range []struct {
		name, text  string
		writes      int
		want        api.Result
		steps, news int
	}{
		{"four of four", "root r1 ← r1\nroot r1 ← r1\nroot r1 ← r1\nroot r1 ← r1\nret r1", 4, val(0), 0, 0},
		{"four of three", "root r1 ← r1\nroot r1 ← r1\nroot r1 ← r1\nroot r1 ← r1\nret r1", 3, refused(api.ErrWrites), 0, 0},
		{"ten of ten", "r1 ← new\n[ r1 + 0 ] ← r1\nret r2", 10, val(0), 1, 1},
		{"ten of nine", "r1 ← new\n[ r1 + 0 ] ← r1\nret r2", 9, refused(api.ErrWrites), 1, 1},
		{"ten of ten, by a register", "r1 ← new\n[ r1 + r2 ] ← r1\nret r2", 10, val(0), 1, 1},
		{"ten of nine, by a register", "r1 ← new\n[ r1 + r2 ] ← r1\nret r2", 9, refused(api.ErrWrites), 1, 1},
		{"eleven of eleven", "r1 ← new\nfree r1\nret r2", 11, val(0), 1, 1},
		{"eleven of ten", "r1 ← new\nfree r1\nret r2", 10, refused(api.ErrWrites), 1, 1},
		{"eighteen of eighteen", "r1 ← new\nr1 ← new\nret r2", 18, val(0), 2, 2},
		{"eighteen of seventeen", "r1 ← new\nr1 ← new\nret r2", 17, refused(api.ErrWrites), 1, 1},
		{"what reads costs nothing", "r1 ← new\nr2 ← [ r1 + 0 ]\nr2 ← root r2\nr2 ← [ r1 + r3 ]\nret r2", 9, val(0), 2, 1},
	} {
		d := deskOf(mapOf(t, c.writes, 20), 3, nil)
		for range 2 {
			x := exec.New(d.m, code(t, c.text), args{}, d.v, d.p, d.w)
			steps := 0
			for _, ok := x.Ask(); ok; _, ok = x.Ask() {
				x.Tell(was(uint64(steps), 6))
				steps++
			}
			r, news := x.Result()
			if r != c.want || steps != c.steps || len(news) != c.news {
				t.Errorf("%s: %v, not %v; %d steps, %v", c.name, r, c.want, steps, news)
			}
			// A second program may write as much as the first one did.
			d = deskOf(d.m, 3, nil, d.w.All()...)
		}
	}
}

// P11.3: whatever ends a program but a return, what it put is undone, entries that it turned too, and the pool stands as ahead of it.
func TestUndone(t *testing.T) {
	does := "r1 ← 1\n[ r1 + 2 ] ← r1\nroot r1 ← r1\nr2 ← new\nfree r2\nfree r1\nr3 ← 9\n"
	for _, c := range []struct {
		name, ends   string
		writes, fuel int
		want         api.Result
	}{
		{"it gives up", "abort 9", 20, 8, api.Result{Code: api.ErrAbort, Val: 9}},
		{"no fuel", "ret r1", 20, 7, refused(api.ErrFuel)},
		{"too many words", "root r1 ← r1\nret r1", 15, 20, refused(api.ErrWrites)},
		{"no block is free", "r2 ← new\nr2 ← new\nret r2", 64, 20, refused(api.ErrMem)},
		{"no root", "r4 ← 16\nr3 ← root r4\nret r1", 20, 20, refused(api.ErrHandle)},
		{"no word", "r3 ← [ r1 + r3 ]\nret r1", 20, 20, refused(api.ErrHandle)},
		{"no block", "r3 ← [ r1 + 3 ]\nret r1", 20, 20, refused(api.ErrHandle)},
	} {
		d := deskOf(mapOf(t, c.writes, c.fuel), 2, []uint64{2})
		for _, e := range []wset.Entry{d.entry(lay.Life, 0, 0, 1), d.entry(lay.Root, 1, 0, 5), d.entry(lay.Word, 0, 1, 6), d.entry(lay.Stack, 0, 0, 77), d.entry(lay.Limbo, 1, 0, 7)} {
			d.w.Put(e.At, e.Val)
		}
		ahead := d.w.All()
		d.runs(t, c.name, does+c.ends, args{}, []step{d.load(1, lay.Stack, 1, 0)}, c.want, 2)
		d.writes(t, c.name, 2, 1, ahead...)
		if d.w.Mark() != len(ahead) {
			t.Errorf("%s: %d changes, not %d", c.name, d.w.Mark(), len(ahead))
		}
	}
	d := deskOf(mapOf(t, 64, 1000), 2, nil)
	d.runs(t, "dead at last", does+"ret r1", args{}, []step{d.lives(0)[0], d.load(2, lay.Life, 0, 0)}, refused(api.ErrHandle))
	d.writes(t, "dead at last", 2, 0)
}

// P11.3: what a program that doesn't return did is not to be seen by the next one; what a program that returns did is.
func TestNext(t *testing.T) {
	d := deskOf(mapOf(t, 20, 20), 3, nil)
	d.runs(t, "it returns", "r1 ← new\nr2 ← 8\n[ r1 + 2 ] ← r2\nroot r2 ← r1\nret r1", args{}, []step{d.load(0, lay.Stack, 2, 0)}, val(1), 1)
	d.runs(t, "it gives up", "r1 ← new\n[ r1 + 2 ] ← r1\nr2 ← 8\nr3 ← root r2\nfree r3\nroot r2 ← r2\nabort 3", args{}, []step{d.load(1, lay.Stack, 1, 0)}, api.Result{Code: api.ErrAbort, Val: 3}, 2)
	d.runs(t, "it reads", "r1 ← 8\nr1 ← root r1\nr2 ← [ r1 + 2 ]\nr3 ← 16\nr2 ← r2 × r3\nr2 ← r2 + r1\nret r2", args{}, nil, val(129))
	d.runs(t, "it takes", "r1 ← new\nret r1", args{}, []step{d.load(1, lay.Stack, 1, 0)}, val(2), 2)
	d.runs(t, "it is no more", "r1 ← 1\nfree r1\nr1 ← 2\nr2 ← [ r1 + 2 ]\nret r2", args{}, nil, val(0))
	if d.p.Mark().Top != 1 || d.p.Mark().Lim != 1 {
		t.Errorf("%v", d.p.Mark())
	}
}

// staleAt tells a fault unless a program is stale behind so many steps: then nothing is asked for any more.
func (d *desk) staleAt(t *testing.T, text string, steps int, late uint64) {
	t.Helper()
	x := exec.New(d.m, code(t, text), args{}, d.v, d.p, d.w)
	for i := range steps {
		if _, ok := x.Ask(); !ok || x.Status() != view.Going {
			t.Errorf("%s: step %d: %v, status %d", text, i, ok, x.Status())
		}
		seq := uint64(6)
		if i == steps-1 {
			seq = late
		}
		x.Tell(was(1, seq))
	}
	for range 2 {
		op, ok := x.Ask()
		if r, _ := x.Result(); ok || op != (api.Op{}) || x.Status() != view.Stale || r != val(0) {
			t.Errorf("%s: %v, %v, status %d, %v", text, op, ok, x.Status(), r)
		}
		x.Tell(was(1, 0))
	}
}

// P11.1: a reading that is Stale ends the program, at each step of each one; a view that is Stale does with the first reading.
func TestStale(t *testing.T) {
	m := mapOf(t, 20, 20)
	for _, late := range []uint64{7, api.MaxSeq, math.MaxUint64} {
		for _, c := range []struct {
			text  string
			steps int
		}{
			{"r2 ← root r1\nret r2", 1},
			{"r2 ← new\nret r2", 1},
			{"r1 ← 1\nr2 ← [ r1 + 2 ]\nret r2", 2},
			{"r1 ← 1\nr2 ← [ r1 + 2 ]\nret r2", 3},
			{"r1 ← 1\nr2 ← [ r1 + r1 ]\nret r2", 3},
			{"r1 ← 1\n[ r1 + 2 ] ← r1\nret r2", 2},
			{"r1 ← 1\n[ r1 + r1 ] ← r1\nret r2", 2},
			{"r1 ← 1\nfree r1\nret r2", 2},
			{"r2 ← root r1\nr2 ← root r1\nret r2", 2},
		} {
			d := deskOf(m, 3, nil)
			d.staleAt(t, c.text, c.steps, late)
			d.staleAt(t, c.text, 0, 0)
		}
	}
	d := deskOf(m, 3, nil, wset.Entry{At: m.At(lay.Root, 1, 0), Val: 4})
	d.v.Cell(m.At(lay.Top, 0, 0))
	d.v.Tell(was(0, 7))
	d.runs(t, "it reads nothing of a stale view", "r1 ← 1\nr2 ← root r1\nroot r2 ← r2\nret r2", args{}, nil, val(4))
	d.staleAt(t, "r1 ← 1\nr2 ← [ r1 + 2 ]\nret r2", 0, 0)
}

// P11.1: a reading whose number isn't above the view's goes on, of the greatest number too.
func TestNotStale(t *testing.T) {
	m := mapOf(t, 20, 20)
	for _, seq := range []uint64{0, 6, math.MaxUint64} {
		d := deskOf(m, 3, nil)
		d.v = view.New(m, 1, seq)
		x := exec.New(m, code(t, "r1 ← 1\nr2 ← [ r1 + 2 ]\nr2 ← root r1\nret r2"), args{}, d.v, d.p, d.w)
		for _, reply := range []api.Out{was(9, math.MaxUint64), was(1, seq), was(7, seq), {Was: api.Cell{Val: 8, Seq: seq / 2}}} {
			x.Tell(reply)
		}
		if r, _ := x.Result(); x.Status() != view.Good || r != val(8) {
			t.Errorf("number %d: %v, status %d", seq, r, x.Status())
		}
	}
}

// P11.1: the handles of new blocks, of a program that is on its way, and of one that doesn't return.
func TestNews(t *testing.T) {
	d := deskOf(mapOf(t, 64, 20), 3, nil)
	x := exec.New(d.m, code(t, "r1 ← new\nr1 ← new\nr1 ← new\nr1 ← new\nret r1"), args{}, d.v, d.p, d.w)
	want := []uint64{}
	for _, b := range []uint64{2, 0, 1} {
		if r, news := x.Result(); x.Status() != view.Going || r != val(0) || !slices.Equal(news, want) {
			t.Errorf("%v, %v, not %v", r, news, want)
		}
		x.Tell(was(b, 0))
		want = append(want, b+1)
	}
	if r, news := x.Result(); r != refused(api.ErrMem) || !slices.Equal(news, want) {
		t.Errorf("%v, %v, not %v", r, news, want)
	}
}

// P2: programs and arguments that are handed in aren't turned, nor kept; what is handed out is the caller's.
func TestOwn(t *testing.T) {
	d := deskOf(mapOf(t, 64, 20), 3, nil)
	text := "r1 ← arg 0\nr2 ← root r1\nr1 ← new\nr1 ← arg 1\nret r1"
	given := code(t, text)
	behind := append(given, api.Instr{Op: 99, Imm: 7})
	numbers := args{3, 4}
	x := exec.New(d.m, behind[:len(given)], numbers, d.v, d.p, d.w)
	if !slices.Equal(behind[:len(given)], code(t, text)) || behind[len(given)] != (api.Instr{Op: 99, Imm: 7}) {
		t.Errorf("the program is turned: %v", behind)
	}
	clear(behind)
	clear(numbers[:])
	x.Tell(was(1, 0))
	x.Tell(was(2, 0))
	r, news := x.Result()
	if r != val(4) || !slices.Equal(news, []uint64{3}) {
		t.Errorf("%v, %v", r, news)
	}
	clear(news)
	if _, again := x.Result(); !slices.Equal(again, []uint64{3}) {
		t.Errorf("what was handed out is kept: %v", again)
	}
}

// P2: two programs at one time, each over its own, know nothing of each other.
func TestApart(t *testing.T) {
	m := mapOf(t, 20, 20)
	c, d := deskOf(m, 3, nil), deskOf(m, 2, nil)
	list := code(t, "r1 ← new\nr2 ← arg 0\n[ r1 + 1 ] ← r2\nret r2")
	x, y := exec.New(m, list, args{7}, c.v, c.p, c.w), exec.New(m, list, args{8}, d.v, d.p, d.w)
	y.Tell(was(1, 0))
	x.Tell(was(0, 9))
	if r, news := y.Result(); r != val(8) || !slices.Equal(news, []uint64{2}) || x.Status() != view.Stale {
		t.Errorf("%v, %v, status %d", r, news, x.Status())
	}
	if c.w.Len() != 0 || d.w.Len() != 9 {
		t.Errorf("%d and %d entries", c.w.Len(), d.w.Len())
	}
}

// P11.1: a program that is at its end asks for nothing, whatever else is read by the view.
func TestEnded(t *testing.T) {
	d := deskOf(mapOf(t, 20, 20), 3, nil)
	x := exec.New(d.m, code(t, "r1 ← root r1\nret r1"), args{}, d.v, d.p, d.w)
	x.Tell(was(4, 0))
	d.v.Cell(d.m.At(lay.Root, 1, 0))
	if op, ok := x.Ask(); ok || op != (api.Op{}) {
		t.Errorf("%v is asked for", op)
	}
	x.Tell(was(5, 0))
	if r, _ := x.Result(); r != val(4) {
		t.Errorf("%v", r)
	}
	if _, how := d.v.End(); how != view.Going {
		t.Errorf("the view was told: %d", how)
	}
}
