package wset_test

import (
	"math"
	"slices"
	"testing"

	"tumbler/api"
	"tumbler/wset"
)

func put(t *testing.T, s *wset.Set, at int, val uint64) {
	t.Helper()
	if e := s.Put(at, val); e != api.OK {
		t.Fatalf("Put(%d, %d): error %d", at, val, e)
	}
}

// holds tells a fault unless a set has just these entries, in this order, and there were so many Puts.
func holds(t *testing.T, name string, s *wset.Set, mark int, want ...wset.Entry) {
	t.Helper()
	if s.Len() != len(want) || s.Mark() != mark || !slices.Equal(s.All(), want) {
		t.Errorf("%s: %d entries, %v, not %v; mark %d, not %d", name, s.Len(), s.All(), want, s.Mark(), mark)
	}
	for _, e := range want {
		if val, ok := s.Get(e.At); val != e.Val || !ok {
			t.Errorf("%s: Get(%d): %d, %v", name, e.At, val, ok)
		}
	}
}

// misses tells a fault if there is an entry of one of these cells.
func misses(t *testing.T, name string, s *wset.Set, cells ...int) {
	t.Helper()
	for _, at := range cells {
		if val, ok := s.Get(at); val != 0 || ok {
			t.Errorf("%s: Get(%d): %d, %v", name, at, val, ok)
		}
	}
}

// P8.1: rooms below 0 count as 0, those above MaxCells as that.
func TestRoom(t *testing.T) {
	for _, c := range []struct{ room, want int }{
		{math.MinInt, 0}, {-1, 0}, {0, 0}, {1, 1}, {2, 2}, {500, 500},
		{api.MaxCells - 1, api.MaxCells - 1}, {api.MaxCells, api.MaxCells}, {api.MaxCells + 1, api.MaxCells}, {math.MaxInt, api.MaxCells},
	} {
		s := wset.New(c.room)
		if s.Room() != c.want {
			t.Errorf("New(%d): room for %d", c.room, s.Room())
		}
		holds(t, "a new set", s, 0)
		misses(t, "a new set", s, 0, -1, 1)
		for n := range c.want {
			if e := s.Put(3*n, 1); e != api.OK {
				t.Fatalf("New(%d): entry %d: error %d", c.room, n, e)
			}
		}
		if e := s.Put(-5, 1); e != api.ErrFull || s.Len() != c.want || s.Mark() != c.want || s.Room() != c.want {
			t.Errorf("New(%d): one too many: error %d; %d entries, mark %d, room %d", c.room, e, s.Len(), s.Mark(), s.Room())
		}
		misses(t, "one too many", s, -5)
	}
}

// P8.1: the chapter's example: a set that is full refuses new cells alone.
func TestFull(t *testing.T) {
	s := wset.New(2)
	put(t, s, 7, 1)
	put(t, s, 9, 2)
	put(t, s, 7, 3)
	for _, at := range []int{8, 0, -7, math.MaxInt} {
		if e := s.Put(at, 4); e != api.ErrFull {
			t.Errorf("Put(%d): error %d", at, e)
		}
	}
	holds(t, "full", s, 3, wset.Entry{At: 7, Val: 3}, wset.Entry{At: 9, Val: 2})
	misses(t, "full", s, 8, 0, -7, math.MaxInt)
	put(t, s, 9, 5)
	holds(t, "turned", s, 4, wset.Entry{At: 7, Val: 3}, wset.Entry{At: 9, Val: 5})
	if !s.Back(1) {
		t.Error("no way back")
	}
	put(t, s, 8, 6)
	holds(t, "room again", s, 2, wset.Entry{At: 7, Val: 1}, wset.Entry{At: 8, Val: 6})
	if e := s.Put(9, 1); e != api.ErrFull {
		t.Errorf("Put(9): error %d", e)
	}
}

// P8.1: a cell may be any number, and become any number, noughts too; entries stand in the order in which they came first.
func TestAnyNumber(t *testing.T) {
	s := wset.New(100)
	want := []wset.Entry{{At: math.MaxInt, Val: 0}, {At: math.MinInt, Val: math.MaxUint64}, {At: 0, Val: 0}, {At: -1, Val: 1}, {At: 1 << 16, Val: 2}, {At: 1 << 32, Val: 3}, {At: 5, Val: 0}}
	for _, e := range want {
		misses(t, "ahead of it", s, e.At)
		put(t, s, e.At, 77)
	}
	for _, e := range slices.Backward(want) {
		put(t, s, e.At, e.Val)
	}
	holds(t, "all", s, 2*len(want), want...)
	misses(t, "others", s, 1, -2, math.MaxInt-1, math.MinInt+1, 1<<16-1, 1<<48)
}

// P8.1: a Put that turns nothing is one too; one that is refused isn't.
func TestMark(t *testing.T) {
	s := wset.New(1)
	for n := range 5 {
		if s.Mark() != n {
			t.Errorf("mark %d, not %d", s.Mark(), n)
		}
		put(t, s, 4, 9)
		s.Put(5, 9)
	}
	holds(t, "the same again", s, 5, wset.Entry{At: 4, Val: 9})
	if !s.Back(1) || s.Mark() != 1 {
		t.Errorf("mark %d", s.Mark())
	}
	holds(t, "back", s, 1, wset.Entry{At: 4, Val: 9})
}

// P8.1, P8.2: marks that there aren't are refused, and nothing is done; the last one is no way at all.
func TestNoWayBack(t *testing.T) {
	s := wset.New(3)
	put(t, s, 1, 1)
	put(t, s, 2, 2)
	put(t, s, 1, 3)
	for _, mark := range []int{math.MinInt, -1, 4, 5, math.MaxInt} {
		if s.Back(mark) {
			t.Errorf("Back(%d)", mark)
		}
		holds(t, "refused", s, 3, wset.Entry{At: 1, Val: 3}, wset.Entry{At: 2, Val: 2})
	}
	if !s.Back(3) {
		t.Error("Back(3)")
	}
	holds(t, "nothing undone", s, 3, wset.Entry{At: 1, Val: 3}, wset.Entry{At: 2, Val: 2})
	if !s.Back(2) {
		t.Error("Back(2)")
	}
	holds(t, "one undone", s, 2, wset.Entry{At: 1, Val: 1}, wset.Entry{At: 2, Val: 2})
	if s.Back(3) {
		t.Error("a mark that is undone is there yet")
	}
	none := wset.New(0)
	if none.Back(1) || none.Back(-1) || !none.Back(0) {
		t.Error("of a set of no room")
	}
}

// P8.2: of a cell that was turned several times the value at the mark is back, and the order of those that came in again is the new one.
func TestBack(t *testing.T) {
	s := wset.New(4)
	put(t, s, 7, 1)
	put(t, s, 7, 2)
	put(t, s, 9, 3)
	put(t, s, 7, 4)
	put(t, s, 9, 5)
	put(t, s, 8, 6)
	put(t, s, 7, 7)
	holds(t, "all", s, 7, wset.Entry{At: 7, Val: 7}, wset.Entry{At: 9, Val: 5}, wset.Entry{At: 8, Val: 6})
	if !s.Back(2) {
		t.Error("Back(2)")
	}
	holds(t, "back at 2", s, 2, wset.Entry{At: 7, Val: 2})
	misses(t, "back at 2", s, 8, 9)
	put(t, s, 8, 0)
	put(t, s, 9, 9)
	holds(t, "on from there", s, 4, wset.Entry{At: 7, Val: 2}, wset.Entry{At: 8}, wset.Entry{At: 9, Val: 9})
	if !s.Back(1) {
		t.Error("Back(1)")
	}
	holds(t, "back at 1", s, 1, wset.Entry{At: 7, Val: 1})
	if !s.Back(0) {
		t.Error("Back(0)")
	}
	holds(t, "back at 0", s, 0)
	misses(t, "back at 0", s, 7, 8, 9)
	put(t, s, 9, 1)
	holds(t, "from the beginning", s, 1, wset.Entry{At: 9, Val: 1})
}

// P8.1, P2: what is told is the caller's own, spare room too, and no later call writes into it; no set turns another one.
func TestAllApart(t *testing.T) {
	s, other := wset.New(10), wset.New(10)
	var want []wset.Entry
	for n := range 10 {
		early := s.All()
		for _, e := range early[len(early):cap(early)] {
			if e != (wset.Entry{}) {
				t.Errorf("behind what is told stands %v", e)
			}
		}
		put(t, s, n, uint64(n))
		put(t, other, 5, 100)
		if !slices.Equal(early, want) {
			t.Errorf("a Put wrote into what was told: %v", early)
		}
		late := s.All()
		late = append(late[:cap(late)], wset.Entry{At: 99})
		clear(late)
		clear(early[:cap(early)])
		want = append(want, wset.Entry{At: n, Val: uint64(n)})
		holds(t, "whatever was done to what was told", s, n+1, want...)
	}
	all := s.All()
	s.Back(0)
	put(t, s, 50, 50)
	put(t, s, 50, 51)
	if !slices.Equal(all, want) {
		t.Errorf("a way back wrote into what was told: %v", all)
	}
	holds(t, "another set", other, 10, wset.Entry{At: 5, Val: 100})
}

// numbers tells a row of numbers that is the same in each run.
type numbers uint64

func (n *numbers) below(limit int) int {
	*n = *n*6364136223846793005 + 1442695040888963407
	return int(uint64(*n) >> 33 % uint64(limit))
}

// replayed tells the entries that a row of Puts makes, none of which is refused: the slow way, from the beginning on.
func replayed(puts []wset.Entry) []wset.Entry {
	var list []wset.Entry
	for _, p := range puts {
		i := slices.IndexFunc(list, func(e wset.Entry) bool { return e.At == p.At })
		if i < 0 {
			list = append(list, p)
		} else {
			list[i] = p
		}
	}
	return list
}

// P8.1, P8.2: any row of calls answers as the Puts that aren't undone do alone, one after the other.
func TestRowsOfCalls(t *testing.T) {
	n := numbers(8)
	for range 200 {
		room := n.below(7)
		cells := 1 + n.below(9)
		s := wset.New(room)
		var puts []wset.Entry
		for range 120 {
			switch n.below(5) {
			case 0:
				mark := n.below(len(puts)+3) - 1
				ok := mark >= 0 && mark <= len(puts)
				if ok {
					puts = puts[:mark]
				}
				if s.Back(mark) != ok {
					t.Fatalf("Back(%d), with %d Puts: %v", mark, len(puts), !ok)
				}
			default:
				p := wset.Entry{At: n.below(cells) - 4, Val: uint64(n.below(4))}
				more := append(slices.Clone(puts), p)
				want := api.OK
				if len(replayed(more)) > room {
					want = api.ErrFull
				} else {
					puts = more
				}
				if e := s.Put(p.At, p.Val); e != want {
					t.Fatalf("%v, behind %v, with room for %d: error %d", p, puts, room, e)
				}
			}
			list := replayed(puts)
			holds(t, "a row of calls", s, len(puts), list...)
			for at := -6; at < 8; at++ {
				if !slices.ContainsFunc(list, func(e wset.Entry) bool { return e.At == at }) {
					misses(t, "a row of calls", s, at)
				}
			}
			if t.Failed() {
				t.Fatalf("behind %v, with room for %d", puts, room)
			}
		}
	}
}

// P8.2: from many entries, turned many times, back step by step: at each mark all is as it was.
func TestEveryMark(t *testing.T) {
	n := numbers(3)
	s := wset.New(300)
	told := [][]wset.Entry{s.All()}
	for range 1000 {
		put(t, s, 64*n.below(300), uint64(n.below(1000)))
		told = append(told, s.All())
	}
	for mark := 1000; mark >= 0; mark -= 1 + n.below(5) {
		if !s.Back(mark) {
			t.Fatalf("Back(%d)", mark)
		}
		holds(t, "at a mark", s, mark, told[mark]...)
	}
	if !s.Back(0) {
		t.Error("Back(0)")
	}
	holds(t, "at the beginning", s, 0)
}
