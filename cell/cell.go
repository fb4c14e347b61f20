// Package cell is layer 1: see shared/doc/01-cell.md.
package cell

import (
	"slices"

	"tumbler/api"
)

// Mem is a shared memory, how many steps each thread has done, and all of them.
type Mem struct {
	cells  []api.Cell
	steps  [api.MaxThreads]int
	events []api.Event
}

// New is a memory of so many cells.
func New(size int) (*Mem, api.Errno) {
	if size < 0 || size > api.MaxCells {
		return nil, api.ErrArg
	}
	return &Mem{cells: make([]api.Cell, size)}, api.OK
}

// Do does a thread's step.
func (m *Mem) Do(who int, op api.Op) (api.Out, api.Errno) {
	switch {
	case !isThread(who):
		return api.Out{}, api.ErrArg
	case op.Kind < api.Load || op.Kind > api.Add:
		return api.Out{}, api.ErrKind
	case !m.has(op.At):
		return api.Out{}, api.ErrAt
	}
	out := turn(&m.cells[op.At], op)
	m.steps[who]++
	m.events = append(m.events, api.Event{Who: who, Op: op, Out: out})
	return out, api.OK
}

// turn lets a cell become what a step makes of it.
func turn(c *api.Cell, op api.Op) api.Out {
	out := api.Out{Was: *c, Ok: true}
	switch op.Kind {
	case api.Store:
		*c = op.New
	case api.Swap:
		// The number counts like the value: a cell that came back to a value isn't the reading.
		out.Ok = *c == op.Old
		if out.Ok {
			*c = op.New
		}
	case api.Add:
		c.Val += op.New.Val
	}
	return out
}

func isThread(who int) bool { return who >= 0 && who < api.MaxThreads }

func (m *Mem) has(at int) bool { return at >= 0 && at < len(m.cells) }

// Peek is a cell, without a step.
func (m *Mem) Peek(at int) (api.Cell, bool) {
	if !m.has(at) {
		return api.Cell{}, false
	}
	return m.cells[at], true
}

// Set sets a cell, without a step.
func (m *Mem) Set(at int, c api.Cell) api.Errno {
	if !m.has(at) {
		return api.ErrAt
	}
	m.cells[at] = c
	return api.OK
}

// Size is how many cells there are.
func (m *Mem) Size() int { return len(m.cells) }

// Steps is how many steps a thread has done.
func (m *Mem) Steps(who int) int {
	if !isThread(who) {
		return 0
	}
	return m.steps[who]
}

// Total is how many steps all have done.
func (m *Mem) Total() int { return len(m.events) }

// Events is all steps, in order.
func (m *Mem) Events() []api.Event { return slices.Clone(m.events) }

// Clone is the same memory, apart from this one.
func (m *Mem) Clone() *Mem {
	return &Mem{cells: slices.Clone(m.cells), steps: m.steps, events: slices.Clone(m.events)}
}
