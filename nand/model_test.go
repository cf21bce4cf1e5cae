package nand_test

import (
	"bytes"
	"slices"

	"firkin/api"
)

// numbers are the same in each run.
type numbers uint64

func (n *numbers) next() uint32 {
	*n = *n*6364136223846793005 + 1442695040888963407
	return uint32(*n >> 32)
}

// below is 0 to less than end.
func (n *numbers) below(end int) int { return int(n.next() % uint32(end)) }

func (n *numbers) bytes(size int) []byte {
	b := make([]byte, size)
	for i := range b {
		b[i] = byte(n.next() >> 24)
	}
	return b
}

// model is an array in the chapter's words: all faults are gone through at each operation.
type model struct {
	shape  api.Shape
	faults []api.Fault
	used   []int // reads that a flip was for
	off    bool
	ops    int
	events api.Events
	blocks [][]modelBlock
}

type modelBlock struct {
	next   int
	erases int
	pages  [][]byte
}

func newModel(s api.Shape, faults []api.Fault) *model {
	m := &model{shape: s, used: make([]int, len(faults))}
	for _, f := range faults {
		f.Bits = slices.Clone(f.Bits)
		m.faults = append(m.faults, f)
	}
	for range s.Dies {
		var row []modelBlock
		for range s.Blocks {
			var pages [][]byte
			for range s.Pages {
				pages = append(pages, erased(s.Bytes))
			}
			row = append(row, modelBlock{pages: pages})
		}
		m.blocks = append(m.blocks, row)
	}
	return m
}

func erased(size int) []byte { return bytes.Repeat([]byte{255}, size) }

func (m *model) there(die, block, page int) bool {
	s := m.shape
	return die >= 0 && die < s.Dies && block >= 0 && block < s.Blocks && page >= 0 && page < s.Pages
}

func (m *model) marked(die, block int) bool {
	return slices.ContainsFunc(m.faults, func(f api.Fault) bool {
		return f.Kind == api.FaultFactory && f.Die == die && f.Block == block
	})
}

// fails tells whether a block can't be programmed, erased.
func (m *model) fails(kind, op, die, block int) bool {
	return m.marked(die, block) || slices.ContainsFunc(m.faults, func(f api.Fault) bool {
		return f.Kind == kind && f.At <= op && f.Die == die && f.Block == block
	})
}

func (m *model) dead(op, die int) bool {
	return slices.ContainsFunc(m.faults, func(f api.Fault) bool {
		return f.Kind == api.FaultDie && f.At <= op && f.Die == die
	})
}

// cut is how much is done of an operation that is cut; -1: it is none.
func (m *model) cut(op int) int {
	for _, f := range m.faults {
		if f.Kind == api.FaultCut && f.At == op {
			return f.Part
		}
	}
	return -1
}

// count is the number of an operation, and whether it is done, as far as cuts and dead dies let it.
func (m *model) count(die int) (op, part int, dead bool) {
	op = m.ops
	m.ops++
	part, dead = m.cut(op), m.dead(op, die)
	if part >= 0 {
		m.off = true
		m.events.Cuts++
	}
	return op, part, dead
}

func (m *model) read(die, block, page int) ([]byte, api.Errno) {
	if m.off {
		return nil, api.ErrPower
	}
	if !m.there(die, block, page) {
		return nil, api.ErrArg
	}
	m.events.Reads++
	op, part, dead := m.count(die)
	if part >= 0 {
		return nil, api.ErrPower
	}
	if dead {
		return nil, api.ErrDead
	}
	got := bytes.Clone(m.blocks[die][block].pages[page])
	for i, f := range m.faults {
		if f.Kind != api.FaultFlip || f.Die != die || f.Block != block || f.Page != page || f.At > op || m.used[i] >= f.Times {
			continue
		}
		m.used[i]++
		for _, bit := range f.Bits {
			got[bit/8] ^= 128 >> (bit % 8)
			m.events.Flips++
		}
	}
	return got, api.OK
}

func (m *model) program(die, block, page int, b []byte) api.Errno {
	if m.off {
		return api.ErrPower
	}
	if !m.there(die, block, page) || len(b) != m.shape.Bytes {
		return api.ErrArg
	}
	to := &m.blocks[die][block]
	if to.next != page {
		return api.ErrOrder
	}
	m.events.Programs++
	op, part, dead := m.count(die)
	if part >= 0 && dead {
		return api.ErrPower
	}
	if dead {
		return api.ErrDead
	}
	to.next++
	fails := m.fails(api.FaultProgram, op, die, block)
	for i := range b {
		if fails {
			to.pages[page][i] = 0
		} else if part < 0 || i < part {
			to.pages[page][i] = b[i]
		}
	}
	if part >= 0 {
		return api.ErrPower
	}
	if fails {
		m.events.Fails++
		return api.ErrFail
	}
	return api.OK
}

func (m *model) erase(die, block int) api.Errno {
	if m.off {
		return api.ErrPower
	}
	if !m.there(die, block, 0) {
		return api.ErrArg
	}
	m.events.Erases++
	op, part, dead := m.count(die)
	if part >= 0 && dead {
		return api.ErrPower
	}
	if dead {
		return api.ErrDead
	}
	to := &m.blocks[die][block]
	to.erases++
	fails := m.fails(api.FaultErase, op, die, block)
	for i := range to.pages {
		if !fails && (part < 0 || i < part) {
			to.pages[i] = erased(m.shape.Bytes)
		}
	}
	if part >= 0 {
		to.next = -1
		return api.ErrPower
	}
	if fails {
		m.events.Fails++
		return api.ErrFail
	}
	to.next = 0
	return api.OK
}
