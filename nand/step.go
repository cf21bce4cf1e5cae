package nand

import (
	"sync/atomic"

	"firkin/api"
)

// step is an operation that isn't refused.
type step struct {
	array  *Array
	number int
	die    *oneDie
	block  *oneBlock
	page   int
	bytes  []byte // that are programmed, or were read
}

// begin counts an operation.
func (a *Array) begin(count *atomic.Int64, die, block, page int) *step {
	s := &step{array: a, number: a.Ops(), die: &a.dies[die], block: a.find(die, block), page: page}
	count.Add(1)
	return s
}

// run does the whole of an operation or, when it is cut, a part of it.
func (s *step) run(whole func() api.Errno, part func(done int)) api.Errno {
	dead := s.number >= s.die.dead
	done, cut := s.array.cuts[s.number]
	if !cut {
		if dead {
			return api.ErrDead
		}
		return whole()
	}
	s.array.power = false
	s.array.counts.cuts.Add(1)
	if !dead {
		part(done)
	}
	return api.ErrPower
}

func (s *step) read() api.Errno {
	s.bytes = make([]byte, s.array.shape.Bytes)
	if page := s.block.pages[s.page]; page == nil {
		fill(s.bytes)
	} else {
		copy(s.bytes, page)
	}
	for i := range s.block.flips {
		s.turn(&s.block.flips[i])
	}
	return api.OK
}

// fill makes bytes those of an erased page.
func fill(b []byte) {
	for i := range b {
		b[i] = 255
	}
}

// turn turns the bits of what was read, if it is a read that the fault is for.
func (s *step) turn(f *flip) {
	if f.page != s.page || f.from > s.number || f.times == 0 {
		return
	}
	f.times--
	for _, bit := range f.bits {
		s.bytes[bit/8] ^= 128 >> (bit % 8)
	}
	s.array.counts.flips.Add(int64(len(f.bits)))
}

// leave is what a read that is cut does.
func (s *step) leave(int) {}

func (s *step) program() api.Errno {
	s.programPart(len(s.bytes))
	return s.verdict(s.block.noProgram)
}

// programPart programs the page's first bytes.
func (s *step) programPart(done int) {
	page := make([]byte, len(s.bytes)) // that of a block that fails stays so
	if s.number < s.block.noProgram {
		fill(page)
		copy(page, s.bytes[:min(done, len(s.bytes))])
	}
	s.block.pages[s.page] = page
	s.block.next++
}

func (s *step) erase() api.Errno {
	s.block.erases++
	if e := s.verdict(s.block.noErase); e != api.OK {
		return e
	}
	clear(s.block.pages)
	s.block.next = 0
	return api.OK
}

// erasePart erases the block's first pages.
func (s *step) erasePart(done int) {
	s.block.erases++
	s.block.next = -1
	if s.number < s.block.noErase {
		clear(s.block.pages[:min(done, len(s.block.pages))])
	}
}

// verdict tells whether what was done has failed, as it does from an operation on.
func (s *step) verdict(from int) api.Errno {
	if s.number < from {
		return api.OK
	}
	s.array.counts.fails.Add(1)
	return api.ErrFail
}
