package blocks

import (
	"iter"

	"firkin/api"
)

// oneBlock is a block.
type oneBlock struct {
	state  int
	erases uint32
}

// oneDie is the blocks of a die, by their numbers.
type oneDie []oneBlock

// newDie is so many free blocks.
func newDie(blocks int) oneDie {
	d := make(oneDie, blocks)
	for _, b := range d.all() {
		b.state = api.BlockFree
	}
	return d
}

// all goes through a die's blocks, the lowest number first.
func (d oneDie) all() iter.Seq2[int, *oneBlock] {
	return func(yield func(int, *oneBlock) bool) {
		for i := range d {
			if !yield(i, &d[i]) {
				return
			}
		}
	}
}

// die is the blocks of a die; nil, if there is none.
func (p *Pool) die(die int) oneDie {
	if p == nil || die < 0 || die >= len(p.dies) {
		return nil
	}
	return p.dies[die]
}

// find is a block; nil, if there is none.
func (p *Pool) find(die, block int) *oneBlock {
	d := p.die(die)
	if block < 0 || block >= len(d) {
		return nil
	}
	return &d[block]
}
