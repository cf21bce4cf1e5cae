package blocks

import (
	"firkin/api"
	"firkin/crc"
)

// How many bytes stand for what.
const (
	headBytes  = 2 // how many dies there are, and how many blocks each has
	blockBytes = 5 // a state, and the erases
)

// Bytes are the pool's bytes.
func (p *Pool) Bytes() []byte {
	first := p.die(0)
	if first == nil {
		return nil
	}
	b := []byte{byte(len(p.dies)), byte(len(first))}
	for _, d := range p.dies {
		for _, x := range d.all() {
			b = append(b, byte(x.state), byte(x.erases), byte(x.erases>>8), byte(x.erases>>16), byte(x.erases>>24))
		}
	}
	return crc.Seal(b)
}

// Parse is the pool of bytes.
func Parse(b []byte) (*Pool, api.Errno) {
	opened, e := crc.Open(b)
	if e != api.OK {
		return nil, e
	}
	p := poolFor(opened)
	if p == nil {
		return nil, api.ErrForm
	}
	left := opened[headBytes:]
	for _, d := range p.dies {
		for _, x := range d.all() {
			*x = blockOf(left[:blockBytes])
			if x.state < api.BlockFree || x.state > api.BlockBad {
				return nil, api.ErrForm
			}
			left = left[blockBytes:]
		}
	}
	return p, api.OK
}

// poolFor is a new pool that bytes are just long enough for; nil, if there is none.
func poolFor(b []byte) *Pool {
	if len(b) < headBytes {
		return nil
	}
	dies, blocks := int(b[0]), int(b[1])
	if len(b) != headBytes+dies*blocks*blockBytes {
		return nil
	}
	p, _ := New(dies, blocks)
	return p
}

// blockOf is the block that bytes tell, whatever its state.
func blockOf(b []byte) oneBlock {
	erases := uint32(0)
	for i, x := range b[1:] {
		erases |= uint32(x) << (8 * i)
	}
	return oneBlock{state: int(b[0]), erases: erases}
}
