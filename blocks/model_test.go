package blocks_test

import (
	"hash/crc32"
	"math"
	"slices"
	"testing"

	"firkin/api"
	"firkin/blocks"
)

// numbers are the same in each run.
type numbers uint64

// below is 0 to less than end.
func (n *numbers) below(end int) int {
	*n = *n*6364136223846793005 + 1442695040888963407
	return int(uint64(*n)>>33) % end
}

// allStates are all that a block can be in.
var allStates = []int{api.BlockFree, api.BlockOpen, api.BlockClosed, api.BlockBad}

// outside are numbers of which none is that of one of n things.
func outside(n int) []int {
	return []int{-1, -2, -n, -64, math.MinInt, n, n + 1, 8*n + 64, 256, 256 + n, math.MaxInt}
}

// block is one of a model.
type block struct{ state, erases int }

// model is a pool in the chapter's words: the blocks of each die.
type model [][]block

func newModel(dies, blocks int) model {
	m := make(model, dies)
	for i := range m {
		m[i] = slices.Repeat([]block{{state: api.BlockFree}}, blocks)
	}
	return m
}

// someModel has blocks in all states, with few erases, with many, and with the most.
func someModel(n *numbers, dies, blocks int) model {
	m := newModel(dies, blocks)
	for _, row := range m {
		for i := range row {
			erases := []int{0, 1, n.below(4), n.below(70000), n.below(1 << 31), math.MaxUint32 - n.below(3)}
			row[i] = block{state: allStates[n.below(4)], erases: erases[n.below(len(erases))]}
		}
	}
	return m
}

func (m model) find(die, block int) *block {
	if die < 0 || die >= len(m) || block < 0 || block >= len(m[die]) {
		return nil
	}
	return &m[die][block]
}

func (m model) take(die int) (int, api.Errno) {
	if m.find(die, 0) == nil {
		return 0, api.ErrArg
	}
	best := -1
	for i, b := range m[die] {
		if b.state == api.BlockFree && (best == -1 || b.erases < m[die][best].erases) {
			best = i
		}
	}
	if best == -1 {
		return 0, api.ErrNone
	}
	m[die][best].state = api.BlockOpen
	return best, api.OK
}

// call is one of the calls that are about one block.
type call struct {
	name  string
	model func(b *block) api.Errno // of a block that is there
	pool  func(p *blocks.Pool, die, block int) api.Errno
}

func someCalls() []call {
	return []call{
		{"Hold", func(b *block) api.Errno {
			if b.state != api.BlockFree {
				return api.ErrState
			}
			b.state = api.BlockOpen
			return api.OK
		}, (*blocks.Pool).Hold},
		{"Close", func(b *block) api.Errno {
			if b.state != api.BlockOpen {
				return api.ErrState
			}
			b.state = api.BlockClosed
			return api.OK
		}, (*blocks.Pool).Close},
		{"Free", func(b *block) api.Errno {
			if b.state != api.BlockOpen && b.state != api.BlockClosed {
				return api.ErrState
			}
			b.state = api.BlockFree
			return api.OK
		}, (*blocks.Pool).Free},
		{"Bad", func(b *block) api.Errno {
			b.state = api.BlockBad
			return api.OK
		}, (*blocks.Pool).Bad},
		{"Erased", func(b *block) api.Errno {
			if b.state == api.BlockBad {
				return api.ErrState
			}
			b.erases = min(b.erases+1, math.MaxUint32)
			return api.OK
		}, (*blocks.Pool).Erased},
	}
}

func (m model) count(die, state int) int {
	n := 0
	for _, b := range m[die] {
		if b.state == state {
			n++
		}
	}
	return n
}

func (m model) spread(die int) int {
	var erases []int
	for _, b := range m[die] {
		if b.state != api.BlockBad {
			erases = append(erases, b.erases)
		}
	}
	if len(erases) == 0 {
		return 0
	}
	return slices.Max(erases) - slices.Min(erases)
}

// plain are a model's bytes, not sealed.
func (m model) plain() []byte {
	b := []byte{byte(len(m)), byte(len(m[0]))}
	for _, row := range m {
		for _, x := range row {
			e := x.erases
			b = append(b, byte(x.state), byte(e%256), byte(e/256%256), byte(e/65536%256), byte(e/16777216))
		}
	}
	return b
}

func (m model) bytes() []byte { return sealed(m.plain()) }

// sealed is b, and behind it its sum, as the library has it.
func sealed(b []byte) []byte {
	s := crc32.ChecksumIEEE(b)
	return append(slices.Clone(b), byte(s), byte(s>>8), byte(s>>16), byte(s>>24))
}

// wantPool tells whether all that can be asked of a pool is as the model has it.
func wantPool(t *testing.T, what string, p *blocks.Pool, m model) {
	t.Helper()
	for die, row := range m {
		for i, b := range row {
			if got := p.State(die, i); got != b.state {
				t.Fatalf("%s: State(%d, %d): %d, not %d", what, die, i, got, b.state)
			}
			if got := p.Erases(die, i); got != b.erases {
				t.Fatalf("%s: Erases(%d, %d): %d, not %d", what, die, i, got, b.erases)
			}
		}
		for _, state := range append([]int{0, -1, 5, 256 + api.BlockFree, math.MinInt, math.MaxInt}, allStates...) {
			if got, want := p.Count(die, state), m.count(die, state); got != want {
				t.Fatalf("%s: Count(%d, %d): %d, not %d", what, die, state, got, want)
			}
		}
		if got, want := p.Spread(die), m.spread(die); got != want {
			t.Fatalf("%s: Spread(%d): %d, not %d", what, die, got, want)
		}
	}
	if got, want := p.Bytes(), m.bytes(); !slices.Equal(got, want) {
		t.Fatalf("%s: Bytes: %v, not %v", what, got, want)
	}
}

func made(t *testing.T, dies, count int) *blocks.Pool {
	t.Helper()
	p, e := blocks.New(dies, count)
	if e != api.OK || p == nil {
		t.Fatalf("New(%d, %d): %v", dies, count, e)
	}
	return p
}

// parsed is the pool of a model.
func parsed(t *testing.T, m model) *blocks.Pool {
	t.Helper()
	p, e := blocks.Parse(m.bytes())
	if e != api.OK || p == nil {
		t.Fatalf("Parse of %v: %v", m, e)
	}
	return p
}

func wantErrno(t *testing.T, what string, got, want api.Errno) {
	t.Helper()
	if got != want {
		t.Errorf("%s: %v, not %v", what, got, want)
	}
}

func wantTaken(t *testing.T, p *blocks.Pool, die, want int, wantE api.Errno) {
	t.Helper()
	if got, e := p.Take(die); got != want || e != wantE {
		t.Errorf("Take(%d): %d, %v, not %d, %v", die, got, e, want, wantE)
	}
}
