package blocks_test

import (
	"math"
	"slices"
	"strconv"
	"testing"

	"firkin/api"
	"firkin/blocks"
)

// P7.4

func TestBytesOfNewOnes(t *testing.T) {
	if got, want := made(t, 1, 1).Bytes(), sealed([]byte{1, 1, 1, 0, 0, 0, 0}); !slices.Equal(got, want) {
		t.Errorf("Bytes: %v, not %v", got, want)
	}
	if got, want := made(t, 2, 1).Bytes(), sealed([]byte{2, 1, 1, 0, 0, 0, 0, 1, 0, 0, 0, 0}); !slices.Equal(got, want) {
		t.Errorf("Bytes: %v, not %v", got, want)
	}
	if got, want := made(t, 1, 2).Bytes(), sealed([]byte{1, 2, 1, 0, 0, 0, 0, 1, 0, 0, 0, 0}); !slices.Equal(got, want) {
		t.Errorf("Bytes: %v, not %v", got, want)
	}
	if got := len(made(t, 8, 64).Bytes()); got != 2+8*64*5+4 {
		t.Errorf("%d bytes", got)
	}
}

func TestBytes(t *testing.T) {
	p := made(t, 2, 2)
	p.Hold(0, 1)
	p.Bad(1, 1)
	p.Take(1)
	p.Close(1, 0)
	for range 258 {
		p.Erased(0, 1)
	}
	p.Erased(1, 0)
	want := sealed([]byte{2, 2, 1, 0, 0, 0, 0, 2, 2, 1, 0, 0, 3, 1, 0, 0, 0, 4, 0, 0, 0, 0})
	if got := p.Bytes(); !slices.Equal(got, want) {
		t.Errorf("Bytes: %v, not %v", got, want)
	}
}

func TestParse(t *testing.T) {
	p, e := blocks.Parse(sealed([]byte{2, 2, 1, 0, 0, 0, 0, 2, 2, 1, 0, 0, 3, 0x78, 0x56, 0x34, 0x12, 4, 255, 255, 255, 255}))
	if e != api.OK {
		t.Fatalf("Parse: %v", e)
	}
	wantPool(t, "Parse", p, model{{{api.BlockFree, 0}, {api.BlockOpen, 258}}, {{api.BlockClosed, 0x12345678}, {api.BlockBad, math.MaxUint32}}})
	wantNothingThere(t, p, 2, 2)
}

// Pools of all sizes are read as they were written.
func TestParseOfEachSize(t *testing.T) {
	var n numbers = 7
	for dies := 1; dies <= 8; dies++ {
		for count := 1; count <= 64; count++ {
			m := someModel(&n, dies, count)
			wantPool(t, "Parse", parsed(t, m), m)
		}
	}
}

func wantRefused(t *testing.T, what string, b []byte, want api.Errno) {
	t.Helper()
	if p, e := blocks.Parse(b); p != nil || e != want {
		t.Errorf("Parse of %s: %v, %v, not %v", what, p, e, want)
	}
}

func TestParseOfWrongSums(t *testing.T) {
	for _, b := range [][]byte{nil, {}, {0}, {1, 1}, {1, 1, 1}, {1, 1, 1, 0}, {1, 1, 1, 0, 0, 0, 0}, make([]byte, 5), make([]byte, 11)} {
		wantRefused(t, "wrong bytes", b, api.ErrSum)
	}
	good := made(t, 1, 2).Bytes()
	for i := range good {
		wantRefused(t, "fewer bytes", good[:i], api.ErrSum)
		wantRefused(t, "later bytes", good[i+1:], api.ErrSum)
		for bit := range 8 {
			b := slices.Clone(good)
			b[i] ^= 1 << bit
			wantRefused(t, "a turned bit", b, api.ErrSum)
		}
	}
	wantRefused(t, "a byte more", append(slices.Clone(good), 0), api.ErrSum)
	// the wrong sum is told ahead of the wrong form
	wantRefused(t, "a wrong state", []byte{1, 1, 9, 0, 0, 0, 0, 0, 0, 0, 0}, api.ErrSum)
}

func TestParseOfWrongNumbers(t *testing.T) {
	for dies := range 256 {
		for _, count := range []int{0, 1, 2, 63, 64, 65, 127, 128, 255} {
			b := []byte{byte(dies), byte(count)}
			for range dies * count {
				b = append(b, api.BlockFree, 0, 0, 0, 0)
			}
			if dies >= 1 && dies <= 8 && count >= 1 && count <= 64 {
				wantPool(t, "Parse", parsed(t, newModel(dies, count)), newModel(dies, count))
				continue
			}
			wantRefused(t, strconv.Itoa(dies)+" dies, "+strconv.Itoa(count)+" blocks", sealed(b), api.ErrForm)
		}
	}
}

func TestParseOfWrongLengths(t *testing.T) {
	for _, b := range [][]byte{nil, {0}, {1}, {0, 0}, {1, 0}, {0, 1}, {1, 1}, {8, 64}, {9, 65}} {
		wantRefused(t, "few bytes", sealed(b), api.ErrForm)
	}
	for _, size := range [][2]int{{1, 1}, {1, 2}, {2, 1}, {2, 3}, {3, 2}} {
		plain := newModel(size[0], size[1]).plain()
		for i := range plain {
			wantRefused(t, "fewer bytes", sealed(plain[:i]), api.ErrForm)
		}
		more := plain
		for range 12 {
			more = append(more, api.BlockFree)
			wantRefused(t, "more bytes", sealed(more), api.ErrForm)
		}
		wantRefused(t, "what is sealed twice", sealed(sealed(plain)), api.ErrForm)
	}
	// as many blocks in all, but not so told
	b := newModel(2, 3).plain()
	b[0], b[1] = 1, 5
	wantRefused(t, "other numbers", sealed(b), api.ErrForm)
}

func TestParseOfWrongStates(t *testing.T) {
	var n numbers = 8
	for state := range 256 {
		for _, at := range [][2]int{{0, 0}, {0, 2}, {1, 1}, {2, 2}} {
			m := someModel(&n, 3, 3)
			m[at[0]][at[1]].state = state
			if state >= 1 && state <= 4 {
				wantPool(t, "Parse", parsed(t, m), m)
			} else {
				wantRefused(t, "state "+strconv.Itoa(state), m.bytes(), api.ErrForm)
			}
		}
	}
	m := someModel(&n, 2, 2)
	m[0][0].state, m[0][1].state, m[1][0].state = 0, 5, 255
	wantRefused(t, "several wrong states", m.bytes(), api.ErrForm)
}

// spoil writes over a row, and over what room it has behind its end.
func spoil(b []byte) {
	b = b[:cap(b)]
	for i := range b {
		b[i] ^= 255
	}
}

func TestBytesAreNewMemory(t *testing.T) {
	var n numbers = 9
	m := someModel(&n, 2, 5)
	p := parsed(t, m)
	first, second := p.Bytes(), p.Bytes()
	spoil(first)
	if !slices.Equal(second, m.bytes()) {
		t.Errorf("Bytes: %v, not %v", second, m.bytes())
	}
	spoil(second)
	wantPool(t, "Bytes that are changed", p, m)
}

func TestParseKeepsAndChangesNothing(t *testing.T) {
	var n numbers = 10
	m := someModel(&n, 2, 5)
	wanted := m.bytes()
	all := append(slices.Clone(wanted), 7, 7, 7)
	before := slices.Clone(all)
	handed := all[:len(wanted)]
	p, e := blocks.Parse(handed)
	q, _ := blocks.Parse(handed)
	if e != api.OK || !slices.Equal(all, before) {
		t.Fatalf("Parse: %v; %v, not %v", e, all, before)
	}
	spoil(all)
	wantPool(t, "bytes that are changed", p, m)
	p.Bad(0, 0)
	p.Erased(1, 1)
	wantPool(t, "a pool beside one that is changed", q, m)
}

// P7.5

// A pool that is written and read goes on as the one that wasn't.
func TestReadInTheMiddle(t *testing.T) {
	var n numbers = 11
	for _, size := range [][2]int{{1, 1}, {2, 3}, {8, 9}} {
		p := made(t, size[0], size[1])
		m := newModel(size[0], size[1])
		for range 300 {
			what := step(t, &n, p, m)
			if n.below(5) == 0 {
				q, e := blocks.Parse(p.Bytes())
				if e != api.OK {
					t.Fatalf("Parse: %v", e)
				}
				p = q
			}
			wantPool(t, what, p, m)
			if t.Failed() {
				return
			}
		}
	}
}
