package bch_test

import (
	"bytes"
	"math"
	"testing"

	"firkin/api"
	"firkin/bch"
)

// fieldPolynomials are those of chapter 1, by m.
var fieldPolynomials = [...]int{4: 19, 5: 37, 6: 67, 7: 137, 8: 285, 9: 529, 10: 1033, 11: 2053, 12: 4179, 13: 8219}

// numbers are the same in each run.
type numbers uint64

func (n *numbers) next(below int) int {
	*n = *n*6364136223846793005 + 1442695040888963407
	return int(uint64(*n)>>33) % below
}

func (n *numbers) bytes(size int) []byte {
	b := make([]byte, size)
	for i := range b {
		b[i] = byte(n.next(256))
	}
	return b
}

// size is that of a code.
type size struct{ bytes, t int }

// someSizes are codes of each m, and of both ends of each; of one byte and t 5 to 8 g's degree is below m t.
func someSizes() []size {
	sizes := []size{{1, 1}, {2, 3}, {3, 1}, {4, 2}, {7, 1}, {7, 8}, {8, 8}, {15, 1}, {20, 2}, {23, 8}, {24, 8}, {31, 1}, {36, 4}, {55, 8}, {64, 1}, {100, 8}, {120, 5}, {260, 3}, {511, 1}, {511, 8}, {512, 1}, {512, 8}}
	for t := 2; t <= api.MaxT; t++ {
		sizes = append(sizes, size{1, t})
	}
	return sizes
}

func made(t *testing.T, s size) *bch.Code {
	t.Helper()
	c, e := bch.New(s.bytes, s.t)
	if e != api.OK || c == nil {
		t.Fatalf("New(%d, %d): %v, %v", s.bytes, s.t, c, e)
	}
	return c
}

func eachCode(t *testing.T, do func(t *testing.T, s size, c *bch.Code)) {
	t.Helper()
	for _, s := range someSizes() {
		do(t, s, made(t, s))
	}
}

// wantedM is the least m from 4 on that is wide enough.
func wantedM(s size) int {
	m := 4
	for s.bytes*8+m*s.t > 1<<m-1 {
		m++
	}
	return m
}

// wantedBits is how many powers of the root are got by doubling 1 to 2t: each is a root of g, of which there are no others.
func wantedBits(s size) int {
	whole := 1<<wantedM(s) - 1
	roots := map[int]int{}
	for n := 1; n <= 2*s.t; n++ {
		for k := n; roots[k] == 0; k = 2 * k % whole {
			roots[k]++
		}
	}
	return len(roots)
}

// isWord tells whether a polynomial is 0 at the root's powers 1 to 2t, by sums of powers alone.
func isWord(s size, data, parity []byte) bool {
	m, bits := wantedM(s), wantedBits(s)
	whole := 1<<m - 1
	powers := make([]int, whole)
	for i, a := 0, 1; i < whole; i++ {
		powers[i] = a
		if a *= 2; a > whole {
			a ^= fieldPolynomials[m]
		}
	}
	sums := make([]int, 2*s.t+1)
	top := 8*s.bytes + bits - 1
	for i, b := range append(bytes.Clone(data), parity...) {
		for k := range 8 {
			power := top - 8*i - k
			if b<<k&128 == 0 || power < 0 {
				continue
			}
			for j := 1; j <= 2*s.t; j++ {
				sums[j] ^= powers[power*j%whole]
			}
		}
	}
	for _, a := range sums {
		if a != 0 {
			return false
		}
	}
	return true
}

// P2.1

func TestNewOfEachSize(t *testing.T) {
	for n := 1; n <= api.MaxWord; n++ {
		for k := 1; k <= api.MaxT; k++ {
			s := size{n, k}
			c := made(t, s)
			if c.M() != wantedM(s) || c.M() > api.MaxM {
				t.Fatalf("New(%d, %d): M %d, not %d", n, k, c.M(), wantedM(s))
			}
			if want := wantedBits(s); c.Bits() != want || c.Parity() != (want+7)/8 {
				t.Fatalf("New(%d, %d): Bits %d, Parity %d, not %d", n, k, c.Bits(), c.Parity(), want)
			}
		}
	}
}

func TestBitsBelowMTimesT(t *testing.T) {
	for k, want := range map[int]int{4: 20, 5: 27, 8: 45} {
		if c := made(t, size{1, k}); c.Bits() != want {
			t.Errorf("New(1, %d): Bits %d, not %d", k, c.Bits(), want)
		}
	}
}

// The m is chosen by m t, not by g's degree: a code just as wide as its field, and one of a byte or of a t more.
func TestNewAtTheEdgesOfM(t *testing.T) {
	for s, m := range map[size]int{
		{1, 1}: 4, {1, 2}: 5, {2, 1}: 5, {2, 3}: 5, {2, 4}: 6, {3, 1}: 5, {3, 2}: 6, {1, 4}: 5, {1, 5}: 6,
		{1, 8}: 6, {2, 8}: 7, {7, 1}: 6, {8, 1}: 7, {15, 1}: 7, {16, 1}: 8, {30, 1}: 8, {31, 1}: 9,
		{510, 1}: 12, {510, 2}: 13, {511, 1}: 13, {512, 1}: 13, {512, 8}: 13,
	} {
		if c := made(t, s); c.M() != m {
			t.Errorf("New(%d, %d): M %d, not %d", s.bytes, s.t, c.M(), m)
		}
	}
}

func TestNewOutside(t *testing.T) {
	outside := []size{
		{0, 1}, {-1, 1}, {-512, 8}, {513, 1}, {513, 8}, {514, 1}, {1, 0}, {1, -1}, {1, 9}, {512, 9}, {512, 0}, {0, 0}, {0, 9}, {-1, -1},
		{1022, 1}, {1023, 1}, {1024, 1}, {1024, 8}, {8191, 8}, // from 1022 on no m of at most 13 would be wide enough
		{math.MinInt, 1}, {math.MaxInt, 1}, {1, math.MinInt}, {1, math.MaxInt}, {math.MaxInt/8 + 1, 1}, {1 << 61, 1}, {1, 1 << 62}, {math.MinInt, math.MinInt},
	}
	for _, s := range outside {
		if c, e := bch.New(s.bytes, s.t); c != nil || e != api.ErrArg {
			t.Errorf("New(%d, %d): %v, %v", s.bytes, s.t, c, e)
		}
	}
}

func TestNoCode(t *testing.T) {
	for name, c := range map[string]*bch.Code{"nil": nil, "not made by New": {}} {
		if c.M() != 0 || c.Bits() != 0 || c.Parity() != 0 {
			t.Errorf("%s: M %d, Bits %d, Parity %d", name, c.M(), c.Bits(), c.Parity())
		}
		for _, data := range [][]byte{nil, {}, {1}, make([]byte, 512)} {
			if p, e := c.Encode(data); len(p) != 0 || e != api.ErrArg {
				t.Errorf("%s: Encode of %d bytes: %v, %v", name, len(data), p, e)
			}
			for _, parity := range [][]byte{nil, {}, {48}} {
				if d, p, n, e := c.Decode(data, parity); len(d) != 0 || len(p) != 0 || n != 0 || e != api.ErrArg {
					t.Errorf("%s: Decode of %d and %d bytes: %v, %v, %d, %v", name, len(data), len(parity), d, p, n, e)
				}
			}
		}
	}
}

// P2.2

// guarded is b in the middle of other bytes, and a check that they all are as they were.
func guarded(b []byte) ([]byte, func() bool) {
	all := append(append([]byte{9, 9, 9}, b...), 7, 7, 7, 7, 7, 7, 7, 7)
	before := bytes.Clone(all)
	return all[3 : 3+len(b)], func() bool { return bytes.Equal(all, before) }
}

func TestEncodeMakesAWord(t *testing.T) {
	var n numbers = 1
	eachCode(t, func(t *testing.T, s size, c *bch.Code) {
		rows := [][]byte{make([]byte, s.bytes), bytes.Repeat([]byte{255}, s.bytes)}
		for i := range 8 {
			one := make([]byte, s.bytes)
			one[i*(s.bytes-1)/7] = 128 >> i
			rows = append(rows, one, n.bytes(s.bytes))
		}
		for _, data := range rows {
			p, e := c.Encode(data)
			if e != api.OK || len(p) != c.Parity() {
				t.Fatalf("%v: Encode(%v): %v, %v", s, data, p, e)
			}
			if !isWord(s, data, p) {
				t.Errorf("%v: Encode(%v): %v: no word", s, data, p)
			}
			if p[len(p)-1]&(1<<(8*len(p)-c.Bits())-1) != 0 {
				t.Errorf("%v: Encode(%v): %v: other bits are set", s, data, p)
			}
		}
	})
}

func TestEncodeOfOtherLengths(t *testing.T) {
	eachCode(t, func(t *testing.T, s size, c *bch.Code) {
		for _, data := range [][]byte{nil, {}, make([]byte, s.bytes-1), make([]byte, s.bytes+1), make([]byte, s.bytes+c.Parity()), make([]byte, 2000)} {
			if p, e := c.Encode(data); p != nil || e != api.ErrArg {
				t.Errorf("%v: Encode of %d bytes: %v, %v", s, len(data), p, e)
			}
		}
	})
}

func TestEncodeKeepsAndChangesNothing(t *testing.T) {
	var n numbers = 2
	eachCode(t, func(t *testing.T, s size, c *bch.Code) {
		data, same := guarded(n.bytes(s.bytes))
		p, _ := c.Encode(data)
		want := bytes.Clone(p)
		clear(p[:cap(p)])
		if !same() {
			t.Errorf("%v: Encode changed what it was given, or answered a piece of it", s)
		}
		q, e := c.Encode(data)
		if e != api.OK || !bytes.Equal(q, want) {
			t.Errorf("%v: Encode: %v, then %v, %v", s, want, q, e)
		}
		clear(data)
		if !bytes.Equal(q, want) {
			t.Errorf("%v: Encode's answer changes with its data", s)
		}
	})
}
