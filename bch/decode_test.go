package bch_test

import (
	"bytes"
	"fmt"
	"math/bits"
	"slices"
	"testing"

	"firkin/api"
	"firkin/bch"
)

// word is data and parity, whose bits are numbered from the first one of the data on.
type word struct{ data, parity []byte }

func (w word) clone() word { return word{bytes.Clone(w.data), bytes.Clone(w.parity)} }

func (w word) same(v word) bool {
	return bytes.Equal(w.data, v.data) && bytes.Equal(w.parity, v.parity)
}

// turned is the word with those bits turned.
func (w word) turned(places ...int) word {
	v := w.clone()
	for _, n := range places {
		if n < 8*len(v.data) {
			v.data[n/8] ^= 128 >> (n % 8)
		} else {
			n -= 8 * len(v.data)
			v.parity[n/8] ^= 128 >> (n % 8)
		}
	}
	return v
}

// apart is in how many bits two words differ.
func (w word) apart(v word) int {
	n := 0
	for i := range w.data {
		n += bits.OnesCount8(w.data[i] ^ v.data[i])
	}
	for i := range w.parity {
		n += bits.OnesCount8(w.parity[i] ^ v.parity[i])
	}
	return n
}

func encoded(t *testing.T, c *bch.Code, data []byte) word {
	t.Helper()
	p, e := c.Encode(data)
	if e != api.OK {
		t.Fatalf("Encode(%v): %v", data, e)
	}
	return word{data, p}
}

// decodes asks for a word out of what was turned.
func decodes(t *testing.T, c *bch.Code, from, want word, turned int) {
	t.Helper()
	d, p, n, e := c.Decode(from.data, from.parity)
	if e != api.OK || n != turned || !want.same(word{d, p}) {
		t.Errorf("Decode(%v, %v): %v, %v, %d, %v; not %v, %v, %d", from.data, from.parity, d, p, n, e, want.data, want.parity, turned)
	}
}

// somePlaces are different bits of so many.
func somePlaces(n *numbers, count, of int) []int {
	var places []int
	for len(places) < count {
		if p := n.next(of); !slices.Contains(places, p) {
			places = append(places, p)
		}
	}
	return places
}

// lengthOf is how many bits a word of the code has.
func lengthOf(s size, c *bch.Code) int { return 8*s.bytes + c.Bits() }

// P2.3

func TestDecodeOfWords(t *testing.T) {
	var n numbers = 3
	eachCode(t, func(t *testing.T, s size, c *bch.Code) {
		for _, data := range [][]byte{make([]byte, s.bytes), bytes.Repeat([]byte{255}, s.bytes), n.bytes(s.bytes), n.bytes(s.bytes)} {
			w := encoded(t, c, data)
			decodes(t, c, w, w, 0)
		}
	})
}

func TestDecodeOfOtherLengths(t *testing.T) {
	eachCode(t, func(t *testing.T, s size, c *bch.Code) {
		k := c.Parity()
		for _, l := range [][2]int{{0, 0}, {s.bytes, 0}, {0, k}, {s.bytes - 1, k}, {s.bytes + 1, k}, {s.bytes, k - 1}, {s.bytes, k + 1}, {s.bytes + k, 0}, {s.bytes + 1, k - 1}, {s.bytes - 1, k + 1}} {
			d, p, n, e := c.Decode(make([]byte, l[0]), make([]byte, l[1]))
			if d != nil || p != nil || n != 0 || e != api.ErrArg {
				t.Errorf("%v: Decode of %v bytes: %v, %v, %d, %v", s, l, d, p, n, e)
			}
		}
		if d, p, n, e := c.Decode(nil, nil); d != nil || p != nil || n != 0 || e != api.ErrArg {
			t.Errorf("%v: Decode of nil: %v, %v, %d, %v", s, d, p, n, e)
		}
	})
}

// The last byte's other bits are not looked at, whether the rest is a word or not, and 0 in answers.
func TestDecodeLooksAtNoOtherBits(t *testing.T) {
	var n numbers = 4
	eachCode(t, func(t *testing.T, s size, c *bch.Code) {
		others := 8*c.Parity() - c.Bits()
		w := encoded(t, c, n.bytes(s.bytes))
		for k := range s.t + 1 {
			from := w.turned(somePlaces(&n, k, lengthOf(s, c))...)
			for pattern := range 1 << others {
				v := from.clone()
				v.parity[len(v.parity)-1] |= byte(pattern)
				decodes(t, c, v, w, k)
			}
		}
	})
}

func TestDecodeKeepsAndChangesNothing(t *testing.T) {
	var n numbers = 5
	eachCode(t, func(t *testing.T, s size, c *bch.Code) {
		w := encoded(t, c, n.bytes(s.bytes))
		for _, count := range []int{0, s.t, s.t + 1} {
			from := w.turned(somePlaces(&n, count, lengthOf(s, c))...)
			given := from.clone()
			given.parity[c.Parity()-1] |= 1<<(8*c.Parity()-c.Bits()) - 1
			data, sameData := guarded(given.data)
			parity, sameParity := guarded(given.parity)
			d, p, _, e := c.Decode(data, parity)
			if e != api.OK {
				if !sameData() || !sameParity() {
					t.Errorf("%v: Decode changed what it was given, and refused it", s)
				}
				continue
			}
			got := word{bytes.Clone(d), bytes.Clone(p)}
			clear(d[:cap(d)])
			if !bytes.Equal(p, got.parity) {
				t.Errorf("%v: Decode's data and parity share memory", s)
			}
			clear(p[:cap(p)])
			if !sameData() || !sameParity() {
				t.Errorf("%v: Decode changed what it was given, or answered a piece of it", s)
			}
			decodes(t, c, word{data, parity}, got, got.apart(from))
		}
	})
}

// within tells, of each row of so many bits, which data's word lies at most t bits from it (data and 1; 0: none does). Bits are those of a number, the first one the highest.
func within(t *testing.T, s size, c *bch.Code) []uint32 {
	length := lengthOf(s, c)
	near := make([]uint32, 1<<length)
	for data := range 1 << (8 * s.bytes) {
		w := encoded(t, c, bytesOf(data, 8*s.bytes))
		number := data<<c.Bits() | numberOf(w.parity, c.Bits())
		spread(near, number, s.t, length, uint32(data+1))
	}
	return near
}

// spread puts the mark at all numbers that differ from this one in at most left of its first bits.
func spread(near []uint32, number, left, below int, mark uint32) {
	near[number] = mark
	if left == 0 {
		return
	}
	for i := range below {
		spread(near, number^1<<i, left-1, i, mark)
	}
}

func bytesOf(number, count int) []byte {
	b := make([]byte, (count+7)/8)
	for i := range count {
		if number>>(count-1-i)&1 == 1 {
			b[i/8] |= 128 >> (i % 8)
		}
	}
	return b
}

func numberOf(b []byte, count int) int {
	n := 0
	for i := range count {
		n = n<<1 | int(b[i/8]>>(7-i%8)&1)
	}
	return n
}

// Whatever is handed in: it is answered just if a word lies at most t bits away, which is looked up among all of them.
func TestDecodeOfAnything(t *testing.T) {
	steps := map[size]int{{1, 1}: 1, {1, 2}: 1, {1, 3}: 61, {2, 1}: 17}
	for s, step := range steps {
		c := made(t, s)
		near := within(t, s, c)
		for number := 0; number < len(near); number += step {
			data, parity := bytesOf(number>>c.Bits(), 8*s.bytes), bytesOf(number&(1<<c.Bits()-1), c.Bits())
			mark := near[number]
			if mark == 0 {
				if d, p, n, e := c.Decode(data, parity); d != nil || p != nil || n != 0 || e != api.ErrFlips {
					t.Fatalf("%v: Decode(%v, %v): %v, %v, %d, %v; no word is near", s, data, parity, d, p, n, e)
				}
				continue
			}
			w := encoded(t, c, bytesOf(int(mark-1), 8*s.bytes))
			decodes(t, c, word{data, parity}, w, w.apart(word{data, parity}))
		}
	}
}

// Of more than t turned bits: what is answered is a word, at most t bits away, and as many as are told; else nothing is.
func TestDecodeOfMoreThanT(t *testing.T) {
	var n numbers = 6
	refused, answered := 0, 0
	eachCode(t, func(t *testing.T, s size, c *bch.Code) {
		w := encoded(t, c, n.bytes(s.bytes))
		for round := range 40 {
			from := w.turned(somePlaces(&n, s.t+1+round%5, lengthOf(s, c))...)
			d, p, k, e := c.Decode(from.data, from.parity)
			if e == api.ErrFlips {
				refused++
				if d != nil || p != nil || k != 0 {
					t.Errorf("%v: refused, with %v, %v, %d", s, d, p, k)
				}
				continue
			}
			answered++
			v := word{d, p}
			if e != api.OK || len(d) != s.bytes || len(p) != c.Parity() || !isWord(s, d, p) || v.apart(from) != k || k > s.t {
				t.Errorf("%v: Decode(%v, %v): %v, %v, %d, %v", s, from.data, from.parity, d, p, k, e)
			}
		}
	})
	if refused == 0 || answered == 0 {
		t.Errorf("%d were refused, %d answered: the test looks at one kind alone", refused, answered)
	}
}

// Two words that are just 2t + 1 bits apart: t bits on the way from one to the other it is still the one, a bit farther the other.
func TestDecodeGoesToTheNearerWord(t *testing.T) {
	var n numbers = 7
	for _, s := range []size{{1, 1}, {1, 2}, {1, 3}, {2, 3}} {
		c := made(t, s)
		zero := encoded(t, c, make([]byte, s.bytes))
		w := lightest(t, s, c)
		places := placesOf(w)
		if len(places) != 2*s.t+1 {
			t.Errorf("%v: the lightest word has %d bits", s, len(places))
			continue
		}
		for range 20 {
			i := n.next(len(places))
			places[0], places[i] = places[i], places[0]
			decodes(t, c, zero.turned(places[:s.t]...), zero, s.t)
			decodes(t, c, zero.turned(places[:s.t+1]...), w, s.t)
		}
	}
}

// Of one byte and t 4 words are 11 bits apart and more, so that five turned bits might be set right: they are not.
func TestDecodeOfMoreThanTIsRefusedWhereItMightBeFound(t *testing.T) {
	var n numbers = 13
	s := size{1, 4}
	c := made(t, s)
	for data := range 256 {
		from := encoded(t, c, []byte{byte(data)}).turned(somePlaces(&n, 5, lengthOf(s, c))...)
		if d, p, k, e := c.Decode(from.data, from.parity); d != nil || p != nil || k != 0 || e != api.ErrFlips {
			t.Errorf("Decode(%v, %v): %v, %v, %d, %v", from.data, from.parity, d, p, k, e)
		}
	}
}

// lightest is a word with the fewest bits, but none.
func lightest(t *testing.T, s size, c *bch.Code) word {
	zero := encoded(t, c, make([]byte, s.bytes))
	var least word
	for data := 1; data < 1<<(8*s.bytes); data++ {
		w := encoded(t, c, bytesOf(data, 8*s.bytes))
		if least.data == nil || w.apart(zero) < least.apart(zero) {
			least = w
		}
	}
	return least
}

func placesOf(w word) []int {
	var places []int
	for i, b := range append(bytes.Clone(w.data), w.parity...) {
		for k := range 8 {
			if b<<k&128 != 0 {
				places = append(places, 8*i+k)
			}
		}
	}
	return places
}

// P2.4

func TestEachSingleBitIsSetRight(t *testing.T) {
	var n numbers = 8
	eachCode(t, func(t *testing.T, s size, c *bch.Code) {
		w := encoded(t, c, n.bytes(s.bytes))
		step := 1
		if s.bytes > 64 {
			step = 13
		}
		last := lengthOf(s, c) - 1
		for place := 0; place <= last; place += step {
			decodes(t, c, w.turned(place), w, 1)
		}
		decodes(t, c, w.turned(last), w, 1)
	})
}

func TestAllPairsAreSetRight(t *testing.T) {
	var n numbers = 9
	for _, s := range []size{{1, 2}, {2, 3}, {1, 8}, {4, 2}} {
		c := made(t, s)
		w := encoded(t, c, n.bytes(s.bytes))
		for a := range lengthOf(s, c) {
			for b := range a {
				decodes(t, c, w.turned(a, b), w, 2)
			}
		}
	}
}

func TestUpToTBitsAreSetRight(t *testing.T) {
	var n numbers = 10
	eachCode(t, func(t *testing.T, s size, c *bch.Code) {
		length := lengthOf(s, c)
		for k := range s.t + 1 {
			for range 6 {
				w := encoded(t, c, n.bytes(s.bytes))
				decodes(t, c, w.turned(somePlaces(&n, k, length)...), w, k)
			}
			w := encoded(t, c, n.bytes(s.bytes))
			for _, first := range []int{0, 8*s.bytes - k, 8*s.bytes - k/2, 8 * s.bytes, length - k} {
				var run []int
				for i := range k {
					run = append(run, first+i)
				}
				if first >= 0 && first+k <= length {
					decodes(t, c, w.turned(run...), w, k)
				}
			}
		}
	})
}

func TestSumOfWordsIsAWord(t *testing.T) {
	var n numbers = 11
	eachCode(t, func(t *testing.T, s size, c *bch.Code) {
		for range 10 {
			v, w := encoded(t, c, n.bytes(s.bytes)), encoded(t, c, n.bytes(s.bytes))
			both := v.turned(placesOf(w)...)
			p, e := c.Encode(both.data)
			if e != api.OK || !bytes.Equal(p, both.parity) {
				t.Errorf("%v: Encode of a sum: %v, %v, not %v", s, p, e, both.parity)
			}
			decodes(t, c, both, both, 0)
		}
	})
}

func TestUnlikeWordsAreFarApart(t *testing.T) {
	var n numbers = 12
	for _, s := range []size{{1, 1}, {1, 2}, {1, 3}, {1, 4}, {1, 5}, {1, 6}, {1, 7}, {1, 8}, {2, 1}, {2, 3}, {2, 8}} {
		c := made(t, s)
		if k := lightest(t, s, c).apart(encoded(t, c, make([]byte, s.bytes))); k < 2*s.t+1 {
			t.Errorf("%v: a word of %d bits", s, k)
		}
	}
	eachCode(t, func(t *testing.T, s size, c *bch.Code) {
		data := n.bytes(s.bytes)
		w := encoded(t, c, data)
		for range 30 {
			v := w.turned(somePlaces(&n, 1+n.next(3), 8*s.bytes)...)
			if k := encoded(t, c, v.data).apart(w); k < 2*s.t+1 {
				t.Errorf("%v: words of %v and %v differ in %d bits", s, data, v.data, k)
			}
		}
	})
}

// The chapter's examples

func TestExamples(t *testing.T) {
	c := made(t, size{1, 1})
	if c.M() != 4 || c.Bits() != 4 {
		t.Errorf("New(1, 1): M %d, Bits %d", c.M(), c.Bits())
	}
	for data, parity := range map[byte]byte{1: 48, 128: 224} {
		if p, e := c.Encode([]byte{data}); e != api.OK || !bytes.Equal(p, []byte{parity}) {
			t.Errorf("Encode(%d): %v, %v", data, p, e)
		}
	}
	for from, turned := range map[[2]byte]int{{1, 48}: 0, {3, 48}: 1, {1, 16}: 1} {
		d, p, n, e := c.Decode(from[:1], from[1:])
		if got, want := fmt.Sprint(d, p, n, e == api.OK), fmt.Sprint([]byte{1}, []byte{48}, turned, true); got != want {
			t.Errorf("Decode(%v): %s, not %s", from, got, want)
		}
	}
	if c := made(t, size{512, 8}); c.M() != 13 || c.Bits() != 104 {
		t.Errorf("New(512, 8): M %d, Bits %d", c.M(), c.Bits())
	}
	for _, s := range []size{{0, 1}, {1, 9}} {
		if c, e := bch.New(s.bytes, s.t); c != nil || e != api.ErrArg {
			t.Errorf("New(%d, %d): %v, %v", s.bytes, s.t, c, e)
		}
	}
}
