package crc_test

import (
	"bytes"
	"hash/crc32"
	"math"
	"math/bits"
	"testing"

	"firkin/api"
	"firkin/crc"
)

// numbers are the same in each run.
type numbers uint64

func (n *numbers) next() uint32 {
	*n = *n*6364136223846793005 + 1442695040888963407
	return uint32(*n >> 32)
}

func (n *numbers) bytes(size int) []byte {
	b := make([]byte, size)
	for i := range b {
		b[i] = byte(n.next() >> 24)
	}
	return b
}

// register goes on bit by bit, in the chapter's words.
func register(r uint32, b []byte) uint32 {
	for _, x := range b {
		for i := range 8 {
			differ := r&1 != uint32(x>>i&1)
			r >>= 1
			if differ {
				r ^= 3988292384
			}
		}
	}
	return r
}

func wantedSum(b []byte) uint32 { return ^register(math.MaxUint32, b) }

// wantedSeal is the bytes, and behind them their sum, the lowest byte first.
func wantedSeal(b []byte) []byte {
	s := wantedSum(b)
	return append(bytes.Clone(b), byte(s), byte(s>>8), byte(s>>16), byte(s>>24))
}

// someRows are nothing, each byte alone, rows of one byte, and rows of each length up to 40 and of some greater ones.
func someRows() [][]byte {
	var n numbers = 1
	rows := [][]byte{nil, {}}
	for x := range 256 {
		rows = append(rows, []byte{byte(x)})
	}
	for size := 2; size <= 40; size++ {
		rows = append(rows, n.bytes(size), make([]byte, size), bytes.Repeat([]byte{255}, size))
	}
	for _, size := range []int{255, 256, 257, 4095, 4096, 65536, 100001} {
		rows = append(rows, n.bytes(size), make([]byte, size))
	}
	return rows
}

// someNumbers are edges, one bit alone, and others.
func someNumbers() []uint32 {
	var n numbers = 2
	row := []uint32{0, 1, math.MaxInt32, math.MaxInt32 + 1, math.MaxUint32, 3988292384, 3421780262}
	for i := range 32 {
		row = append(row, 1<<i, ^uint32(1<<i), n.next())
	}
	return row
}

// guarded is b in the middle of other bytes, and a check that they all are as they were.
func guarded(b []byte) ([]byte, func() bool) {
	all := append(append([]byte{9, 9, 9}, b...), 7, 7, 7, 7, 7, 7, 7, 7)
	before := bytes.Clone(all)
	return all[3 : 3+len(b)], func() bool { return bytes.Equal(all, before) }
}

// spoil writes over a row, and over what room it has behind its end.
func spoil(b []byte) {
	b = b[:cap(b)]
	for i := range b {
		b[i] ^= 255
	}
}

// The chapter's examples

func TestExamples(t *testing.T) {
	for text, want := range map[string]uint32{"": 0, "a": 3904355907, "123456789": 3421780262} {
		if got := crc.Sum([]byte(text)); got != want {
			t.Errorf("Sum of %q: %d, not %d", text, got, want)
		}
	}
	if got := crc.Seal(nil); !bytes.Equal(got, []byte{0, 0, 0, 0}) {
		t.Errorf("Seal of nothing: %v", got)
	}
	if got, e := crc.Open([]byte{'a', 67, 190, 183, 232}); e != api.OK || string(got) != "a" {
		t.Errorf("Open: %q, %v", got, e)
	}
	for _, b := range [][]byte{{'b', 67, 190, 183, 232}, {'a'}} {
		if got, e := crc.Open(b); e != api.ErrSum || got != nil {
			t.Errorf("Open of %v: %v, %v", b, got, e)
		}
	}
}

// P3.1

func TestSum(t *testing.T) {
	for _, b := range someRows() {
		if got, want := crc.Sum(b), wantedSum(b); got != want {
			t.Errorf("Sum of %d bytes: %d, not %d", len(b), got, want)
		}
		if got, want := crc.Sum(b), crc32.ChecksumIEEE(b); got != want {
			t.Errorf("Sum of %d bytes: %d, the library's is %d", len(b), got, want)
		}
	}
}

func TestMoreOfTwoPieces(t *testing.T) {
	for _, b := range someRows() {
		step := 1 + len(b)/50
		for i := 0; i <= len(b); i += step {
			if got, want := crc.More(crc.Sum(b[:i]), b[i:]), wantedSum(b); got != want {
				t.Fatalf("%d bytes parted at %d: %d, not %d", len(b), i, got, want)
			}
		}
	}
}

func TestMoreOfSeveralPieces(t *testing.T) {
	var n numbers = 3
	for _, b := range someRows() {
		got, left := crc.Sum(nil), b
		for len(left) > 0 {
			part := min(len(left), int(n.next()%uint32(4+len(b)/20))) // none, too
			got = crc.More(got, left[:part])
			left = left[part:]
		}
		if want := wantedSum(b); got != want {
			t.Errorf("%d bytes: %d, not %d", len(b), got, want)
		}
	}
}

func TestMoreByteByByte(t *testing.T) {
	var n numbers = 4
	b := n.bytes(300)
	got := uint32(0)
	for i := range b {
		got = crc.More(got, b[i:i+1])
		if want := wantedSum(b[:i+1]); got != want {
			t.Fatalf("%d bytes: %d, not %d", i+1, got, want)
		}
	}
}

func TestMoreOfAnyNumber(t *testing.T) {
	var n numbers = 5
	for _, sum := range someNumbers() {
		for _, b := range [][]byte{nil, {}} {
			if got := crc.More(sum, b); got != sum {
				t.Errorf("More(%d, nothing): %d", sum, got)
			}
		}
		for _, size := range []int{1, 2, 3, 4, 5, 31, 300} {
			b := n.bytes(size)
			if got, want := crc.More(sum, b), ^register(^sum, b); got != want {
				t.Errorf("More(%d, %v): %d, not %d", sum, b, got, want)
			}
		}
	}
}

func TestSumsChangeNothing(t *testing.T) {
	for _, b := range someRows() {
		row, same := guarded(b)
		crc.Sum(row)
		crc.More(5, row)
		if !same() {
			t.Errorf("%d bytes were changed", len(b))
		}
	}
}

// P3.2

func TestSealAndOpen(t *testing.T) {
	for _, b := range someRows() {
		sealed := crc.Seal(b)
		if !bytes.Equal(sealed, wantedSeal(b)) {
			t.Fatalf("Seal of %d bytes is wrong", len(b))
		}
		if got, e := crc.Open(wantedSeal(b)); e != api.OK || !bytes.Equal(got, b) {
			t.Errorf("Open of %d bytes: %v", len(b), e)
		}
	}
}

func refused(t *testing.T, b []byte) {
	t.Helper()
	if got, e := crc.Open(b); e != api.ErrSum || got != nil {
		t.Errorf("Open of %v: %v, %v", b, got, e)
	}
}

func TestOpenOfFewerThanFour(t *testing.T) {
	for _, b := range [][]byte{nil, {}, {0}, {255}, {0, 0}, {0, 0, 0}, {255, 255, 255}, {67, 190, 183}} {
		refused(t, b)
	}
	// zeroes behind the end of the row are none of its bytes
	refused(t, make([]byte, 3, 8))
	refused(t, make([]byte, 0, 8))
}

func TestOpenOfFour(t *testing.T) {
	if got, e := crc.Open(make([]byte, 4)); e != api.OK || len(got) != 0 {
		t.Errorf("Open of four zeroes: %v, %v", got, e)
	}
	for i := range 32 {
		b := make([]byte, 4)
		b[i/8] = 1 << (i % 8)
		refused(t, b)
	}
	refused(t, bytes.Repeat([]byte{255}, 4))
}

// Each byte, also of the sum, is any other one.
func TestOpenOfAChangedByte(t *testing.T) {
	var n numbers = 6
	for _, size := range []int{0, 1, 2, 5, 20} {
		sealed := wantedSeal(n.bytes(size))
		for i := range sealed {
			for change := 1; change < 256; change++ {
				b := bytes.Clone(sealed)
				b[i] ^= byte(change)
				refused(t, b)
			}
		}
	}
}

func TestOpenOfAnotherOrder(t *testing.T) {
	refused(t, []byte{'a', 232, 183, 190, 67})
	refused(t, []byte{67, 190, 183, 232, 'a'})
	refused(t, []byte{'a', 67 ^ 255, 190 ^ 255, 183 ^ 255, 232 ^ 255})
}

func TestOpenOfMoreOrLess(t *testing.T) {
	var n numbers = 7
	for size := 1; size < 20; size++ {
		sealed := wantedSeal(n.bytes(size))
		refused(t, sealed[1:])
		refused(t, sealed[:len(sealed)-1])
		refused(t, append(bytes.Clone(sealed), 1))
		refused(t, append([]byte{1}, sealed...))
	}
}

func TestSealedTwice(t *testing.T) {
	for _, b := range someRows() {
		once, e := crc.Open(crc.Seal(crc.Seal(b)))
		if e != api.OK || !bytes.Equal(once, wantedSeal(b)) {
			t.Errorf("%d bytes: %v", len(b), e)
		}
	}
}

// keptApart tells whether a call changes nothing of its row, and answers memory that is neither its nor another answer's.
func keptApart(b []byte, call func([]byte) []byte) bool {
	row, same := guarded(b)
	got, again := call(row), call(row)
	if !same() || !bytes.Equal(got, again) {
		return false
	}
	want := bytes.Clone(got)
	spoil(got)
	if !same() || !bytes.Equal(again, want) {
		return false
	}
	spoil(row[:len(row):len(row)])
	return bytes.Equal(again, want)
}

func TestNewMemory(t *testing.T) {
	for _, b := range someRows() {
		if !keptApart(b, crc.Seal) {
			t.Errorf("Seal of %d bytes: not apart", len(b))
		}
		open := func(b []byte) []byte {
			got, _ := crc.Open(b)
			return got
		}
		for _, sealed := range [][]byte{wantedSeal(b), append(wantedSeal(b), 1), b} {
			if !keptApart(sealed, open) {
				t.Errorf("Open of %d bytes: not apart", len(sealed))
			}
		}
	}
}

// P3.3

func together(rows ...[]byte) []byte {
	out := make([]byte, len(rows[0]))
	for _, row := range rows {
		for i, x := range row {
			out[i] ^= x
		}
	}
	return out
}

func TestSumsTogether(t *testing.T) {
	var n numbers = 8
	for _, size := range []int{0, 1, 2, 3, 4, 5, 8, 17, 64, 255, 4096} {
		for range 20 {
			a, b, c := n.bytes(size), n.bytes(size), n.bytes(size)
			if got, want := crc.Sum(a)^crc.Sum(b)^crc.Sum(c), crc.Sum(together(a, b, c)); got != want {
				t.Errorf("%d bytes: %d, not %d", size, got, want)
			}
			if got, want := crc.Sum(a)^crc.Sum(a)^crc.Sum(c), crc.Sum(c); got != want {
				t.Errorf("%d bytes: %d, not %d", size, got, want)
			}
		}
	}
}

// changed is b with bits turned from a place on: bits are counted from the first byte's lowest one on.
func changed(b []byte, place int, change uint32) []byte {
	out := bytes.Clone(b)
	for ; change != 0; change &= change - 1 {
		at := place + bits.TrailingZeros32(change)
		out[at/8] ^= 1 << (at % 8)
	}
	return out
}

// someChanges are of up to 32 bits side by side: all of up to 8 bits, and for each width all bits, the first and the last alone, and others.
func someChanges(n *numbers) []uint32 {
	var row []uint32
	for c := uint32(1); c < 256; c++ {
		row = append(row, c)
	}
	for width := 9; width <= 32; width++ {
		ends := uint32(1) | 1<<(width-1)
		whole := uint32(1<<width - 1)
		row = append(row, whole, ends, n.next()&whole|ends, n.next()&whole|ends)
	}
	return row
}

func TestChangesSideBySideAreSeen(t *testing.T) {
	var n numbers = 9
	for _, size := range []int{1, 4, 5, 33, 200} {
		b := n.bytes(size)
		sum, sealed := crc.Sum(b), crc.Seal(b)
		for _, change := range someChanges(&n) {
			width := bits.Len32(change)
			for place := 0; place+width <= 8*len(b); place++ {
				if crc.Sum(changed(b, place, change)) == sum {
					t.Fatalf("%d bytes: %x at %d isn't seen", size, change, place)
				}
			}
			for place := 0; place+width <= 8*len(sealed); place++ {
				if got, e := crc.Open(changed(sealed, place, change)); e != api.ErrSum || got != nil {
					t.Fatalf("%d bytes sealed: %x at %d isn't seen", size, change, place)
				}
			}
		}
	}
}

// rank is how many of the numbers are no sum (exclusive or) of others.
func rank(row []uint32) int {
	var byTop [33]uint32
	n := 0
	for _, x := range row {
		for x != 0 && byTop[bits.Len32(x)] != 0 {
			x ^= byTop[bits.Len32(x)]
		}
		if x != 0 {
			byTop[bits.Len32(x)] = x
			n++
		}
	}
	return n
}

// By the sums of what is together a change does to the sum what its bits do one by one. If of 32 bits side by side no choice of these comes to nothing, no change there is unseen.
func TestNoChangeOf32BitsIsUnseen(t *testing.T) {
	var n numbers = 10
	for _, size := range []int{4, 5, 40, 517} {
		b := n.bytes(size)
		sum := crc.Sum(b)
		var turns []uint32
		for place := range 8 * size {
			turns = append(turns, crc.Sum(changed(b, place, 1))^sum)
		}
		for i := range 32 { // a bit of the sum itself, behind the bytes
			turns = append(turns, 1<<i)
		}
		for place := 0; place+32 <= len(turns); place++ {
			if got := rank(turns[place : place+32]); got != 32 {
				t.Errorf("%d bytes: at %d a change of 32 bits isn't seen: %d", size, place, got)
			}
		}
	}
}
