package page_test

import (
	"bytes"
	"hash/crc32"
	"math/bits"
	"testing"

	"firkin/api"
	"firkin/bch"
	"firkin/page"
)

// numbers are the same in each run.
type numbers uint64

func (n *numbers) next() uint64 {
	*n = *n*6364136223846793005 + 1442695040888963407
	return uint64(*n)>>32 | uint64(*n)<<32
}

func (n *numbers) below(limit int) int {
	return int(n.next() & (1<<31 - 1) % uint64(limit))
}

func (n *numbers) bytes(size int) []byte {
	b := make([]byte, size)
	for i := range b {
		b[i] = byte(n.below(256))
	}
	return b
}

// some are so many unlike numbers below a limit; all of them, if there are no more.
func (n *numbers) some(count, limit int) []int {
	row := make([]int, limit)
	for i := range row {
		row[i] = i
	}
	for i := range row {
		k := i + n.below(limit-i)
		row[i], row[k] = row[k], row[i]
	}
	return row[:min(count, limit)]
}

func layout(sector, slots, t int) api.Layout {
	return api.Layout{Sector: sector, Slots: slots, T: t}
}

// someLayouts are small and great ones, with ends of one, two and three bytes.
func someLayouts() []api.Layout {
	return []api.Layout{
		layout(1, 1, 1), layout(4, 1, 1), layout(3, 2, 3), layout(4, 3, 4), layout(16, 2, 2), layout(7, 8, 7), layout(32, 4, 8), layout(256, 8, 8), layout(256, 1, 1), layout(1, 8, 5),
	}
}

func made(t *testing.T, l api.Layout) *page.Framer {
	t.Helper()
	f, e := page.New(l)
	if e != api.OK || f == nil {
		t.Fatalf("New(%v): %v, %v", l, f, e)
	}
	return f
}

func eachFramer(t *testing.T, do func(t *testing.T, l api.Layout, f *page.Framer)) {
	t.Helper()
	for _, l := range someLayouts() {
		do(t, l, made(t, l))
	}
}

// someHead is any one that may be.
func someHead(n *numbers, l api.Layout) api.Head {
	h := api.Head{Kind: 1 + n.below(3), Id: uint32(n.next()), Row: n.below(65536), Place: n.below(256), Width: n.below(256)}
	for range l.Slots {
		h.Slots = append(h.Slots, api.Slot{Key: uint32(n.next()), State: n.below(4), Seq: n.next() >> 16})
	}
	return h
}

func someSectors(n *numbers, l api.Layout) [][]byte {
	var row [][]byte
	for range l.Slots {
		row = append(row, n.bytes(l.Sector))
	}
	return row
}

// low are a number's lowest bytes, the lowest one first.
func low(n uint64, size int) []byte {
	var b []byte
	for range size {
		b = append(b, byte(n%256))
		n /= 256
	}
	return b
}

func slotBytes(s api.Slot) []byte {
	return bytes.Join([][]byte{low(uint64(s.Key), 4), low(uint64(s.State), 1), low(s.Seq, 6)}, nil)
}

func headBytes(h api.Head) []byte {
	b := bytes.Join([][]byte{low(uint64(h.Kind), 1), low(uint64(h.Id), 4), low(uint64(h.Row), 2), low(uint64(h.Place), 1), low(uint64(h.Width), 1)}, nil)
	for _, s := range h.Slots {
		b = append(b, slotBytes(s)...)
	}
	return b
}

func sumBytes(parts ...[]byte) []byte {
	return low(uint64(crc32.ChecksumIEEE(bytes.Join(parts, nil))), 4)
}

// codes are those that were made already, by their bytes and t.
var codes = map[[2]int]*bch.Code{}

// code is that of so many bytes, which bch's own tests hold.
func code(size, t int) *bch.Code {
	at := [2]int{size, t}
	if codes[at] == nil {
		c, e := bch.New(size, t)
		if e != api.OK {
			panic(e)
		}
		codes[at] = c
	}
	return codes[at]
}

// word is a codeword of data and of whatever is said to be their sum.
func word(t int, data, sum []byte) []byte {
	b := append(bytes.Clone(data), sum...)
	parity, e := code(len(b), t).Encode(b)
	if e != api.OK {
		panic(e)
	}
	return append(b, parity...)
}

func sectorWord(t int, s api.Slot, sector []byte) []byte {
	return word(t, sector, sumBytes(slotBytes(s), sector))
}

func headWord(t int, h api.Head) []byte {
	return word(t, headBytes(h), sumBytes(headBytes(h)))
}

// wantedPage is a page in the chapter's words.
func wantedPage(l api.Layout, h api.Head, sectors [][]byte) []byte {
	var b []byte
	for i, s := range sectors {
		if len(s) == 0 {
			s = make([]byte, l.Sector)
		}
		b = append(b, sectorWord(l.T, h.Slots[i], s)...)
	}
	b = append(b, headWord(l.T, h)...)
	return append(b, make([]byte, l.T/4+1)...)
}

// part is where a codeword stands on a page: from a byte on, up to another; its bits that count.
type part struct{ from, to, bits int }

// parts are the codewords of a page, the head's last.
func parts(l api.Layout) []part {
	var row []part
	at := 0
	add := func(size int) {
		c := code(size, l.T)
		row = append(row, part{at, at + size + c.Parity(), 8*size + c.Bits()})
		at += size + c.Parity()
	}
	for range l.Slots {
		add(l.Sector + 4)
	}
	add(9 + 11*l.Slots + 4)
	return row
}

// endOf is where the end begins.
func endOf(l api.Layout) int { return parts(l)[l.Slots].to }

// turned is b with bits turned, of which 0 is that of 128 of the byte 0.
func turned(b []byte, places ...int) []byte {
	out := bytes.Clone(b)
	for _, k := range places {
		out[k/8] ^= 128 >> (k % 8)
	}
	return out
}

// set is b with other bytes from a place on.
func set(b []byte, at int, others []byte) []byte {
	out := bytes.Clone(b)
	copy(out[at:], others)
	return out
}

func zeros(b []byte) int {
	n := 0
	for _, x := range b {
		n += 8 - bits.OnesCount8(x)
	}
	return n
}

// decoded is a codeword set right, without its parity.
func decoded(l api.Layout, b []byte, p part, size int) ([]byte, int, bool) {
	d, _, n, e := code(size, l.T).Decode(b[p.from:p.from+size], b[p.from+size:p.to])
	return d, n, e == api.OK
}

func verdict(flips int) int {
	if flips == 0 {
		return api.WordClean
	}
	return api.WordFixed
}

// modelHead is the head of a codeword, and whether it may be read.
func modelHead(l api.Layout, b []byte) (api.Head, int, bool) {
	size := 9 + 11*l.Slots
	d, n, ok := decoded(l, b, parts(l)[l.Slots], size+4)
	if !ok || !bytes.Equal(d[size:], sumBytes(d[:size])) {
		return api.Head{}, 0, false
	}
	number := func(at, size int) uint64 {
		v := uint64(0)
		for i := size; i > 0; i-- {
			v = v*256 + uint64(d[at+i-1])
		}
		return v
	}
	h := api.Head{Kind: int(d[0]), Id: uint32(number(1, 4)), Row: int(number(5, 2)), Place: int(d[7]), Width: int(d[8])}
	ok = h.Kind >= 1 && h.Kind <= 3
	for i := range l.Slots {
		at := 9 + 11*i
		h.Slots = append(h.Slots, api.Slot{Key: uint32(number(at, 4)), State: int(d[at+4]), Seq: number(at+5, 6)})
		ok = ok && d[at+4] <= 3
	}
	return h, n, ok
}

// badPage is what is told of a page whose head can't be read.
func badPage(l api.Layout) api.Opened {
	o := api.Opened{Whole: api.WordBad, Sectors: make([][]byte, l.Slots)}
	for range l.Slots {
		o.Words = append(o.Words, api.WordBad)
	}
	return o
}

// wantedOpened is what bytes of a page say, in the chapter's words.
func wantedOpened(l api.Layout, b []byte) api.Opened {
	if zeros(b) <= l.T {
		return api.Opened{Erased: true}
	}
	o := badPage(l)
	end := b[endOf(l):]
	h, n, ok := modelHead(l, b)
	if 8*len(end)-zeros(end) > l.T || !ok {
		return o
	}
	o.Whole, o.Head, o.Flips = verdict(n), h, n
	for i, p := range parts(l)[:l.Slots] {
		d, n, ok := decoded(l, b, p, l.Sector+4)
		if ok && bytes.Equal(d[l.Sector:], sumBytes(slotBytes(h.Slots[i]), d[:l.Sector])) {
			o.Words[i], o.Sectors[i] = verdict(n), d[:l.Sector]
			o.Flips += n
		}
	}
	return o
}
