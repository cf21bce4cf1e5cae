package page_test

import (
	"bytes"
	"math"
	"reflect"
	"slices"
	"testing"

	"firkin/api"
	"firkin/page"
)

func packed(t *testing.T, f *page.Framer, h api.Head, sectors [][]byte) []byte {
	t.Helper()
	b, e := f.Pack(h, sectors)
	if e != api.OK {
		t.Fatalf("Pack(%v): %v", h, e)
	}
	return b
}

// anyPage is a page of what may be, with its head and sectors.
func anyPage(t *testing.T, n *numbers, f *page.Framer) (api.Head, [][]byte, []byte) {
	t.Helper()
	h, sectors := someHead(n, f.Layout()), someSectors(n, f.Layout())
	return h, sectors, packed(t, f, h, sectors)
}

// wantOpened holds Unpack against what it must answer.
func wantOpened(t *testing.T, f *page.Framer, b []byte, want api.Opened) {
	t.Helper()
	got, e := f.Unpack(b)
	if e != api.OK || !reflect.DeepEqual(got, want) {
		t.Errorf("Unpack(%v) of %v: %+v, %v, not %+v", b, f.Layout(), got, e, want)
	}
}

// clean is what is told of a page none of whose bits is turned.
func clean(h api.Head, sectors [][]byte) api.Opened {
	o := api.Opened{Whole: api.WordClean, Head: h, Sectors: slices.Clone(sectors)}
	for range sectors {
		o.Words = append(o.Words, api.WordClean)
	}
	return o
}

// The chapter's examples

func TestExamples(t *testing.T) {
	l := layout(4, 1, 1)
	f := made(t, l)
	if got := f.Bytes(); got != 35 {
		t.Errorf("Bytes: %d, not 35", got)
	}
	b := bytes.Repeat([]byte{255}, 35)
	wantOpened(t, f, b, api.Opened{Erased: true})
	wantOpened(t, f, turned(b, 77), api.Opened{Erased: true})
	wantOpened(t, f, turned(b, 77, 200), badPage(l))
}

// P5.1

// No layout within the other bounds has a page of more than 2290 bytes, so that each of them may be.
func TestNewOfEachLayout(t *testing.T) {
	for sector := 1; sector <= api.MaxSector; sector++ {
		for slots := 1; slots <= api.MaxSlots; slots++ {
			for k := 1; k <= api.MaxT; k++ {
				l := layout(sector, slots, k)
				if slots > 1 && slots < api.MaxSlots && sector%32 != 1 {
					continue
				}
				f := made(t, l)
				want := endOf(l) + k/4 + 1
				if f.Layout() != l || f.Bytes() != want || want > api.MaxBytes {
					t.Fatalf("New(%v): %v, %d bytes, not %d", l, f.Layout(), f.Bytes(), want)
				}
			}
		}
	}
}

func TestBytes(t *testing.T) {
	for l, want := range map[api.Layout]int{
		layout(4, 1, 1):   35,   // 8 and 1, 24 and 1, 1
		layout(1, 1, 1):   32,   // 5 and 1, 24 and 1, 1
		layout(1, 1, 8):   48,   // 5 and 7, 24 and 9, 3
		layout(4, 2, 3):   62,   // 8 and 3, twice, 35 and 4, 1
		layout(4, 2, 4):   66,   // 8 and 4, twice, 35 and 5, 2
		layout(256, 8, 8): 2290, // 260 and 12, eight times, 101 and 10, 3
	} {
		if got := made(t, l).Bytes(); got != want {
			t.Errorf("Bytes of %v: %d, not %d", l, got, want)
		}
	}
}

func TestNewOfWhatMayNotBe(t *testing.T) {
	wrong := []api.Layout{{}}
	for _, n := range []int{0, -1, math.MinInt, math.MaxInt} {
		wrong = append(wrong, layout(n, 1, 1), layout(4, n, 1), layout(4, 1, n), layout(n, n, n))
	}
	wrong = append(wrong, layout(257, 1, 1), layout(4, 9, 1), layout(4, 1, 9), layout(257, 8, 8), layout(256, 9, 8), layout(256, 8, 9))
	for _, l := range wrong {
		if f, e := page.New(l); f != nil || e != api.ErrArg {
			t.Errorf("New(%v): %v, %v", l, f, e)
		}
	}
}

func TestNoFramer(t *testing.T) {
	l := layout(4, 1, 1)
	var n numbers = 1
	_, _, b := anyPage(t, &n, made(t, l))
	for _, f := range []*page.Framer{nil, {}} {
		if f.Layout() != (api.Layout{}) || f.Bytes() != 0 {
			t.Errorf("Layout %v, Bytes %d", f.Layout(), f.Bytes())
		}
		for _, h := range []api.Head{{}, {Kind: api.PageData}, someHead(&n, l)} {
			for _, sectors := range [][][]byte{nil, {}, {nil}, {[]byte("abcd")}} {
				if got, e := f.Pack(h, sectors); got != nil || e != api.ErrArg {
					t.Errorf("Pack: %v, %v", got, e)
				}
			}
		}
		for _, b := range [][]byte{nil, {}, {0}, b} {
			if got, e := f.Unpack(b); !reflect.DeepEqual(got, api.Opened{}) || e != api.ErrArg {
				t.Errorf("Unpack: %v, %v", got, e)
			}
		}
	}
}

// P5.2

// A page whose bytes are worked out by hand, but for sums and parity.
func TestEachByteAtItsPlace(t *testing.T) {
	f := made(t, layout(4, 2, 1))
	h := api.Head{Kind: api.PageParity, Id: 0x04030201, Row: 0x0605, Place: 7, Width: 8, Slots: []api.Slot{
		{Key: 0x0c0b0a09, State: api.SlotTrim, Seq: 0x1211100f0e0d},
		{Key: 0x16151413, State: api.SlotLost, Seq: 0x1c1b1a191817},
	}}
	b := packed(t, f, h, [][]byte{[]byte("abcd"), []byte("efgh")})
	if string(b[:4]) != "abcd" || string(b[9:13]) != "efgh" {
		t.Errorf("sectors: %v", b)
	}
	want := []byte{2, 1, 2, 3, 4, 5, 6, 7, 8, 9, 10, 11, 12, 2, 13, 14, 15, 16, 17, 18, 19, 20, 21, 22, 3, 23, 24, 25, 26, 27, 28}
	if !bytes.Equal(b[18:49], want) {
		t.Errorf("head: %v, not %v", b[18:49], want)
	}
	if sum := sumBytes([]byte{9, 10, 11, 12, 2, 13, 14, 15, 16, 17, 18, 'a', 'b', 'c', 'd'}); !bytes.Equal(b[4:8], sum) {
		t.Errorf("the first sector's sum: %v, not %v", b[4:8], sum)
	}
	if sum := sumBytes(want); !bytes.Equal(b[49:53], sum) {
		t.Errorf("the head's sum: %v, not %v", b[49:53], sum)
	}
	if b[len(b)-1] != 0 || len(b) != f.Bytes() {
		t.Errorf("%d bytes, the last one %d", len(b), b[len(b)-1])
	}
}

func TestPack(t *testing.T) {
	var n numbers = 2
	eachFramer(t, func(t *testing.T, l api.Layout, f *page.Framer) {
		for range 20 {
			h, sectors, b := anyPage(t, &n, f)
			if want := wantedPage(l, h, sectors); !bytes.Equal(b, want) {
				t.Errorf("Pack(%v, %v) of %v: %v, not %v", h, sectors, l, b, want)
			}
		}
	})
}

func TestPackOfEdges(t *testing.T) {
	var n numbers = 3
	l := layout(4, 2, 2)
	f := made(t, l)
	for _, change := range []func(h *api.Head){
		func(h *api.Head) { h.Kind = api.PageData },
		func(h *api.Head) { h.Kind = api.PageParity },
		func(h *api.Head) { h.Kind = api.PagePad },
		func(h *api.Head) { h.Id = 0 },
		func(h *api.Head) { h.Id = math.MaxUint32 },
		func(h *api.Head) { h.Row, h.Place, h.Width = 0, 0, 0 },
		func(h *api.Head) { h.Row, h.Place, h.Width = 65535, 255, 255 },
		func(h *api.Head) { h.Slots[0] = api.Slot{} },
		func(h *api.Head) { h.Slots[1] = api.Slot{Key: math.MaxUint32, State: api.SlotLost, Seq: 1<<48 - 1} },
	} {
		h, sectors := someHead(&n, l), someSectors(&n, l)
		change(&h)
		b := packed(t, f, h, sectors)
		if !bytes.Equal(b, wantedPage(l, h, sectors)) {
			t.Errorf("Pack(%v): %v", h, b)
		}
		wantOpened(t, f, b, clean(h, sectors))
	}
}

func TestPackOfHeadsThatMayNotBe(t *testing.T) {
	var n numbers = 4
	l := layout(4, 2, 2)
	f := made(t, l)
	for i, change := range []func(h *api.Head){
		func(h *api.Head) { h.Kind = 0 },
		func(h *api.Head) { h.Kind = 4 },
		func(h *api.Head) { h.Kind = -1 },
		func(h *api.Head) { h.Kind = 257 },
		func(h *api.Head) { h.Row = -1 },
		func(h *api.Head) { h.Row = 65536 },
		func(h *api.Head) { h.Row = math.MaxInt },
		func(h *api.Head) { h.Place = -1 },
		func(h *api.Head) { h.Place = 256 },
		func(h *api.Head) { h.Width = -1 },
		func(h *api.Head) { h.Width = 256 },
		func(h *api.Head) { h.Slots = nil },
		func(h *api.Head) { h.Slots = h.Slots[:1] },
		func(h *api.Head) { h.Slots = append(h.Slots, api.Slot{}) },
		func(h *api.Head) { h.Slots[0].State = -1 },
		func(h *api.Head) { h.Slots[0].State = 4 },
		func(h *api.Head) { h.Slots[1].State = 4 },
		func(h *api.Head) { h.Slots[1].State = 256 },
		func(h *api.Head) { h.Slots[0].Seq = 1 << 48 },
		func(h *api.Head) { h.Slots[1].Seq = 1 << 48 },
		func(h *api.Head) { h.Slots[1].Seq = math.MaxUint64 },
		func(h *api.Head) { *h = api.Head{} },
	} {
		h := someHead(&n, l)
		change(&h)
		if b, e := f.Pack(h, someSectors(&n, l)); b != nil || e != api.ErrArg {
			t.Errorf("head %d, %v: %v, %v", i, h, b, e)
		}
	}
}

func TestPackOfSectorsThatMayNotBe(t *testing.T) {
	var n numbers = 5
	l := layout(4, 2, 2)
	f := made(t, l)
	a := []byte("abcd")
	for _, sectors := range [][][]byte{
		nil, {}, {a}, {a, a, a}, {a, a, nil}, {nil}, {nil, nil, nil},
		{a, a[:3]}, {a[:3], a}, {a, a[:1]}, {a, []byte("abcde")}, {[]byte("abcde"), a}, {nil, a[:3]}, {make([]byte, 8), nil},
	} {
		if b, e := f.Pack(someHead(&n, l), sectors); b != nil || e != api.ErrArg {
			t.Errorf("Pack of %v: %v, %v", sectors, b, e)
		}
	}
}

func TestSectorOfNoBytes(t *testing.T) {
	var n numbers = 6
	eachFramer(t, func(t *testing.T, l api.Layout, f *page.Framer) {
		for _, none := range [][]byte{nil, {}} {
			for i := range l.Slots {
				h, sectors := someHead(&n, l), someSectors(&n, l)
				sectors[i] = none
				b := packed(t, f, h, sectors)
				sectors[i] = make([]byte, l.Sector)
				if !bytes.Equal(b, packed(t, f, h, sectors)) {
					t.Errorf("Pack of %v, of no bytes at %d: %v", l, i, b)
				}
				wantOpened(t, f, b, clean(h, sectors))
			}
		}
	})
}

// guarded is b in the middle of other bytes, and a check that they all are as they were.
func guarded(b []byte) ([]byte, func() bool) {
	all := append(append([]byte{9, 9, 9}, b...), 7, 7, 7, 7, 7, 7, 7, 7)
	before := bytes.Clone(all)
	return all[3 : 3+len(b)], func() bool { return bytes.Equal(all, before) }
}

// spoil writes over a row, and over what room it has behind its end.
func spoil(b []byte) {
	b = b[:cap(b)]
	for i := range b {
		b[i] ^= 255
	}
}

func TestPackChangesNothing(t *testing.T) {
	var n numbers = 7
	eachFramer(t, func(t *testing.T, l api.Layout, f *page.Framer) {
		h := someHead(&n, l)
		h.Slots = append(h.Slots, api.Slot{Key: 99, State: 99})[:l.Slots]
		slots := slices.Clone(h.Slots[:l.Slots+1])
		sectors := make([][]byte, l.Slots, l.Slots+1)
		kept := make([][]byte, l.Slots)
		checks := make([]func() bool, l.Slots)
		for i := range sectors {
			kept[i] = n.bytes(l.Sector)
			sectors[i], checks[i] = guarded(kept[i])
		}
		b := packed(t, f, h, sectors)
		spoil(b)
		for i, check := range checks {
			if !check() || len(sectors[i]) != l.Sector {
				t.Errorf("Pack of %v changed the sector %d", l, i)
			}
		}
		if !slices.Equal(h.Slots[:l.Slots+1], slots) || sectors[:l.Slots+1][l.Slots] != nil {
			t.Errorf("Pack of %v changed the slots, or the row of sectors", l)
		}
		if !bytes.Equal(packed(t, f, h, sectors), wantedPage(l, h, kept)) {
			t.Errorf("Pack of %v: its answer is not new memory", l)
		}
	})
}

// P5.3

func TestUnpackOfOtherLengths(t *testing.T) {
	var n numbers = 8
	eachFramer(t, func(t *testing.T, l api.Layout, f *page.Framer) {
		_, _, b := anyPage(t, &n, f)
		full := bytes.Repeat([]byte{255}, len(b)+1)
		for _, b := range [][]byte{nil, {}, b[1:], b[:len(b)-1], append(bytes.Clone(b), 0), append(bytes.Clone(b), 255), append(b, b...), full, full[2:]} {
			if got, e := f.Unpack(b); !reflect.DeepEqual(got, api.Opened{}) || e != api.ErrArg {
				t.Errorf("Unpack of %d bytes, of %v: %v, %v", len(b), l, got, e)
			}
		}
	})
}

func TestErased(t *testing.T) {
	var n numbers = 9
	eachFramer(t, func(t *testing.T, l api.Layout, f *page.Framer) {
		full := bytes.Repeat([]byte{255}, f.Bytes())
		for count := range 3 * l.T {
			want := api.Opened{Erased: true}
			if count > l.T {
				want = badPage(l)
			}
			for range 5 {
				wantOpened(t, f, turned(full, n.some(count, 8*len(full))...), want)
			}
			first, last := make([]int, count), make([]int, count)
			for i := range first {
				first[i], last[i] = i, 8*len(full)-1-i
			}
			wantOpened(t, f, turned(full, first...), want)
			if count <= l.T {
				wantOpened(t, f, turned(full, last...), want)
			}
		}
	})
}

// A page of bytes 0 is none: sums of bytes that are not nothing are not 0.
func TestPageOfZeros(t *testing.T) {
	eachFramer(t, func(t *testing.T, l api.Layout, f *page.Framer) {
		wantOpened(t, f, make([]byte, f.Bytes()), badPage(l))
	})
}

func TestTurnedBitsOfTheEnd(t *testing.T) {
	var n numbers = 10
	eachFramer(t, func(t *testing.T, l api.Layout, f *page.Framer) {
		h, sectors, b := anyPage(t, &n, f)
		from, size := 8*endOf(l), 8*(l.T/4+1)
		for count := range size + 1 {
			places := n.some(count, size)
			for i := range places {
				places[i] += from
			}
			want := clean(h, sectors)
			if count > l.T {
				want = badPage(l)
			}
			wantOpened(t, f, turned(b, places...), want)
		}
	})
}

// turnedIn are places of so many of a codeword's bits that count.
func turnedIn(n *numbers, p part, count int) []int {
	places := n.some(count, p.bits)
	for i := range places {
		places[i] += 8 * p.from
	}
	return places
}

// isBad tells whether a codeword can't be set right.
func isBad(l api.Layout, b []byte, p part, size int) bool {
	_, _, ok := decoded(l, b, p, size)
	return !ok
}

func TestHeadsThatCannotBeSetRight(t *testing.T) {
	var n numbers = 11
	eachFramer(t, func(t *testing.T, l api.Layout, f *page.Framer) {
		p := parts(l)[l.Slots]
		bad := 0
		for range 40 {
			_, _, b := anyPage(t, &n, f)
			b = turned(b, turnedIn(&n, p, l.T+1)...)
			if isBad(l, b, p, 13+11*l.Slots) {
				bad++
			}
			wantOpened(t, f, b, badPage(l)) // else the sum is wrong
		}
		if bad == 0 {
			t.Errorf("of %v each head was set right", l)
		}
	})
}

func TestHeadsOfAnotherSum(t *testing.T) {
	var n numbers = 12
	eachFramer(t, func(t *testing.T, l api.Layout, f *page.Framer) {
		at := parts(l)[l.Slots].from
		for i := range 32 {
			h, _, b := anyPage(t, &n, f)
			sum := sumBytes(headBytes(h))
			wantOpened(t, f, set(b, at, word(l.T, headBytes(h), turned(sum, i))), badPage(l))
			wantOpened(t, f, set(b, at, word(l.T, headBytes(h), n.bytes(4))), badPage(l))
			other := turned(headBytes(h), n.below(8*(9+11*l.Slots)))
			wantOpened(t, f, set(b, at, word(l.T, other, sum)), badPage(l))
		}
	})
}

func TestHeadsThatMayNotBe(t *testing.T) {
	var n numbers = 13
	eachFramer(t, func(t *testing.T, l api.Layout, f *page.Framer) {
		at := parts(l)[l.Slots].from
		for _, x := range []byte{0, 1, 2, 3, 4, 5, 128, 129, 255} {
			for _, place := range []int{0, 9 + 4, 9 + 11*(l.Slots-1) + 4} {
				h, sectors, b := anyPage(t, &n, f)
				raw := headBytes(h)
				raw[place] = x
				b = set(b, at, word(l.T, raw, sumBytes(raw)))
				may := x <= 3
				if place == 0 {
					may = x >= 1 && x <= 3
					h.Kind = int(x)
				} else {
					h.Slots[(place-9)/11].State = int(x)
				}
				if !may {
					wantOpened(t, f, b, badPage(l))
					continue
				}
				for i, s := range sectors {
					b = set(b, parts(l)[i].from, sectorWord(l.T, h.Slots[i], s))
				}
				wantOpened(t, f, b, clean(h, sectors))
			}
		}
	})
}

// without is what is told where a slot is bad.
func without(o api.Opened, i int) api.Opened {
	o.Words, o.Sectors = slices.Clone(o.Words), slices.Clone(o.Sectors)
	o.Words[i], o.Sectors[i] = api.WordBad, nil
	return o
}

func TestSlotsThatCannotBeSetRight(t *testing.T) {
	var n numbers = 14
	eachFramer(t, func(t *testing.T, l api.Layout, f *page.Framer) {
		bad := 0
		for i, p := range parts(l)[:l.Slots] {
			for range 20 {
				h, sectors, b := anyPage(t, &n, f)
				b = turned(b, turnedIn(&n, p, l.T+1)...)
				if isBad(l, b, p, l.Sector+4) {
					bad++
				}
				wantOpened(t, f, b, without(clean(h, sectors), i))
			}
		}
		if bad == 0 {
			t.Errorf("of %v each slot was set right", l)
		}
	})
}

// A slot whose own last four bytes are the sum of those ahead of them is no sector's.
func TestSlotThatSumsItself(t *testing.T) {
	var n numbers = 26
	eachFramer(t, func(t *testing.T, l api.Layout, f *page.Framer) {
		p := parts(l)[0]
		for range 20 {
			h, sectors := someHead(&n, l), someSectors(&n, l)
			for i, x := range sumBytes(slotBytes(h.Slots[0])[:7]) {
				h.Slots[0].Seq &^= 255 << (16 + 8*i)
				h.Slots[0].Seq |= uint64(x) << (16 + 8*i)
			}
			b := packed(t, f, h, sectors)
			wantOpened(t, f, b, clean(h, sectors))
			wantOpened(t, f, turned(b, turnedIn(&n, p, l.T+1)...), without(clean(h, sectors), 0))
		}
	})
}

func TestSlotsOfAnotherSum(t *testing.T) {
	var n numbers = 15
	eachFramer(t, func(t *testing.T, l api.Layout, f *page.Framer) {
		for i, p := range parts(l)[:l.Slots] {
			h, sectors, b := anyPage(t, &n, f)
			want := without(clean(h, sectors), i)
			sum := sumBytes(slotBytes(h.Slots[i]), sectors[i])
			for k := range 32 {
				wantOpened(t, f, set(b, p.from, word(l.T, sectors[i], turned(sum, k))), want)
			}
			for k := range 8 * l.Sector {
				wantOpened(t, f, set(b, p.from, word(l.T, turned(sectors[i], k), sum)), want)
			}
			wantOpened(t, f, set(b, p.from, word(l.T, sectors[i], sumBytes(sectors[i]))), want)
			wantOpened(t, f, set(b, p.from, word(l.T, sectors[i], sumBytes(sectors[i], slotBytes(h.Slots[i])))), want)
			wantOpened(t, f, set(b, p.from, make([]byte, p.to-p.from)), want) // the codeword of bytes 0 is clean
		}
	})
}

func TestSectorsInAnotherSlot(t *testing.T) {
	var n numbers = 16
	eachFramer(t, func(t *testing.T, l api.Layout, f *page.Framer) {
		if l.Slots == 1 {
			return
		}
		h, sectors, b := anyPage(t, &n, f)
		p, q := parts(l)[0], parts(l)[l.Slots-1]
		swapped := set(set(b, p.from, b[q.from:q.to]), q.from, b[p.from:p.to])
		wantOpened(t, f, swapped, without(without(clean(h, sectors), 0), l.Slots-1))
		twice := set(b, p.from, b[q.from:q.to])
		wantOpened(t, f, twice, without(clean(h, sectors), 0))
	})
}

func TestHeadWhoseSlotSaysSomethingElse(t *testing.T) {
	var n numbers = 17
	eachFramer(t, func(t *testing.T, l api.Layout, f *page.Framer) {
		for i := range l.Slots {
			for _, change := range []func(s *api.Slot){
				func(s *api.Slot) { s.Key ^= 1 << 31 },
				func(s *api.Slot) { s.Key++ },
				func(s *api.Slot) { s.State ^= 1 },
				func(s *api.Slot) { s.Seq ^= 1 << 47 },
				func(s *api.Slot) { s.Seq ^= 1 },
			} {
				h, sectors, b := anyPage(t, &n, f)
				change(&h.Slots[i])
				b = set(b, parts(l)[l.Slots].from, headWord(l.T, h))
				wantOpened(t, f, b, without(clean(h, sectors), i))
			}
		}
	})
}

// Another Kind, Id, Row, Place or Width is none of the sectors' business.
func TestHeadOfOtherFields(t *testing.T) {
	var n numbers = 18
	eachFramer(t, func(t *testing.T, l api.Layout, f *page.Framer) {
		h, sectors, b := anyPage(t, &n, f)
		slots := h.Slots
		h = someHead(&n, l)
		h.Slots = slots
		b = set(b, parts(l)[l.Slots].from, headWord(l.T, h))
		wantOpened(t, f, b, clean(h, sectors))
	})
}

func TestFlips(t *testing.T) {
	var n numbers = 19
	eachFramer(t, func(t *testing.T, l api.Layout, f *page.Framer) {
		for i, p := range parts(l) {
			for count := 1; count <= l.T; count++ {
				h, sectors, b := anyPage(t, &n, f)
				want := clean(h, sectors)
				want.Flips = count
				if i == l.Slots {
					want.Whole = api.WordFixed
				} else {
					want.Words[i] = api.WordFixed
				}
				wantOpened(t, f, turned(b, turnedIn(&n, p, count)...), want)
			}
		}
	})
}

// What is set right in a codeword that is bad by its sum counts for nothing, nor does anything of a page whose head is bad.
func TestFlipsOfBadCodewords(t *testing.T) {
	var n numbers = 20
	eachFramer(t, func(t *testing.T, l api.Layout, f *page.Framer) {
		all := parts(l)
		h, sectors, b := anyPage(t, &n, f)
		spoilt := set(b, all[0].from, word(l.T, sectors[0], []byte{1, 2, 3, 4}))
		want := without(clean(h, sectors), 0)
		wantOpened(t, f, turned(spoilt, turnedIn(&n, all[0], 1)...), want)
		want.Flips, want.Whole = 1, api.WordFixed
		both := append(turnedIn(&n, all[0], 1), turnedIn(&n, all[l.Slots], 1)...)
		wantOpened(t, f, turned(spoilt, both...), want)
		headless := set(b, all[l.Slots].from, word(l.T, headBytes(h), []byte{1, 2, 3, 4}))
		wantOpened(t, f, turned(headless, both...), badPage(l))
		ended := set(b, endOf(l), []byte{255, 255, 255})
		wantOpened(t, f, turned(ended, both...), badPage(l))
	})
}

// The bits of a parity's last byte that are nothing are neither looked at nor counted.
func TestBitsBehindAParity(t *testing.T) {
	var n numbers = 21
	eachFramer(t, func(t *testing.T, l api.Layout, f *page.Framer) {
		for _, p := range parts(l) {
			h, sectors, b := anyPage(t, &n, f)
			for k := 8*p.from + p.bits; k < 8*p.to; k++ {
				b = turned(b, k)
			}
			wantOpened(t, f, b, clean(h, sectors))
		}
	})
}

func TestUnpackChangesNothing(t *testing.T) {
	var n numbers = 22
	eachFramer(t, func(t *testing.T, l api.Layout, f *page.Framer) {
		h, sectors, b := anyPage(t, &n, f)
		for i, p := range parts(l) {
			b = turned(b, turnedIn(&n, p, i%2)...)
		}
		in, check := guarded(b)
		o, e := f.Unpack(in)
		if e != api.OK || !check() {
			t.Errorf("Unpack of %v changed what it was handed", l)
		}
		kept := slices.Clone(o.Sectors)
		for i, s := range kept { // each one after another: none is another one's memory
			if !bytes.Equal(s, sectors[i]) || !slices.Equal(o.Head.Slots, h.Slots) {
				t.Errorf("Unpack of %v: the answer's lists share memory", l)
			}
			spoil(s)
		}
		if !check() {
			t.Errorf("Unpack of %v: its answer is not new memory", l)
		}
		clear(o.Head.Slots)
		clear(o.Words)
		clear(o.Sectors)
		wantOpened(t, f, in, wantedOpened(l, b))
	})
}

// Any damage, held against the chapter's words.
func TestUnpackOfAnyDamage(t *testing.T) {
	var n numbers = 23
	eachFramer(t, func(t *testing.T, l api.Layout, f *page.Framer) {
		all := append(parts(l), part{endOf(l), f.Bytes(), 8 * (l.T/4 + 1)})
		for range 60 {
			_, _, b := anyPage(t, &n, f)
			for _, p := range all {
				count := n.below(l.T + 1)
				if n.below(4*len(all)) == 0 {
					count = l.T + 1 + n.below(3)
				}
				b = turned(b, turnedIn(&n, p, count)...)
			}
			wantOpened(t, f, b, wantedOpened(l, b))
		}
		for range 20 {
			b := n.bytes(f.Bytes())
			wantOpened(t, f, b, wantedOpened(l, b))
		}
	})
}

// P5.4

func TestUnpackedAsItWasPacked(t *testing.T) {
	var n numbers = 24
	eachFramer(t, func(t *testing.T, l api.Layout, f *page.Framer) {
		end := part{endOf(l), f.Bytes(), 8 * (l.T/4 + 1)}
		for k := range 2 * (l.T + 1) {
			h, sectors, b := anyPage(t, &n, f)
			want := clean(h, sectors)
			wantOpened(t, f, b, want)
			for i, p := range parts(l) {
				count := min(k, l.T) // at last all of them have T
				b = turned(b, turnedIn(&n, p, count)...)
				want.Flips += count
				if i < l.Slots {
					want.Words[i] = verdict(count)
				}
				want.Whole = verdict(count)
			}
			b = turned(b, turnedIn(&n, end, min(k, l.T))...)
			wantOpened(t, f, b, want)
		}
	})
}

// wantNothing asks for a page of which nothing is read.
func wantNothing(t *testing.T, f *page.Framer, b []byte) {
	t.Helper()
	o, e := f.Unpack(b)
	want := badPage(f.Layout())
	if o.Erased {
		want = api.Opened{Erased: true}
	}
	if e != api.OK || !reflect.DeepEqual(o, want) {
		t.Errorf("Unpack(%v) of %v: %+v, %v", b, f.Layout(), o, e)
	}
}

func TestNothingIsReadOfPagesThatWereCut(t *testing.T) {
	var n numbers = 25
	eachFramer(t, func(t *testing.T, l api.Layout, f *page.Framer) {
		end := part{endOf(l), f.Bytes(), 8 * (l.T/4 + 1)}
		step := 1 + f.Bytes()/200
		for at := 0; at <= end.from; at += step {
			_, _, b := anyPage(t, &n, f)
			b = set(b, at, bytes.Repeat([]byte{255}, len(b)-at))
			wantNothing(t, f, b)
			wantNothing(t, f, turned(b, n.some(n.below(l.T+1), 8*len(b))...))
			wantNothing(t, f, turned(b, n.some(l.T, 8*len(b))...))
			wantNothing(t, f, turned(b, turnedIn(&n, end, l.T)...))
		}
		_, _, b := anyPage(t, &n, f)
		b = set(b, end.from, []byte{255, 255, 255})
		wantOpened(t, f, b, badPage(l))
		wantOpened(t, f, turned(b, turnedIn(&n, end, l.T)...), badPage(l))
	})
}
