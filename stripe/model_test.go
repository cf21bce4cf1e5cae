package stripe_test

import (
	"math"
	"reflect"
	"slices"
	"testing"

	"firkin/api"
	"firkin/stripe"
)

// numbers are the same in each run.
type numbers uint64

func (n *numbers) next() uint64 {
	*n = *n*6364136223846793005 + 1442695040888963407
	return uint64(*n)>>32 | uint64(*n)<<32
}

func (n *numbers) below(limit int) int {
	return int(n.next() & (1<<31 - 1) % uint64(limit))
}

func (n *numbers) bytes(size int) []byte {
	b := make([]byte, size)
	for i := range b {
		b[i] = byte(n.below(256))
	}
	return b
}

func layout(sector, slots int) api.Layout {
	return api.Layout{Sector: sector, Slots: slots, T: 1}
}

// someLayouts are at each bound, and one inside.
func someLayouts() []api.Layout {
	return []api.Layout{
		layout(1, 1), layout(2, 1), layout(255, 1), layout(256, 1), layout(1, 2), layout(4, 2), layout(3, 7), layout(1, 8), layout(255, 7), layout(256, 8),
	}
}

// wrongLayouts are one outside of each bound, and far outside.
func wrongLayouts() []api.Layout {
	wrong := []api.Layout{{}, {T: 1}, layout(257, 1), layout(257, 8), layout(1, 9), layout(256, 9), layout(257, 9)}
	for _, n := range []int{0, -1, -256, math.MinInt, math.MaxInt} {
		wrong = append(wrong, layout(n, 1), layout(n, 8), layout(1, n), layout(256, n), layout(n, n))
	}
	return wrong
}

func someSlot(n *numbers) api.Slot {
	return api.Slot{Key: uint32(n.next()), State: n.below(4), Seq: n.next() >> 16}
}

// fullLeaf is any one that may be, all of whose sectors have bytes.
func fullLeaf(n *numbers, l api.Layout) api.Leaf {
	var x api.Leaf
	for range l.Slots {
		x.Slots = append(x.Slots, someSlot(n))
		x.Sectors = append(x.Sectors, n.bytes(l.Sector))
	}
	return x
}

func fullLeaves(n *numbers, l api.Layout, count int) []api.Leaf {
	var row []api.Leaf
	for range count {
		row = append(row, fullLeaf(n, l))
	}
	return row
}

// someLeaves are any that may be, also with sectors of no bytes, nil and empty.
func someLeaves(n *numbers, l api.Layout, count int) []api.Leaf {
	row := fullLeaves(n, l, count)
	for _, x := range row {
		for i := range x.Sectors {
			switch n.below(6) {
			case 0:
				x.Sectors[i] = nil
			case 1:
				x.Sectors[i] = []byte{}
			}
		}
	}
	return row
}

// noughts is a leaf of nothing but 0.
func noughts(l api.Layout) api.Leaf {
	x := api.Leaf{Slots: make([]api.Slot, l.Slots)}
	for range l.Slots {
		x.Sectors = append(x.Sectors, make([]byte, l.Sector))
	}
	return x
}

func clone(x api.Leaf) api.Leaf {
	x.Slots = slices.Clone(x.Slots)
	x.Sectors = slices.Clone(x.Sectors)
	for i, s := range x.Sectors {
		x.Sectors[i] = slices.Clone(s)
	}
	return x
}

func clones(row []api.Leaf) []api.Leaf {
	row = slices.Clone(row)
	for i, x := range row {
		row[i] = clone(x)
	}
	return row
}

// spoil changes all that is in a leaf.
func spoil(x api.Leaf) {
	for i := range x.Slots {
		x.Slots[i].Key ^= 0xa5a5a5a5
		x.Slots[i].State ^= 3
		x.Slots[i].Seq ^= 0xa5a5a5a5a5a5
	}
	for _, s := range x.Sectors {
		s = s[:cap(s)]
		for i := range s {
			s[i] ^= 0xa5
		}
	}
	for i := range x.Sectors {
		x.Sectors[i] = nil
	}
}

// odd adds two numbers bit by bit: a bit is 1, if it is 1 in just one of them.
func odd(a, b uint64) uint64 {
	sum := uint64(0)
	for bit := range 64 {
		if (a>>bit+b>>bit)%2 == 1 {
			sum += 1 << bit
		}
	}
	return sum
}

// wantedSum is leaves together, in the chapter's words.
func wantedSum(l api.Layout, leaves []api.Leaf) api.Leaf {
	sum := noughts(l)
	for _, x := range leaves {
		for i, s := range x.Slots {
			at := &sum.Slots[i]
			at.Key = uint32(odd(uint64(at.Key), uint64(s.Key)))
			at.State = int(odd(uint64(at.State), uint64(s.State)))
			at.Seq = odd(at.Seq, s.Seq)
		}
		for i, sector := range x.Sectors {
			for k, b := range sector {
				sum.Sectors[i][k] = byte(odd(uint64(sum.Sectors[i][k]), uint64(b)))
			}
		}
	}
	return sum
}

// changed is a leaf, in new memory, with a change.
func changed(x api.Leaf, change func(x *api.Leaf)) api.Leaf {
	x = clone(x)
	change(&x)
	return x
}

// wrongLeaves are those that may not be, each for one reason alone.
func wrongLeaves(n *numbers, l api.Layout) map[string]api.Leaf {
	good := fullLeaf(n, l)
	row := map[string]api.Leaf{
		"nothing":       {},
		"no slots":      {Sectors: good.Sectors},
		"no sectors":    {Slots: good.Slots},
		"a slot less":   {Slots: good.Slots[1:], Sectors: good.Sectors},
		"a slot more":   {Slots: append(slices.Clone(good.Slots), api.Slot{}), Sectors: good.Sectors},
		"a sector less": {Slots: good.Slots, Sectors: good.Sectors[1:]},
		"a sector more": {Slots: good.Slots, Sectors: append(slices.Clone(good.Sectors), nil)},
		"one less each": {Slots: good.Slots[1:], Sectors: good.Sectors[1:]},
		"one more each": {Slots: append(slices.Clone(good.Slots), api.Slot{}), Sectors: append(slices.Clone(good.Sectors), make([]byte, l.Sector))},
		"twice as many": {Slots: slices.Repeat(good.Slots, 2), Sectors: slices.Repeat(good.Sectors, 2)},
		"more than may": {Slots: make([]api.Slot, api.MaxSlots+1), Sectors: make([][]byte, api.MaxSlots+1)},
	}
	for _, i := range []int{0, l.Slots - 1} {
		for _, state := range []int{-1, 4, 5, 257, math.MinInt, math.MaxInt} {
			row["state"+place(i, state)] = changed(good, func(x *api.Leaf) { x.Slots[i].State = state })
		}
		for k, seq := range []uint64{1 << 48, 1<<48 + 1, 1 << 63, math.MaxUint64} {
			row["seq"+place(i, k)] = changed(good, func(x *api.Leaf) { x.Slots[i].Seq = seq })
		}
		for _, size := range []int{l.Sector + 1, 2 * l.Sector, l.Sector - 1, 1, 300} {
			if size != 0 && size != l.Sector {
				row["sector"+place(i, size)] = changed(good, func(x *api.Leaf) { x.Sectors[i] = make([]byte, size) })
			}
		}
	}
	return row
}

// isNothing tells whether a leaf is the zero value.
func isNothing(x api.Leaf) bool {
	return len(x.Slots) == 0 && len(x.Sectors) == 0
}

func wantLeaf(t *testing.T, what string, got api.Leaf, e api.Errno, want api.Leaf) {
	t.Helper()
	if e != api.OK || !reflect.DeepEqual(got, want) {
		t.Fatalf("%s: %+v, %v, not %+v", what, got, e, want)
	}
}

func wantNoLeaf(t *testing.T, what string, got api.Leaf, e api.Errno) {
	t.Helper()
	if e != api.ErrArg || !isNothing(got) {
		t.Errorf("%s: %+v, %v", what, got, e)
	}
}

func made(t *testing.T, l api.Layout, row, width int) *stripe.Open {
	t.Helper()
	o, e := stripe.New(l, row, width)
	if e != api.OK || o == nil {
		t.Fatalf("New(%v, %d, %d): %v, %v", l, row, width, o, e)
	}
	return o
}
