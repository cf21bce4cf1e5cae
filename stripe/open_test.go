package stripe_test

import (
	"math"
	"reflect"
	"testing"

	"firkin/api"
	"firkin/stripe"
)

// P6.4

// wantRow holds Left and Parity against what was added.
func wantRow(t *testing.T, o *stripe.Open, l api.Layout, row, width int, leaves []api.Leaf) {
	t.Helper()
	if got, want := o.Left(), width-1-len(leaves); got != want {
		t.Fatalf("Left of row %d of %d with %d leaves: %d, not %d", row, width, len(leaves), got, want)
	}
	x, at, e := o.Parity()
	wantLeaf(t, "Parity"+place(row, width, len(leaves)), x, e, wantedSum(l, leaves))
	if want := width - 1 - row%width; at != want {
		t.Fatalf("the parity's place in row %d of %d: %d, not %d", row, width, at, want)
	}
}

// others are the places of a row that aren't the parity's.
func others(row, width int) []int {
	var places []int
	for at := range width {
		if at != width-1-row%width {
			places = append(places, at)
		}
	}
	return places
}

func wantFull(t *testing.T, o *stripe.Open, x api.Leaf) {
	t.Helper()
	if at, e := o.Add(x); at != 0 || e != api.ErrFull {
		t.Fatalf("Add to a full row: %d, %v", at, e)
	}
}

// filledRow goes through a row from its beginning on till it is full, and beyond.
func filledRow(t *testing.T, n *numbers, l api.Layout, row, width int) {
	t.Helper()
	o := made(t, l, row, width)
	leaves := someLeaves(n, l, width-1)
	wantRow(t, o, l, row, width, nil)
	for i, want := range others(row, width) {
		at, e := o.Add(leaves[i])
		if at != want || e != api.OK {
			t.Fatalf("Add %d to row %d of %d: %d, %v, not %d", i, row, width, at, e, want)
		}
		wantRow(t, o, l, row, width, leaves[:i+1])
	}
	for range 2 {
		wantFull(t, o, fullLeaf(n, l))
		wantRow(t, o, l, row, width, leaves)
	}
}

func TestRows(t *testing.T) {
	var n numbers = 1
	for _, l := range someLayouts() {
		for _, width := range []int{2, 3, 5} {
			for row := range width + 2 {
				filledRow(t, &n, l, row, width)
			}
		}
	}
}

func TestWidestRows(t *testing.T) {
	var n numbers = 2
	for _, width := range []int{254, 255} {
		for _, row := range []int{0, 1, 128, width - 1, width, math.MaxInt} {
			filledRow(t, &n, layout(2, 2), row, width)
		}
	}
}

func TestNewOfWhatMayNotBe(t *testing.T) {
	wrong := func(l api.Layout, row, width int) {
		if o, e := stripe.New(l, row, width); o != nil || e != api.ErrArg {
			t.Errorf("New(%v, %d, %d): %v, %v", l, row, width, o, e)
		}
	}
	for _, l := range wrongLayouts() {
		wrong(l, 0, 2)
		wrong(l, 7, 255)
		wrong(l, -1, 1)
	}
	for _, l := range someLayouts() {
		for _, width := range []int{1, 0, -1, -2, 256, 257, math.MinInt, math.MaxInt} {
			wrong(l, 0, width)
			wrong(l, 1, width)
		}
		for _, row := range []int{-1, -2, -255, math.MinInt} {
			wrong(l, row, 2)
			wrong(l, row, 255)
		}
	}
}

// What may not be is told ahead of a row's being full, and changes nothing.
func TestAddOfWrongLeaves(t *testing.T) {
	var n numbers = 3
	for _, l := range []api.Layout{layout(1, 1), layout(4, 2), layout(256, 8)} {
		o := made(t, l, 1, 3)
		leaves := fullLeaves(&n, l, 2)
		wrong := wrongLeaves(&n, l)
		for count := range 3 {
			for why, x := range wrong {
				if at, e := o.Add(x); at != 0 || e != api.ErrArg {
					t.Errorf("Add with %s, behind %d: %d, %v", why, count, at, e)
				}
				wantRow(t, o, l, 1, 3, leaves[:count])
			}
			if count < 2 {
				if at, e := o.Add(leaves[count]); at != 2*count || e != api.OK {
					t.Fatalf("Add: %d, %v", at, e)
				}
			}
		}
		wantFull(t, o, leaves[0])
	}
}

// A row that New didn't make is none, like nil.
func TestNoRow(t *testing.T) {
	var n numbers = 4
	for _, o := range []*stripe.Open{nil, {}} {
		for _, x := range []api.Leaf{{}, fullLeaf(&n, layout(1, 1)), fullLeaf(&n, layout(256, 8))} {
			if at, e := o.Add(x); at != 0 || e != api.ErrArg {
				t.Errorf("Add: %d, %v", at, e)
			}
			if left := o.Left(); left != 0 {
				t.Errorf("Left: %d", left)
			}
			got, at, e := o.Parity()
			wantNoLeaf(t, "Parity", got, e)
			if at != 0 {
				t.Errorf("Parity's place: %d", at)
			}
		}
	}
}

func TestAddKeepsNothing(t *testing.T) {
	var n numbers = 5
	for _, l := range someLayouts() {
		o := made(t, l, 2, 5)
		leaves := fullLeaves(&n, l, 4)
		for i, x := range clones(leaves) {
			if _, e := o.Add(x); e != api.OK || !reflect.DeepEqual(x, leaves[i]) {
				t.Fatalf("Add: %v, the leaf: %v, not %v", e, x, leaves[i])
			}
			spoil(x)
			wantRow(t, o, l, 2, 5, leaves[:i+1])
		}
		x := clone(leaves[0])
		wantFull(t, o, x)
		spoil(x)
		wantRow(t, o, l, 2, 5, leaves)
	}
}

func TestParityIsNewMemory(t *testing.T) {
	var n numbers = 6
	for _, l := range someLayouts() {
		o := made(t, l, 0, 4)
		leaves := fullLeaves(&n, l, 3)
		for i := range 4 {
			x, _, e := o.Parity()
			y, _, _ := o.Parity()
			spoil(x)
			wantLeaf(t, "another Parity", y, e, wantedSum(l, leaves[:i]))
			wantRow(t, o, l, 0, 4, leaves[:i])
			if i < 3 {
				o.Add(leaves[i])
				wantLeaf(t, "Parity behind an Add", y, e, wantedSum(l, leaves[:i]))
			}
		}
	}
}

// Rows know nothing of one another.
func TestRowsBesideOneAnother(t *testing.T) {
	var n numbers = 7
	l, m := layout(4, 2), layout(3, 1)
	o, p := made(t, l, 0, 4), made(t, m, 3, 6)
	first, second := fullLeaves(&n, l, 3), fullLeaves(&n, m, 3)
	for i := range 3 {
		o.Add(first[i])
		wantRow(t, p, m, 3, 6, second[:i])
		p.Add(second[i])
		wantRow(t, o, l, 0, 4, first[:i+1])
	}
	wantFull(t, o, first[0])
	if at, e := p.Add(second[0]); at != 4 || e != api.OK {
		t.Errorf("Add: %d, %v", at, e)
	}
}

// A row's own parity may be added to it: the sum is noughts then.
func TestParityOfItsOwnParity(t *testing.T) {
	var n numbers = 8
	l := layout(4, 2)
	o := made(t, l, 0, 4)
	for _, x := range fullLeaves(&n, l, 2) {
		o.Add(x)
	}
	x, _, _ := o.Parity()
	if at, e := o.Add(x); at != 2 || e != api.OK {
		t.Fatalf("Add: %d, %v", at, e)
	}
	got, _, e := o.Parity()
	wantLeaf(t, "Parity", got, e, noughts(l))
}
