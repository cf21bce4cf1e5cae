package stripe_test

import (
	"math"
	"reflect"
	"slices"
	"strconv"
	"testing"

	"firkin/api"
	"firkin/stripe"
)

func place(numbers ...int) string {
	text := ""
	for _, n := range numbers {
		text += " " + strconv.Itoa(n)
	}
	return text
}

// The chapter's examples

func TestExamples(t *testing.T) {
	for at, want := range map[[2]int]int{{0, 4}: 3, {1, 4}: 2, {5, 4}: 2, {0, 1}: -1} {
		if got := stripe.Place(at[0], at[1]); got != want {
			t.Errorf("Place(%d, %d): %d, not %d", at[0], at[1], got, want)
		}
	}
	a := api.Leaf{Slots: []api.Slot{{Key: 5, State: api.SlotData, Seq: 1}}, Sectors: [][]byte{[]byte("a")}}
	b := api.Leaf{Slots: []api.Slot{{Key: 3, State: api.SlotData, Seq: 3}}, Sectors: [][]byte{[]byte("b")}}
	got, e := stripe.Sum(api.Layout{Sector: 1, Slots: 1}, []api.Leaf{a, b})
	wantLeaf(t, "Sum", got, e, api.Leaf{Slots: []api.Slot{{Key: 6, State: 0, Seq: 2}}, Sectors: [][]byte{{3}}})
}

// P6.1

func TestPlace(t *testing.T) {
	for _, c := range []struct{ row, width, want int }{
		{0, 2, 1}, {1, 2, 0}, {2, 2, 1}, {3, 2, 0},
		{0, 3, 2}, {1, 3, 1}, {2, 3, 0}, {3, 3, 2},
		{0, 254, 253}, {253, 254, 0}, {254, 254, 253},
		{0, 255, 254}, {1, 255, 253}, {254, 255, 0}, {255, 255, 254}, {65535, 255, 254},
		{math.MaxInt, 2, 0}, {math.MaxInt - 1, 2, 1},
	} {
		if got := stripe.Place(c.row, c.width); got != c.want {
			t.Errorf("Place(%d, %d): %d, not %d", c.row, c.width, got, c.want)
		}
	}
}

func TestPlaceOfWhatMayNotBe(t *testing.T) {
	for _, width := range []int{1, 0, -1, -2, -255, 256, 257, 512, math.MinInt, math.MaxInt} {
		for _, row := range []int{0, 1, 5, 255, math.MaxInt, -1, math.MinInt} {
			if got := stripe.Place(row, width); got != -1 {
				t.Errorf("Place(%d, %d): %d", row, width, got)
			}
		}
	}
	for _, row := range []int{-1, -2, -255, math.MinInt} {
		for _, width := range []int{2, 3, 254, 255} {
			if got := stripe.Place(row, width); got != -1 {
				t.Errorf("Place(%d, %d): %d", row, width, got)
			}
		}
	}
}

// Whichever row is the first, width rows behind one another have the parity once at each place.
func TestEachPlaceHasTheParity(t *testing.T) {
	for width := 2; width <= 255; width++ {
		for _, first := range []int{0, 1, width - 1, 1000, math.MaxInt - width} {
			seen := make([]int, width)
			for row := range width {
				at := stripe.Place(first+row, width)
				if at < 0 || at >= width {
					t.Fatalf("Place(%d, %d): %d", first+row, width, at)
				}
				seen[at]++
			}
			if slices.Min(seen) != 1 || slices.Max(seen) != 1 {
				t.Fatalf("width %d, from row %d on: %v", width, first, seen)
			}
		}
	}
}

// P6.2

func TestSum(t *testing.T) {
	var n numbers = 1
	for _, l := range someLayouts() {
		for _, count := range []int{0, 1, 2, 3, 4, 7, 31} {
			leaves := someLeaves(&n, l, count)
			got, e := stripe.Sum(l, leaves)
			wantLeaf(t, "Sum of"+place(l.Sector, l.Slots, count), got, e, wantedSum(l, leaves))
		}
	}
}

func TestSumOfNothing(t *testing.T) {
	for _, l := range someLayouts() {
		for _, leaves := range [][]api.Leaf{nil, {}} {
			got, e := stripe.Sum(l, leaves)
			wantLeaf(t, "Sum of nothing", got, e, noughts(l))
		}
	}
}

// A sum of more leaves than a row has places is one, too.
func TestSumOfManyLeaves(t *testing.T) {
	var n numbers = 2
	l := layout(3, 2)
	leaves := someLeaves(&n, l, 600)
	got, e := stripe.Sum(l, leaves)
	wantLeaf(t, "Sum of 600", got, e, wantedSum(l, leaves))
}

func TestSumOfEdges(t *testing.T) {
	l := layout(2, 3)
	edge := api.Leaf{
		Slots:   []api.Slot{{}, {Key: math.MaxUint32, State: api.SlotLost, Seq: 1<<48 - 1}, {Key: 1 << 31, State: api.SlotTrim, Seq: 1 << 47}},
		Sectors: [][]byte{{0, 0}, {255, 255}, {0, 255}},
	}
	got, e := stripe.Sum(l, []api.Leaf{edge})
	wantLeaf(t, "Sum of one", got, e, edge)
	got, e = stripe.Sum(l, []api.Leaf{edge, edge})
	wantLeaf(t, "Sum of a leaf twice", got, e, noughts(l))
	got, e = stripe.Sum(l, []api.Leaf{edge, edge, edge})
	wantLeaf(t, "Sum of a leaf three times", got, e, edge)
}

func TestSumOfEachState(t *testing.T) {
	l := layout(1, 1)
	for a := range 4 {
		for b := range 4 {
			leaf := func(state int) api.Leaf {
				return api.Leaf{Slots: []api.Slot{{State: state}}, Sectors: [][]byte{nil}}
			}
			got, e := stripe.Sum(l, []api.Leaf{leaf(a), leaf(b)})
			want := noughts(l)
			want.Slots[0].State = []int{0, 1, 2, 3, 1, 0, 3, 2, 2, 3, 0, 1, 3, 2, 1, 0}[4*a+b]
			wantLeaf(t, "Sum of states"+place(a, b), got, e, want)
		}
	}
}

func TestSectorsOfNoBytes(t *testing.T) {
	var n numbers = 3
	l := layout(4, 3)
	x := fullLeaf(&n, l)
	for _, none := range [][]byte{nil, {}, make([]byte, 0, 9)} {
		for i := range l.Slots {
			less := changed(x, func(x *api.Leaf) { x.Sectors[i] = none })
			want := changed(x, func(x *api.Leaf) { x.Sectors[i] = make([]byte, 4) })
			got, e := stripe.Sum(l, []api.Leaf{less})
			wantLeaf(t, "Sum of one", got, e, want)
			got, e = stripe.Sum(l, []api.Leaf{less, less})
			wantLeaf(t, "Sum of two", got, e, noughts(l))
			got, e = stripe.Sum(l, []api.Leaf{less, x})
			want = noughts(l)
			want.Sectors[i] = x.Sectors[i]
			wantLeaf(t, "Sum with the whole one", got, e, want)
		}
	}
}

func TestSumOfWrongLayouts(t *testing.T) {
	for _, l := range wrongLayouts() {
		fitting := api.Leaf{Slots: make([]api.Slot, 1), Sectors: make([][]byte, 1)}
		if l.Slots >= 0 && l.Slots <= 9 {
			fitting = api.Leaf{Slots: make([]api.Slot, l.Slots), Sectors: make([][]byte, l.Slots)}
		}
		for _, leaves := range [][]api.Leaf{nil, {}, {{}}, {fitting}, {fitting, fitting}} {
			got, e := stripe.Sum(l, leaves)
			wantNoLeaf(t, "Sum of layout"+place(l.Sector, l.Slots), got, e)
		}
	}
}

// T is page's: leaves are added whatever it is.
func TestSumOfAnyT(t *testing.T) {
	var n numbers = 4
	for _, bits := range []int{0, -1, 8, 9, math.MinInt, math.MaxInt} {
		l := api.Layout{Sector: 3, Slots: 2, T: bits}
		leaves := someLeaves(&n, l, 3)
		got, e := stripe.Sum(l, leaves)
		wantLeaf(t, "Sum with T"+place(bits), got, e, wantedSum(l, leaves))
		made(t, l, 0, 2)
	}
}

func TestSumOfWrongLeaves(t *testing.T) {
	var n numbers = 5
	for _, l := range someLayouts() {
		a, b := fullLeaf(&n, l), fullLeaf(&n, l)
		for why, x := range wrongLeaves(&n, l) {
			for _, leaves := range [][]api.Leaf{{x}, {x, a}, {a, x}, {a, x, b}, {x, x}} {
				got, e := stripe.Sum(l, leaves)
				wantNoLeaf(t, "Sum with "+why, got, e)
			}
		}
	}
}

// Leaves of another layout's length may not be.
func TestSumOfAnotherLayoutsLeaves(t *testing.T) {
	var n numbers = 6
	for _, l := range someLayouts() {
		for _, other := range someLayouts() {
			x := fullLeaf(&n, other)
			got, e := stripe.Sum(l, []api.Leaf{x})
			if l == other {
				wantLeaf(t, "Sum of its own", got, e, x)
			} else {
				wantNoLeaf(t, "Sum of another's", got, e)
			}
		}
	}
}

func TestSumChangesNothing(t *testing.T) {
	var n numbers = 7
	for _, l := range someLayouts() {
		for _, count := range []int{1, 2, 5} {
			leaves := someLeaves(&n, l, count)
			before := clones(leaves)
			got, e := stripe.Sum(l, leaves)
			want := wantedSum(l, before)
			wantLeaf(t, "Sum", got, e, want)
			spoil(got)
			if !reflect.DeepEqual(leaves, before) {
				t.Errorf("leaves were changed: %v, not %v", leaves, before)
			}
			again, e := stripe.Sum(l, leaves)
			wantLeaf(t, "Sum once more", again, e, want)
			for _, x := range leaves {
				spoil(x)
			}
			wantLeaf(t, "Sum when leaves are changed", again, e, want)
		}
	}
}

// No two sectors of an answer share memory, not even behind their ends.
func TestSectorsOfASumAreApart(t *testing.T) {
	var n numbers = 8
	l := layout(4, 3)
	for _, count := range []int{0, 1, 3} {
		leaves := someLeaves(&n, l, count)
		want := wantedSum(l, leaves)
		for i := range l.Slots {
			got, e := stripe.Sum(l, leaves)
			longer := append(got.Sectors[i], 1, 2, 3, 4, 5, 6, 7, 8)
			for k := range longer {
				longer[k] ^= 0xa5
			}
			got.Sectors[i] = want.Sectors[i]
			wantLeaf(t, "Sum with a longer sector", got, e, want)
		}
	}
}

// P6.3

func TestMend(t *testing.T) {
	var n numbers = 9
	for _, l := range someLayouts() {
		for _, count := range []int{2, 3, 4, 9} {
			row := someLeaves(&n, l, count)
			for missing := range row {
				others := append(slices.Clone(row[:missing]), row[missing+1:]...)
				got, e := stripe.Mend(l, row, missing)
				wantLeaf(t, "Mend"+place(count, missing), got, e, wantedSum(l, others))
			}
		}
	}
}

// A row has at most 255 places, but Mend asks for 2 or more alone.
func TestMendOfLongRows(t *testing.T) {
	var n numbers = 10
	l := layout(1, 1)
	for _, count := range []int{254, 255, 256, 400} {
		row := fullLeaves(&n, l, count)
		got, e := stripe.Mend(l, row, count-1)
		wantLeaf(t, "Mend", got, e, wantedSum(l, row[:count-1]))
	}
}

func TestMendOfNoPlace(t *testing.T) {
	var n numbers = 11
	l := layout(4, 2)
	for _, count := range []int{2, 3, 5} {
		row := fullLeaves(&n, l, count)
		for _, missing := range []int{-1, -2, -count, count, count + 1, 255, math.MinInt, math.MaxInt} {
			got, e := stripe.Mend(l, row, missing)
			wantNoLeaf(t, "Mend"+place(count, missing), got, e)
		}
	}
}

// A place behind a row is none, also where the list's memory goes on there.
func TestMendBehindARow(t *testing.T) {
	var n numbers = 12
	l := layout(4, 2)
	row := fullLeaves(&n, l, 5)
	got, e := stripe.Mend(l, row[:3], 3)
	wantNoLeaf(t, "Mend", got, e)
}

func TestMendOfShortRows(t *testing.T) {
	var n numbers = 13
	l := layout(4, 2)
	for _, row := range [][]api.Leaf{nil, {}, {{}}, fullLeaves(&n, l, 1)} {
		for missing := -2; missing <= 2; missing++ {
			got, e := stripe.Mend(l, row, missing)
			wantNoLeaf(t, "Mend"+place(len(row), missing), got, e)
		}
	}
}

func TestMendOfWrongLeaves(t *testing.T) {
	var n numbers = 14
	for _, l := range []api.Layout{layout(1, 1), layout(4, 2), layout(256, 8)} {
		for why, x := range wrongLeaves(&n, l) {
			for count := 2; count <= 4; count++ {
				for wrong := range count {
					row := fullLeaves(&n, l, count)
					row[wrong] = x
					for missing := range count {
						got, e := stripe.Mend(l, row, missing)
						if missing != wrong {
							wantNoLeaf(t, "Mend with "+why, got, e)
							continue
						}
						others := append(slices.Clone(row[:missing]), row[missing+1:]...)
						wantLeaf(t, "Mend of "+why, got, e, wantedSum(l, others))
					}
				}
			}
		}
	}
}

func TestMendOfWrongLayouts(t *testing.T) {
	for _, l := range wrongLayouts() {
		for _, row := range [][]api.Leaf{nil, {{}, {}}, {{Slots: make([]api.Slot, 1), Sectors: make([][]byte, 1)}, {}}} {
			got, e := stripe.Mend(l, row, 1)
			wantNoLeaf(t, "Mend of layout"+place(l.Sector, l.Slots), got, e)
		}
	}
}

func TestMendChangesNothing(t *testing.T) {
	var n numbers = 15
	l := layout(4, 2)
	for missing := range 5 {
		behind := someLeaves(&n, l, 7)
		before := clones(behind)
		row := behind[:5]
		got, e := stripe.Mend(l, row, missing)
		others := append(slices.Clone(before[:missing]), before[missing+1:5]...)
		want := wantedSum(l, others)
		wantLeaf(t, "Mend", got, e, want)
		if !reflect.DeepEqual(behind, before) {
			t.Errorf("the row was changed: %v, not %v", behind, before)
		}
		for _, x := range behind {
			spoil(x)
		}
		wantLeaf(t, "Mend when the row is changed", got, e, want)
	}
}

// The missing leaf of two is the other one, in memory of its own.
func TestMendOfTwo(t *testing.T) {
	var n numbers = 16
	l := layout(4, 2)
	x := fullLeaf(&n, l)
	want := clone(x)
	got, e := stripe.Mend(l, []api.Leaf{x, {}}, 1)
	wantLeaf(t, "Mend", got, e, want)
	spoil(got)
	if !reflect.DeepEqual(x, want) {
		t.Errorf("the other leaf was changed: %v, not %v", x, want)
	}
}

// P6.5

// pages are those of a full row, the parity at its place.
func pages(t *testing.T, l api.Layout, row, width int, leaves []api.Leaf) []api.Leaf {
	t.Helper()
	o := made(t, l, row, width)
	all := make([]api.Leaf, width)
	for _, x := range leaves {
		at, e := o.Add(x)
		if e != api.OK {
			t.Fatalf("Add: %v", e)
		}
		all[at] = x
	}
	x, at, e := o.Parity()
	if e != api.OK || o.Left() != 0 {
		t.Fatalf("Parity: %v, Left %d", e, o.Left())
	}
	all[at] = x
	return all
}

// filled is a leaf whose sectors of no bytes are bytes 0.
func filled(l api.Layout, x api.Leaf) api.Leaf {
	return wantedSum(l, []api.Leaf{x})
}

func TestEachPageIsMadeOfTheOthers(t *testing.T) {
	var n numbers = 17
	for _, l := range someLayouts() {
		for _, width := range []int{2, 3, 4, 8} {
			for row := range width + 1 {
				all := pages(t, l, row, width, someLeaves(&n, l, width-1))
				for lost := range all {
					left := slices.Clone(all)
					left[lost] = api.Leaf{}
					got, e := stripe.Mend(l, left, lost)
					wantLeaf(t, "Mend"+place(row, width, lost), got, e, filled(l, all[lost]))
				}
			}
		}
	}
}

func TestEachPageOfTheWidestRows(t *testing.T) {
	var n numbers = 18
	l := layout(2, 2)
	for _, width := range []int{254, 255} {
		for _, row := range []int{0, 1, 100, width - 1, 65535} {
			all := pages(t, l, row, width, someLeaves(&n, l, width-1))
			for lost := range all {
				got, e := stripe.Mend(l, all, lost)
				wantLeaf(t, "Mend"+place(row, width, lost), got, e, filled(l, all[lost]))
			}
		}
	}
}
