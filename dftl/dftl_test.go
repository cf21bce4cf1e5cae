package dftl_test

import (
	"math"
	"slices"
	"testing"

	"firkin/api"
	"firkin/dftl"
)

// outside are numbers that no key of 8 is.
func outside() []int {
	return []int{math.MinInt, math.MinInt + 1, math.MinInt32, -1 << 32, 1 - 1<<32, -256, -8, -7, -1, 8, 9, 256, 1 << 31, 1 << 32, 1<<32 + 1, 1<<63 - 8, math.MaxInt}
}

// The chapter's examples

func TestExamples(t *testing.T) {
	d := newDesk(2, 4)
	d.pages = [][]uint64{{0, 0, 0, 0}, {0, 0, 0, 0}}
	m := made(t, d, 8, 4, 2)
	wantSet(t, m, 0, 5, api.OK)
	wantSet(t, m, 1, 6, api.OK)
	wantCounts(t, m, 2, 0, 0)
	wantGot(t, m, 7, 0, api.OK)
	wantCounts(t, m, 2, 2, 1)
	if !slices.Equal(d.pages[0], []uint64{5, 6, 0, 0}) || !slices.Equal(d.loads, []int{1, 0}) || !slices.Equal(d.stores, []int{0}) {
		t.Errorf("%v, Loads %v, Stores %v", d.pages, d.loads, d.stores)
	}
	wantGot(t, m, 0, 5, api.OK)
	wantGot(t, m, 8, 0, api.ErrArg)
}

// P11.1

func TestNew(t *testing.T) {
	for _, x := range []struct {
		keys, per, most int
		want            api.Errno
	}{
		{1, 1, 1, api.OK},
		{4096, 1024, 1, api.OK},
		{4096, 1, 4096, api.OK},
		{1, 1024, math.MaxInt, api.OK},
		{4095, 1023, 1<<32 + 1, api.OK},
		{0, 1, 1, api.ErrArg},
		{4097, 1, 1, api.ErrArg},
		{1, 0, 1, api.ErrArg},
		{1, 1025, 1, api.ErrArg},
		{1, 1, 0, api.ErrArg},
		{-1, 1, 1, api.ErrArg},
		{1, -1, 1, api.ErrArg},
		{1, 1, -1, api.ErrArg},
	} {
		wantNew(t, x.keys, x.per, x.most, x.want)
	}
	for _, far := range []int{math.MinInt, math.MinInt + 1, math.MinInt32, -1 << 32, 1 - 1<<32, 1 << 31, 1 << 32, 1<<32 + 1, math.MaxInt} {
		wantNew(t, far, 1, 1, api.ErrArg)
		wantNew(t, 1, far, 1, api.ErrArg)
		if far < 1 {
			wantNew(t, 1, 1, far, api.ErrArg)
		}
	}
}

func wantNew(t *testing.T, keys, per, most int, want api.Errno) {
	t.Helper()
	d := newDesk(1, 1)
	m, e := dftl.New(d, keys, per, most)
	if e != want || (m == nil) != (want != api.OK) {
		t.Errorf("New(%d, %d, %d): %v, %v", keys, per, most, m, e)
	}
	if len(d.loads)+len(d.stores) > 0 {
		t.Errorf("New(%d, %d, %d): the pager was asked", keys, per, most)
	}
	wantCounts(t, m, 0, 0, 0)
}

func TestNewOfNoPager(t *testing.T) {
	for _, l := range [][3]int{{1, 1, 1}, {0, 1, 1}, {1, 0, 1}, {1, 1, 0}} {
		if m, e := dftl.New(nil, l[0], l[1], l[2]); m != nil || e != api.ErrArg {
			t.Errorf("New(nil, %v): %v, %v", l, m, e)
		}
	}
}

func TestNil(t *testing.T) {
	var none *dftl.Map
	unmade := &dftl.Map{} // one that New didn't make is as if there were none
	for _, m := range []*dftl.Map{none, unmade} {
		for range 2 {
			for _, key := range append(outside(), 0, 1) {
				wantGot(t, m, key, 0, api.ErrArg)
				wantSet(t, m, key, 5, api.ErrArg)
			}
			wantFlushed(t, m, api.ErrArg)
			wantCounts(t, m, 0, 0, 0)
		}
	}
}

// The pager isn't asked for anything by New, nor by a Flush of a new map.
func TestNewHasNothingInMemory(t *testing.T) {
	d := newDesk(2, 4)
	m := made(t, d, 8, 4, 8)
	wantFlushed(t, m, api.OK)
	wantCounts(t, m, 0, 0, 0)
	d.pages[1][3] = 77 // what the pager has counts when it is asked, not when New was called
	wantGot(t, m, 7, 77, api.OK)
	wantCounts(t, m, 1, 1, 0)
}

func TestMapsAreApart(t *testing.T) {
	d := newDesk(1, 4)
	a, b := made(t, d, 4, 4, 4), made(t, newDesk(1, 4), 4, 4, 4)
	wantSet(t, a, 0, 5, api.OK)
	wantGot(t, b, 0, 1, api.OK)
	wantFlushed(t, b, api.OK)
	wantCounts(t, a, 1, 0, 0)
	wantCounts(t, b, 1, 1, 0)
	wantFlushed(t, a, api.OK)
	wantGot(t, made(t, d, 4, 4, 4), 0, 5, api.OK) // a map of the same pages finds what was flushed
}

// P11.2

func TestGetOfPagers(t *testing.T) {
	for keys := 1; keys <= 12; keys++ {
		for per := 1; per <= 13; per++ {
			for _, most := range []int{1, 2, 5, 100} {
				x := newModel(t, keys, per, most)
				x.wantAll()
				for key := keys - 1; key >= 0; key-- {
					x.need(x.get(key))
				}
				if x.m.Stores() != 0 {
					t.Fatalf("%d keys, %d of a page, most %d: %d Stores", keys, per, most, x.m.Stores())
				}
			}
		}
	}
}

func TestGetAndSetOfKeysOutside(t *testing.T) {
	for _, most := range []int{1, 8} {
		d := newDesk(3, 4) // the pager has more than the map's keys
		m := made(t, d, 8, 4, most)
		wantSet(t, m, 7, 70, api.OK)
		for _, key := range outside() {
			wantGot(t, m, key, 0, api.ErrArg)
			wantSet(t, m, key, 5, api.ErrArg)
		}
		wantCounts(t, m, 1, 0, 0)
		wantGot(t, m, 7, 70, api.OK)
		wantFlushed(t, m, api.OK)
		if !slices.Equal(d.pages[1], []uint64{1001, 1002, 1003, 70}) || !slices.Equal(d.pages[2], newDesk(3, 4).pages[2]) {
			t.Errorf("%v", d.pages)
		}
	}
	m := made(t, newDesk(1, 4), 3, 4, 1) // a key outside, though its number stands in a page
	wantGot(t, m, 3, 0, api.ErrArg)
	wantSet(t, m, 3, 5, api.ErrArg)
	wantCounts(t, m, 0, 0, 0)
}

func TestSetOfAnyNumber(t *testing.T) {
	for _, n := range []uint64{0, 1, 1<<32 - 1, 1 << 32, 1 << 63, math.MaxUint64} {
		for _, most := range []int{1, 2, 4} {
			x := newModel(t, 4, 2, most)
			x.need(x.set(2, n))
			x.need(x.get(2))
			x.need(x.get(0))
			x.need(x.set(1, n))
			x.need(x.set(1, n-1))
			x.wantAll()
		}
	}
}

func TestLastSetCounts(t *testing.T) {
	x := newModel(t, 6, 3, 2)
	for i := range uint64(20) {
		x.need(x.set(1, 100-i)) // in memory
		x.need(x.set(1, 200-i))
		x.need(x.get(1))
		x.need(x.get(4))
		x.need(x.set(5, i))
		x.need(x.get(1)) // it wasn't in memory
	}
	x.wantAll()
}

// The greatest map: all keys set, by few entries and by many.
func TestMostKeys(t *testing.T) {
	for _, l := range [][2]int{{1024, 1}, {1024, 100}, {1000, 4096}, {1, 10}, {7, 4095}} {
		per, most := l[0], l[1]
		pages := (api.MaxKeys + per - 1) / per
		d := newDesk(pages, per)
		m := made(t, d, api.MaxKeys, per, most)
		for key := range api.MaxKeys {
			wantSet(t, m, key, uint64(key)<<40, api.OK)
		}
		for key := range api.MaxKeys {
			wantGot(t, m, key, uint64(key)<<40, api.OK)
		}
		wantFlushed(t, m, api.OK)
		for key := range api.MaxKeys {
			if got := d.number(key); got != uint64(key)<<40 {
				t.Fatalf("per %d, most %d: key %d is %d", per, most, key, got)
			}
		}
		wantGot(t, m, api.MaxKeys, 0, api.ErrArg)
		wantSet(t, m, api.MaxKeys, 1, api.ErrArg)
		if m.Held() != most && most < api.MaxKeys {
			t.Errorf("most %d: Held %d", most, m.Held())
		}
	}
}
