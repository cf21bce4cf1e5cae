package dftl_test

import (
	"slices"
	"testing"

	"firkin/api"
	"firkin/dftl"
)

// numbers are the same in each run.
type numbers uint64

func (n *numbers) next() uint64 {
	*n = *n*6364136223846793005 + 1442695040888963407
	high := uint64(*n >> 32)
	*n = *n*6364136223846793005 + 1442695040888963407
	return high<<32 | uint64(*n>>32)
}

func (n *numbers) below(end int) int { return int(n.next() >> 33 % uint64(end)) }

// desk is a pager: its pages lie in memory, and an error may be told ahead of anything it is asked for.
type desk struct {
	pages  [][]uint64
	loads  []int                   // the pages that were asked for
	stores []int                   // those that were brought
	fails  func() api.Errno        // what is wrong this time
	brings func(n int, l []uint64) // is told what is brought
}

// newDesk has pages of numbers that tell where they stand.
func newDesk(pages, per int) *desk {
	d := &desk{}
	for n := range pages {
		l := make([]uint64, per)
		for at := range l {
			l[at] = uint64(1000*n + at + 1)
		}
		d.pages = append(d.pages, l)
	}
	return d
}

func (d *desk) Load(n int) ([]uint64, api.Errno) {
	d.loads = append(d.loads, n)
	if e := d.wrong(); e != api.OK {
		return nil, e
	}
	return slices.Clone(d.pages[n]), api.OK
}

func (d *desk) Store(n int, l []uint64) api.Errno {
	d.stores = append(d.stores, n)
	if e := d.wrong(); e != api.OK {
		return e
	}
	if d.brings != nil {
		d.brings(n, l)
	}
	d.pages[n] = slices.Clone(l)
	return api.OK
}

func (d *desk) wrong() api.Errno {
	if d.fails == nil {
		return api.OK
	}
	return d.fails()
}

// number is a key's, as the pages have it.
func (d *desk) number(key int) uint64 {
	per := len(d.pages[0])
	return d.pages[key/per][key%per]
}

// failAt lets what is asked for fail the so manieth time from now on, once.
func (d *desk) failAt(i int, e api.Errno) {
	d.fails = func() api.Errno {
		i--
		if i != -1 {
			return api.OK
		}
		return e
	}
}

// model is a map in the chapter's words.
type model struct {
	t       *testing.T
	m       *dftl.Map
	d       *desk
	per     int
	most    int
	is      []uint64     // each key's number
	changed map[int]bool // keys that were set since their page was stored
	asked   []int        // keys that were got or set, the last one first
}

// newModel is one of a new map, whose pager has so many keys' pages.
func newModel(t *testing.T, keys, per, most int) *model {
	t.Helper()
	d := newDesk((keys+per-1)/per, per)
	x := &model{t: t, d: d, m: made(t, d, keys, per, most), per: per, most: most, changed: map[int]bool{}}
	for key := range keys {
		x.is = append(x.is, d.number(key))
	}
	d.brings = x.brought
	return x
}

// brought tells whether a page is brought with just what has changed of it.
func (x *model) brought(n int, l []uint64) {
	x.t.Helper()
	want := slices.Clone(x.d.pages[n])
	some := false
	for at := range want {
		if key := n*x.per + at; x.changed[key] {
			want[at], some = x.is[key], true
			delete(x.changed, key)
		}
	}
	if !some {
		x.t.Fatalf("page %d was stored, though nothing of it was set", n)
	}
	if !slices.Equal(l, want) {
		x.t.Fatalf("page %d was stored as %v, not %v", n, l, want)
	}
}

// there tells whether a key must be in memory.
func (x *model) there(key int) bool {
	i := slices.Index(x.asked, key)
	return i != -1 && i < x.most
}

func (x *model) ask(key int) {
	if i := slices.Index(x.asked, key); i != -1 {
		x.asked = slices.Delete(x.asked, i, i+1)
	}
	x.asked = slices.Insert(x.asked, 0, key)
}

// count makes a call, and tells whether it asks for no more than it may.
func (x *model) count(key int, call func() api.Errno) api.Errno {
	x.t.Helper()
	loads, stores := len(x.d.loads), len(x.d.stores)
	e := call()
	loads, stores = len(x.d.loads)-loads, len(x.d.stores)-stores
	if loads > 2 || stores > 1 || x.there(key) && loads+stores > 0 {
		x.t.Fatalf("key %d (asked for: %v, most %d): %d Loads, %d Stores", key, x.asked, x.most, loads, stores)
	}
	if e == api.OK {
		x.ask(key)
	}
	x.wantCounts()
	return e
}

// wantCounts tells whether the map's counts are right.
func (x *model) wantCounts() {
	x.t.Helper()
	if x.m.Loads() != len(x.d.loads) || x.m.Stores() != len(x.d.stores) {
		x.t.Fatalf("Loads %d, Stores %d, not %d, %d", x.m.Loads(), x.m.Stores(), len(x.d.loads), len(x.d.stores))
	}
	if held := x.m.Held(); held > x.most || held < min(x.most, len(x.asked)) {
		x.t.Fatalf("Held: %d of %d, and %d keys were asked for", held, x.most, len(x.asked))
	}
}

// get gets a key's number; an error is the pager's last one.
func (x *model) get(key int) api.Errno {
	x.t.Helper()
	return x.count(key, func() api.Errno {
		n, e := x.m.Get(key)
		if e == api.OK && n != x.is[key] || e != api.OK && n != 0 {
			x.t.Fatalf("Get(%d): %d, %v, not %d", key, n, e, x.is[key])
		}
		return e
	})
}

// set sets a key's number. With an error this map never does it, though it might.
func (x *model) set(key int, n uint64) api.Errno {
	x.t.Helper()
	return x.count(key, func() api.Errno {
		e := x.m.Set(key, n)
		if e == api.OK {
			x.is[key], x.changed[key] = n, true
		}
		return e
	})
}

// flush flushes; without an error the pages have all numbers.
func (x *model) flush() api.Errno {
	x.t.Helper()
	stores := len(x.d.stores)
	e := x.m.Flush()
	brought := slices.Clone(x.d.stores[stores:])
	slices.Sort(brought)
	if len(slices.Compact(slices.Clone(brought))) != len(brought) {
		x.t.Fatalf("Flush: pages %v are brought", brought)
	}
	if e == api.OK {
		x.wantAllStored()
	}
	x.wantCounts()
	return e
}

func (x *model) wantAllStored() {
	x.t.Helper()
	for key, n := range x.is {
		if got := x.d.number(key); got != n {
			x.t.Fatalf("key %d is %d in its page, not %d", key, got, n)
		}
	}
}

// wantAll tells whether all keys have their numbers, and then all of the pages, when nothing is wrong any more.
func (x *model) wantAll() {
	x.t.Helper()
	x.d.fails = nil
	for key := range x.is {
		x.need(x.get(key))
	}
	x.need(x.flush())
}

func (x *model) need(e api.Errno) {
	x.t.Helper()
	if e != api.OK {
		x.t.Fatalf("%v", e)
	}
}

// made is a map of a pager.
func made(t *testing.T, p api.Pager, keys, per, most int) *dftl.Map {
	t.Helper()
	m, e := dftl.New(p, keys, per, most)
	if e != api.OK || m == nil {
		t.Fatalf("New(%d, %d, %d): %v, %v", keys, per, most, m, e)
	}
	return m
}

func wantGot(t *testing.T, m *dftl.Map, key int, want uint64, wantError api.Errno) {
	t.Helper()
	if n, e := m.Get(key); n != want || e != wantError {
		t.Errorf("Get(%d): %d, %v, not %d, %v", key, n, e, want, wantError)
	}
}

func wantSet(t *testing.T, m *dftl.Map, key int, n uint64, want api.Errno) {
	t.Helper()
	if e := m.Set(key, n); e != want {
		t.Errorf("Set(%d, %d): %v, not %v", key, n, e, want)
	}
}

func wantFlushed(t *testing.T, m *dftl.Map, want api.Errno) {
	t.Helper()
	if e := m.Flush(); e != want {
		t.Errorf("Flush: %v, not %v", e, want)
	}
}

// wantCounts tells what is held and was asked for.
func wantCounts(t *testing.T, m *dftl.Map, held, loads, stores int) {
	t.Helper()
	if m.Held() != held || m.Loads() != loads || m.Stores() != stores {
		t.Errorf("Held %d, Loads %d, Stores %d, not %d, %d, %d", m.Held(), m.Loads(), m.Stores(), held, loads, stores)
	}
}
