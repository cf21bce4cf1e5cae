package dftl_test

import (
	"errors"
	"slices"
	"testing"

	"firkin/api"
)

// someErrors are errors of a pager, of all kinds.
func someErrors() []api.Errno {
	return []api.Errno{api.ErrArg, api.ErrMedia, api.ErrPower, api.ErrOnly, -1, 2, 999}
}

// P11.2 with errors

func TestErrorOfLoad(t *testing.T) {
	for _, want := range someErrors() {
		d := newDesk(2, 4)
		m := made(t, d, 8, 4, 2)
		d.failAt(0, want)
		wantGot(t, m, 5, 0, want)
		wantCounts(t, m, 0, 1, 0)
		wantGot(t, m, 5, 1002, api.OK) // the next time nothing is wrong
		wantCounts(t, m, 1, 2, 0)
	}
}

// An entry that must go stays, till its page is stored.
func TestErrorWhereAnEntryGoes(t *testing.T) {
	for _, want := range someErrors() {
		for i := range 3 { // the Load of the page that is asked for; that of the page that is stored; its Store
			d := newDesk(2, 4)
			m := made(t, d, 8, 4, 2)
			wantSet(t, m, 0, 5, api.OK)
			wantSet(t, m, 1, 6, api.OK)
			d.failAt(i, want)
			wantGot(t, m, 7, 0, want)
			wantCounts(t, m, 2, min(i+1, 2), i/2)
			if !slices.Equal(d.pages[0], []uint64{1, 2, 3, 4}) {
				t.Errorf("%v", d.pages)
			}
			loads, stores := m.Loads(), m.Stores()
			wantGot(t, m, 0, 5, api.OK) // both are in memory yet
			wantGot(t, m, 1, 6, api.OK)
			wantCounts(t, m, 2, loads, stores)
			wantGot(t, m, 7, 1004, api.OK)
			if !slices.Equal(d.pages[0], []uint64{5, 6, 3, 4}) {
				t.Errorf("%v", d.pages)
			}
		}
	}
}

func TestErrorOfSet(t *testing.T) {
	for _, want := range someErrors() {
		for i := range 2 { // the Load of the page that is stored; its Store
			x := newModel(t, 8, 4, 2)
			x.need(x.set(0, 5))
			x.need(x.set(4, 6))
			x.d.failAt(i, want)
			if e := x.set(1, 7); e != want {
				t.Errorf("Set: %v, not %v", e, want)
			}
			x.need(x.get(0))
			x.need(x.get(4))
			x.need(x.set(1, 8))
			x.wantAll()
		}
	}
}

// A Flush with an error may be made again: what was stored isn't stored again.
func TestErrorOfFlush(t *testing.T) {
	for _, want := range someErrors() {
		for i := range 6 { // of three pages: a Load and a Store each
			x := newModel(t, 12, 4, 8)
			for _, key := range []int{0, 3, 5, 6, 7, 9} {
				x.need(x.set(key, 50))
			}
			x.d.failAt(i, want)
			if e := x.flush(); e != want {
				t.Errorf("Flush: %v, not %v", e, want)
			}
			done := 0
			for n, l := range x.d.pages {
				if !slices.Equal(l, newDesk(3, 4).pages[n]) {
					done++
				}
			}
			if done != i/2 {
				t.Errorf("%d pages were stored, not %d", done, i/2)
			}
			stores := x.m.Stores()
			x.need(x.flush())
			if got := x.m.Stores() - stores; got != 3-done {
				t.Errorf("%d more pages were stored, not %d", got, 3-done)
			}
			x.wantAll()
		}
	}
}

// While everything fails what is in memory can be got and set.
func TestPagerThatAlwaysFails(t *testing.T) {
	x := newModel(t, 8, 4, 3)
	x.need(x.get(0))
	x.need(x.set(1, 11))
	x.need(x.set(6, 16))
	x.d.fails = func() api.Errno { return api.ErrMedia }
	for i := range uint64(5) {
		for key := range 8 {
			want := api.ErrMedia
			if x.there(key) {
				want = api.OK
			}
			e := x.set(key, 100+i)
			if key == 2 { // the one that would go for it is the one that was only got
				want = e
			}
			if e != want {
				t.Errorf("Set(%d): %v, not %v", key, e, want)
			}
			if e := x.get(key); x.there(key) != (e == api.OK) {
				t.Errorf("Get(%d): %v", key, e)
			}
		}
		if e := x.flush(); e != api.ErrMedia {
			t.Errorf("Flush: %v", e)
		}
	}
	x.wantAll()
}

// Pagers that aren't what a pager is

// oddPager does what its functions do.
type oddPager struct {
	load  func(n int) ([]uint64, api.Errno)
	store func(n int, l []uint64) api.Errno
}

func (p *oddPager) Load(n int) ([]uint64, api.Errno)  { return p.load(n) }
func (p *oddPager) Store(n int, l []uint64) api.Errno { return p.store(n, l) }

// A page has just so many numbers: of another row none is told, and none is stored.
func TestPagesOfWrongLength(t *testing.T) {
	for _, long := range []int{0, 1, 3, 5, 8, 1024} {
		stored := 0
		p := &oddPager{
			func(int) ([]uint64, api.Errno) { return make([]uint64, long), api.OK },
			func(int, []uint64) api.Errno { stored++; return api.OK },
		}
		m := made(t, p, 8, 4, 1)
		for key := range 8 {
			wantGot(t, m, key, 0, api.ErrArg)
		}
		wantSet(t, m, 0, 5, api.OK)
		wantSet(t, m, 7, 6, api.ErrArg)
		wantFlushed(t, m, api.ErrArg)
		wantGot(t, m, 0, 5, api.OK)
		wantCounts(t, m, 1, 10, 0)
		if stored != 0 {
			t.Errorf("%d numbers: %d were stored", long, stored)
		}
	}
}

// Beside an error a page counts for nothing.
func TestPageBesideError(t *testing.T) {
	p := &oddPager{
		func(int) ([]uint64, api.Errno) { return []uint64{7, 7, 7, 7}, api.ErrMedia },
		func(int, []uint64) api.Errno { return api.OK },
	}
	m := made(t, p, 8, 4, 1)
	wantGot(t, m, 2, 0, api.ErrMedia)
	wantCounts(t, m, 0, 1, 0)
}

// What is thrown by a pager is an error, though it is one of no number, or OK.
func TestPagersThatPanic(t *testing.T) {
	var empty []int
	for _, throw := range []func(){
		func() { panic("no pages") },
		func() { panic(api.OK) },
		func() { panic(api.ErrMedia) },
		func() { panic(errors.New("none")) },
		func() { panic(nil) },
		func() { _ = empty[len(empty)] },
	} {
		d := newDesk(2, 4)
		m := made(t, d, 8, 4, 2)
		wantGot(t, m, 7, 1004, api.OK)
		wantSet(t, m, 0, 5, api.OK)
		d.fails = func() api.Errno { throw(); return api.OK }
		wantGot(t, m, 6, 0, api.ErrArg)
		wantFlushed(t, m, api.ErrArg)
		wantSet(t, m, 1, 6, api.OK)
		wantSet(t, m, 2, 7, api.ErrArg)
		wantCounts(t, m, 2, 4, 0)
		d.fails = nil
		wantSet(t, m, 2, 7, api.OK)
		wantFlushed(t, m, api.OK)
		if !slices.Equal(d.pages[0], []uint64{5, 6, 7, 4}) {
			t.Errorf("%v", d.pages)
		}
	}
}

func TestPagerThatPanicsInStore(t *testing.T) {
	p := &oddPager{
		func(int) ([]uint64, api.Errno) { return make([]uint64, 4), api.OK },
		func(int, []uint64) api.Errno { panic(api.OK) },
	}
	m := made(t, p, 8, 4, 1)
	wantSet(t, m, 0, 5, api.OK)
	wantFlushed(t, m, api.ErrArg)
	wantGot(t, m, 1, 0, api.ErrArg)
	wantSet(t, m, 1, 6, api.ErrArg)
	wantGot(t, m, 0, 5, api.OK)
	wantCounts(t, m, 1, 4, 3)
}

// A pointer to none is a pager, which New doesn't ask.
func TestPagerOfNil(t *testing.T) {
	var none *desk
	m := made(t, none, 8, 4, 1)
	wantGot(t, m, 0, 0, api.ErrArg)
	wantSet(t, m, 0, 5, api.OK)
	wantGot(t, m, 0, 5, api.OK)
	wantSet(t, m, 1, 5, api.ErrArg)
	wantFlushed(t, m, api.ErrArg)
	wantCounts(t, m, 1, 3, 0)
}

// Lists are apart: the map changes none that the pager answers, and the pager may change and keep what it is handed.
func TestListsAreNewMemory(t *testing.T) {
	own := [][]uint64{{1, 2, 3, 4}, {5, 6, 7, 8}}
	var kept [][]uint64
	p := &oddPager{
		func(n int) ([]uint64, api.Errno) { return own[n], api.OK }, // what it has itself
		func(n int, l []uint64) api.Errno { kept = append(kept, l); return api.OK },
	}
	m := made(t, p, 8, 4, 2)
	wantSet(t, m, 0, 50, api.OK)
	wantSet(t, m, 5, 60, api.OK)
	wantFlushed(t, m, api.OK)
	wantSet(t, m, 0, 51, api.OK)
	wantSet(t, m, 5, 61, api.OK)
	wantFlushed(t, m, api.OK)
	if !slices.Equal(own[0], []uint64{1, 2, 3, 4}) || !slices.Equal(own[1], []uint64{5, 6, 7, 8}) {
		t.Errorf("%v", own)
	}
	if len(kept) != 4 || kept[0][0] != 50 || kept[1][1] != 60 || kept[2][0] != 51 || kept[3][1] != 61 {
		t.Fatalf("%v", kept)
	}
	for _, l := range kept {
		clear(l[:cap(l)])
	}
	wantGot(t, m, 0, 51, api.OK)
	wantGot(t, m, 5, 61, api.OK)
	wantGot(t, m, 1, 2, api.OK)
}
