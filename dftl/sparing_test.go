package dftl_test

import (
	"slices"
	"testing"

	"firkin/api"
)

// P11.3

func TestFlush(t *testing.T) {
	for _, most := range []int{1, 2, 3, 12} {
		x := newModel(t, 12, 4, most)
		for _, key := range []int{11, 0, 5, 2, 10, 5} {
			x.need(x.set(key, uint64(100+key)))
		}
		x.need(x.flush())
		held, loads, stores := x.m.Held(), x.m.Loads(), x.m.Stores()
		x.need(x.flush()) // nothing was set since
		x.need(x.get(5))  // it lets nothing go
		wantCounts(t, x.m, held, loads, stores)
		x.need(x.set(5, 7))
		x.need(x.flush())
		wantCounts(t, x.m, held, loads+1, stores+1)
		x.wantAll()
	}
}

func TestHeld(t *testing.T) {
	for _, most := range []int{1, 2, 3, 7, 8, 9, 100} {
		m := made(t, newDesk(2, 4), 8, 4, most)
		for i := range 16 {
			key := i % 8
			if i%3 == 0 {
				wantSet(t, m, key, 5, api.OK)
			} else if _, e := m.Get(key); e != api.OK {
				t.Errorf("Get(%d): %v", key, e)
			}
			if got, want := m.Held(), min(i+1, most, 8); got != want {
				t.Errorf("most %d: Held %d, not %d", most, got, want)
			}
		}
	}
}

// P11.4

// A page is brought with all that has changed of it, and all else as the pager has it.
func TestStoreBringsAllOfPage(t *testing.T) {
	d := newDesk(3, 4)
	m := made(t, d, 10, 4, 4) // of the last page two numbers are no key's
	wantSet(t, m, 9, 90, api.OK)
	wantGot(t, m, 4, 1001, api.OK)
	wantSet(t, m, 8, 80, api.OK)
	wantSet(t, m, 5, 50, api.OK)
	wantGot(t, m, 0, 1, api.OK) // for it key 9 goes
	if !slices.Equal(d.pages[2], []uint64{80, 90, 2003, 2004}) {
		t.Errorf("%v", d.pages)
	}
	if !slices.Equal(d.stores, []int{2}) {
		t.Errorf("Stores: %v", d.stores)
	}
	d.pages[2][2] = 7 // what is no key's is the pager's own
	wantSet(t, m, 8, 81, api.OK)
	wantFlushed(t, m, api.OK)
	if !slices.Equal(d.pages[2], []uint64{81, 90, 7, 2004}) || !slices.Equal(d.pages[1], []uint64{1001, 50, 1003, 1004}) {
		t.Errorf("%v", d.pages)
	}
}

// What was stored with another entry's page goes without a Store.
func TestEntriesThatWereStoredGoSilently(t *testing.T) {
	x := newModel(t, 12, 4, 3)
	for _, key := range []int{0, 1, 2} {
		x.need(x.set(key, uint64(50+key)))
	}
	x.need(x.get(8)) // 0 goes, and all three are stored
	wantCounts(t, x.m, 3, 2, 1)
	x.need(x.get(9))
	x.need(x.get(10)) // 1 and 2 go
	wantCounts(t, x.m, 3, 4, 1)
	x.need(x.get(0)) // what was only got goes
	wantCounts(t, x.m, 3, 5, 1)
	x.wantAll()
}

// An entry that was only got goes, though one that goes later has changed.
func TestEntriesThatWereGotGoSilently(t *testing.T) {
	x := newModel(t, 8, 4, 2)
	x.need(x.get(0))
	x.need(x.set(1, 5))
	x.need(x.get(4))
	wantCounts(t, x.m, 2, 2, 0)
	x.need(x.set(5, 6))
	wantCounts(t, x.m, 2, 3, 1)
	x.wantAll()
}

// A Set asks for nothing while there is room, and of a key in memory.
func TestSetAsksForNothing(t *testing.T) {
	m := made(t, newDesk(2, 4), 8, 4, 3)
	for i := range 5 {
		for key := range 3 {
			wantSet(t, m, 3*key, uint64(i), api.OK)
			wantGot(t, m, 3*key, uint64(i), api.OK)
		}
	}
	wantCounts(t, m, 3, 0, 0)
	wantSet(t, m, 1, 9, api.OK) // for it key 0 goes: a Load and a Store
	wantCounts(t, m, 3, 1, 1)
}

// The key that is asked for may be of the page that is stored for it.
func TestGetOfPageThatIsStored(t *testing.T) {
	x := newModel(t, 4, 4, 1)
	for i := range uint64(10) {
		x.need(x.set(0, i))
		x.need(x.get(1))
		x.need(x.set(2, 10+i))
		x.need(x.set(1, 20+i))
	}
	x.wantAll()
}

// A get, as a set, makes a key the last one that goes.
func TestWhichGoes(t *testing.T) {
	m := made(t, newDesk(1, 8), 8, 8, 3)
	for _, key := range []int{0, 1, 2, 0, 1} {
		wantGot(t, m, key, uint64(key+1), api.OK)
	}
	wantSet(t, m, 0, 50, api.OK)
	wantCounts(t, m, 3, 3, 0)
	wantGot(t, m, 3, 4, api.OK) // 2 goes
	wantGot(t, m, 1, 2, api.OK)
	wantGot(t, m, 0, 50, api.OK)
	wantCounts(t, m, 3, 4, 0)
	wantGot(t, m, 2, 3, api.OK) // 3 goes
	wantGot(t, m, 1, 2, api.OK)
	wantGot(t, m, 0, 50, api.OK)
	wantCounts(t, m, 3, 5, 0)
}

// step is one of a row of calls.
func (x *model) step(i int) api.Errno {
	x.t.Helper()
	keys := len(x.is)
	switch {
	case i < keys:
		return x.get(i)
	case i < 2*keys:
		return x.set(i-keys, x.is[i-keys]+100)
	}
	return x.flush()
}

// All rows of five calls on three keys keep the promises, whichever thing fails that is asked for.
func TestAllRowsOfCalls(t *testing.T) {
	const kinds = 7
	for most := 1; most <= 2; most++ {
		for row := range kinds * kinds * kinds * kinds * kinds {
			for fail := range 4 {
				x := newModel(t, 3, 2, most)
				if fail > 0 {
					x.d.failAt(fail-1, api.ErrMedia)
				}
				i := row
				for range 5 {
					if e := x.step(i % kinds); e != api.OK && (e != api.ErrMedia || fail == 0) {
						t.Fatalf("row %d: %v", row, e)
					}
					i /= kinds
				}
				x.wantAll()
			}
		}
	}
}

func TestManyCalls(t *testing.T) {
	var n numbers = 1
	for range 120 {
		keys, per := 1+n.below(40), 1+n.below(12)
		x := newModel(t, keys, per, 1+n.below(keys+2))
		often := 1 + n.below(20) // how seldom something fails
		told := api.OK
		if n.below(3) > 0 {
			x.d.fails = func() api.Errno {
				told = api.OK
				if n.below(often) == 0 {
					told = api.Errno(1 + n.below(300))
				}
				return told
			}
		}
		fails := x.d.fails
		for range 600 {
			told = api.OK
			if e := x.anyCall(&n); e != told {
				t.Fatalf("%v, and the pager told %v", e, told)
			}
			if n.below(100) == 0 {
				x.wantAll()
				x.d.fails = fails
			}
		}
		x.wantAll()
	}
}

func (x *model) anyCall(n *numbers) api.Errno {
	x.t.Helper()
	key := n.below(len(x.is))
	switch n.below(12) {
	case 0:
		return x.flush()
	case 1, 2, 3, 4, 5:
		return x.set(key, n.next())
	}
	return x.get(key)
}
