package lru_test

import (
	"math"
	"slices"
	"testing"

	"firkin/lru"
)

// P10.4

func TestClean(t *testing.T) {
	row := []lru.Entry{dirty(5, 50), dirty(-1, 10), same(3, 30), dirty(0, 0), dirty(4, 40), same(1, 11), dirty(2, 20)}
	for _, x := range []struct {
		lo, hi int
		want   []lru.Entry
	}{
		{0, 5, []lru.Entry{dirty(0, 0), dirty(2, 20), dirty(4, 40)}},
		{-1, 6, []lru.Entry{dirty(-1, 10), dirty(0, 0), dirty(2, 20), dirty(4, 40), dirty(5, 50)}},
		{math.MinInt, math.MaxInt, []lru.Entry{dirty(-1, 10), dirty(0, 0), dirty(2, 20), dirty(4, 40), dirty(5, 50)}},
		{0, 1, []lru.Entry{dirty(0, 0)}},
		{-1, 0, []lru.Entry{dirty(-1, 10)}},
		{4, 5, []lru.Entry{dirty(4, 40)}},
		{5, math.MaxInt, []lru.Entry{dirty(5, 50)}},
		{1, 2, nil}, // not changed
		{3, 4, nil},
		{6, 9, nil}, // none of these
		{2, 2, nil}, // no keys
		{0, 0, nil},
		{5, 0, nil}, // the wrong way round
		{math.MaxInt, math.MinInt, nil},
		{math.MinInt, math.MinInt, nil},
		{math.MaxInt, math.MaxInt, nil},
	} {
		c := made(t, 7, row...)
		wantClean(t, c, x.lo, x.hi, x.want...)
		var want []lru.Entry // where they were
		for _, e := range row {
			if slices.Contains(x.want, e) {
				e.Dirty = false
			}
			want = slices.Insert(want, 0, e)
		}
		wantRow(t, "Clean", c, want...)
		wantClean(t, c, x.lo, x.hi) // a second time there are none
		wantRow(t, "Clean again", c, want...)
	}
}

// hi - 1 may be below all numbers, and the greatest key is below no hi.
func TestCleanOfFarOutside(t *testing.T) {
	var row []lru.Entry
	for _, key := range someKeys() {
		row = append(row, dirty(key, uint64(key)))
	}
	for _, lo := range someKeys() {
		for _, hi := range someKeys() {
			var want []lru.Entry
			for _, e := range row {
				if lo <= e.Key && e.Key < hi {
					want = append(want, e)
				}
			}
			wantClean(t, made(t, 100, row...), lo, hi, want...)
		}
	}
}

func TestCleanTellsTheLastValue(t *testing.T) {
	c := made(t, 2, dirty(1, 10), same(2, 20))
	c.Put(same(1, 11))
	c.Put(dirty(2, 21))
	wantClean(t, c, 1, 3, dirty(1, 11), dirty(2, 21))
	c.Put(same(1, 12)) // it isn't changed any more, so that this doesn't make it so
	c.Put(dirty(2, 22))
	wantClean(t, c, 1, 3, dirty(2, 22))
	wantGone(t, c, same(3, 30), same(1, 12))
}

func TestDrop(t *testing.T) {
	for key := 1; key <= 3; key++ { // the last one, one between, the first one
		row := []lru.Entry{dirty(1, 10), same(2, 20), dirty(3, 30)}
		c := made(t, 3, row...)
		wantDropped(t, c, 0, lru.Entry{}, false)
		wantDropped(t, c, 4, lru.Entry{}, false)
		wantDropped(t, c, key, row[key-1], true)
		left := slices.Delete(slices.Clone(row), key-1, key)
		wantRow(t, "Drop", c, left[1], left[0])
		wantDropped(t, c, key, lru.Entry{}, false)
		wantGot(t, c, key, 0, false)
		wantNoneGone(t, c, same(9, 90)) // there is room for one again
		wantGone(t, c, same(8, 80), left[0])
		wantRow(t, "Put", c, same(8, 80), same(9, 90), left[1])
	}
}

func TestDropOfAll(t *testing.T) {
	c := made(t, 4)
	for range 3 {
		for _, key := range []int{1, 2, 3, 4} {
			wantNoneGone(t, c, dirty(key, uint64(key)))
		}
		for _, key := range []int{3, 4, 1, 2} {
			wantDropped(t, c, key, dirty(key, uint64(key)), true)
		}
		wantNothingThere(t, c)
	}
}

// A cleaned entry is dropped as it is then.
func TestDropOfCleaned(t *testing.T) {
	c := made(t, 2, dirty(1, 10), dirty(2, 20))
	wantClean(t, c, 1, 2, dirty(1, 10))
	wantDropped(t, c, 1, same(1, 10), true)
	wantDropped(t, c, 2, dirty(2, 20), true)
}

// What is answered is new memory: whoever changes it changes neither the cache nor another answer.
func TestListsAreNewMemory(t *testing.T) {
	row := []lru.Entry{dirty(3, 30), dirty(2, 20), dirty(1, 10)}
	c := made(t, 3, row...)
	slices.Reverse(row)
	a, b := c.All(), c.All()
	spoil(a)
	if !slices.Equal(b, row) {
		t.Errorf("All: %v", b)
	}
	wantRow(t, "spoilt", c, row...)
	changed := c.Clean(0, 9)
	kept := slices.Clone(changed)
	spoil(c.All())
	c.Put(dirty(2, 21))
	c.Drop(1)
	c.Clean(0, 9)
	if !slices.Equal(changed, kept) || !slices.Equal(b, row) {
		t.Errorf("Clean, All: %v, %v", changed, b)
	}
	spoil(changed)
	wantRow(t, "spoilt", c, same(2, 21), same(3, 30))
}

// spoil changes a list, and what it has room for.
func spoil(l []lru.Entry) {
	l = l[:cap(l)]
	for i := range l {
		l[i] = lru.Entry{Key: -77, Value: 77, Dirty: !l[i].Dirty}
	}
}

// P10.5

// An entry that goes was neither got nor put while so many other keys were; and there are never more than most.
func TestWhatGoes(t *testing.T) {
	var n numbers = 1
	for _, most := range []int{1, 2, 3, 8, 50} {
		c := made(t, most)
		keys := most + 1 + n.below(2*most+2)
		since := make([]map[int]bool, keys) // of each key: the other ones that were got or put since it was
		asked := func(key int) {
			for other := range since {
				if since[other] != nil {
					since[other][key] = true
				}
			}
			since[key] = map[int]bool{}
		}
		for range 3000 {
			key := n.below(keys)
			switch n.below(7) {
			case 0:
				c.Drop(key)
			case 1:
				c.Clean(key, key+3)
			case 2, 3:
				if _, there := c.Get(key); there {
					asked(key)
				}
			default:
				gone, some := c.Put(lru.Entry{Key: key, Dirty: n.below(2) == 0})
				asked(key)
				if others := len(since[gone.Key]); some && others < most {
					t.Fatalf("most %d: %v goes, and only %d others were asked for", most, gone, others)
				}
			}
			if got := c.Len(); got > most || got != len(c.All()) {
				t.Fatalf("most %d: %d", most, got)
			}
		}
	}
}

// All rows of four calls on three keys answer as the model does.
func TestAllRowsOfCalls(t *testing.T) {
	calls := []call{clean(0, 3), clean(1, 3), clean(1, 2), clean(2, 1)}
	for key := range 3 {
		calls = append(calls, get(key), drop(key), put(same(key, uint64(10+key))), put(dirty(key, uint64(20+key))))
	}
	for most := 1; most <= 3; most++ {
		for i := range len(calls) * len(calls) * len(calls) * len(calls) {
			c, m := made(t, most), &model{most: most}
			for range 4 {
				wantCall(t, c, m, calls[i%len(calls)])
				i /= len(calls)
			}
		}
	}
}

func TestManyCalls(t *testing.T) {
	var n numbers = 2
	for _, most := range []int{1, 2, 3, 4, 5, 8, 13, 40} {
		for _, keys := range []int{1, most, most + 1, 2*most + 3, 10 * most} {
			lo := n.below(1000) - 500
			c, m := made(t, most), &model{most: most}
			for range 600 {
				wantCall(t, c, m, n.call(lo, keys))
			}
		}
	}
}
