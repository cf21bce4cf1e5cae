package lru_test

import (
	"math"
	"slices"
	"testing"

	"firkin/api"
	"firkin/lru"
)

// same is an entry that isn't changed, dirty one that is.
func same(key int, value uint64) lru.Entry  { return lru.Entry{Key: key, Value: value} }
func dirty(key int, value uint64) lru.Entry { return lru.Entry{Key: key, Value: value, Dirty: true} }

// someKeys are keys of all kinds, rising.
func someKeys() []int {
	return []int{math.MinInt, math.MinInt + 1, math.MinInt32, -256, -2, -1, 0, 1, 2, 255, 4095, 4096, 1 << 32, math.MaxInt - 1, math.MaxInt}
}

// The chapter's examples

func TestExamples(t *testing.T) {
	c := made(t, 2, same(1, 10), same(2, 20))
	wantGot(t, c, 1, 10, true)
	wantGone(t, c, same(3, 30), same(2, 20))
	wantRow(t, "Put 3", c, same(3, 30), same(1, 10))

	c = made(t, 2, dirty(1, 10))
	wantNoneGone(t, c, same(1, 11))
	wantRow(t, "Put 1 again", c, dirty(1, 11))
	wantClean(t, c, 0, 9, dirty(1, 11))
	wantRow(t, "Clean", c, same(1, 11))
}

// P10.1

func TestNew(t *testing.T) {
	for most := -4; most <= 40; most++ {
		if most < 1 {
			wantNoCache(t, most)
			continue
		}
		c := made(t, most)
		wantRow(t, "New", c)
		wantNothingThere(t, c)
		wantMost(t, c, most)
	}
}

func wantNoCache(t *testing.T, most int) {
	t.Helper()
	if c, e := lru.New(most); c != nil || e != api.ErrArg {
		t.Errorf("New(%d): %v, %v", most, c, e)
	}
}

// wantMost tells whether an empty cache takes just so many entries till one has to go.
func wantMost(t *testing.T, c *lru.Cache, most int) {
	t.Helper()
	for key := range most {
		wantNoneGone(t, c, same(key, uint64(key)))
	}
	for key := range most {
		wantGone(t, c, same(most+key, 0), same(key, uint64(key)))
		if c.Len() != most {
			t.Errorf("Len: %d, not %d", c.Len(), most)
		}
	}
}

func TestNewOfFarOutside(t *testing.T) {
	for _, most := range []int{math.MinInt, math.MinInt + 1, math.MinInt32, math.MinInt32 + 1, -1 << 32, 1 - 1<<32, -256, -255} {
		wantNoCache(t, most)
	}
}

// A cache of ever so many is only as large as what is put into it.
func TestNewOfMany(t *testing.T) {
	for _, most := range []int{4096, math.MaxInt32, 1 << 32, 1<<32 + 1, math.MaxInt} {
		c := made(t, most)
		for key := range 4096 {
			wantNoneGone(t, c, dirty(-key, 1))
		}
		if c.Len() != 4096 || len(c.All()) != 4096 || len(c.Clean(math.MinInt, math.MaxInt)) != 4096 {
			t.Errorf("most %d: %d", most, c.Len())
		}
	}
}

// wantNothingThere tells whether no call finds anything in a cache.
func wantNothingThere(t *testing.T, c *lru.Cache) {
	t.Helper()
	for _, key := range someKeys() {
		wantGot(t, c, key, 0, false)
		wantDropped(t, c, key, lru.Entry{}, false)
		for _, hi := range someKeys() {
			wantClean(t, c, key, hi)
		}
	}
	wantRow(t, "nothing", c)
}

func TestNil(t *testing.T) {
	var none *lru.Cache
	unmade := &lru.Cache{} // one that New didn't make is as if there were none
	for _, c := range []*lru.Cache{none, unmade} {
		wantNothingThere(t, c)
		for _, key := range someKeys() {
			wantNoneGone(t, c, same(key, 1))
			wantNoneGone(t, c, dirty(key, 2))
			wantNothingThere(t, c)
		}
	}
}

func TestCachesAreApart(t *testing.T) {
	a, b := made(t, 2, same(1, 10), dirty(2, 20)), made(t, 2, dirty(1, 11))
	wantGone(t, a, same(3, 30), same(1, 10))
	wantDropped(t, b, 2, lru.Entry{}, false)
	wantClean(t, b, 0, 9, dirty(1, 11))
	wantRow(t, "a", a, same(3, 30), dirty(2, 20))
	wantRow(t, "b", b, same(1, 11))
}

// P10.2

func TestGet(t *testing.T) {
	c := made(t, 4, same(1, 10), dirty(2, 20), same(3, 30), same(4, 0))
	for _, x := range []struct {
		key   int
		value uint64
		there bool
		row   []int // the keys, the first one's first
	}{
		{4, 0, true, []int{4, 3, 2, 1}}, // the first one
		{1, 10, true, []int{1, 4, 3, 2}},
		{4, 0, true, []int{4, 1, 3, 2}},
		{3, 30, true, []int{3, 4, 1, 2}}, // one between
		{5, 0, false, []int{3, 4, 1, 2}},
		{0, 0, false, []int{3, 4, 1, 2}},
		{-1, 0, false, []int{3, 4, 1, 2}},
		{2, 20, true, []int{2, 3, 4, 1}}, // the last one
		{2, 20, true, []int{2, 3, 4, 1}},
	} {
		wantGot(t, c, x.key, x.value, x.there)
		wantKeys(t, c, x.row...)
	}
	wantClean(t, c, 0, 9, dirty(2, 20)) // a Get changes no entry
}

func wantKeys(t *testing.T, c *lru.Cache, want ...int) {
	t.Helper()
	var got []int
	for _, e := range c.All() {
		got = append(got, e.Key)
	}
	if !slices.Equal(got, want) {
		t.Errorf("keys: %v, not %v", got, want)
	}
}

func TestGetOfEachKey(t *testing.T) {
	c := made(t, 100)
	for i, key := range someKeys() {
		c.Put(same(key, math.MaxUint64-uint64(i)))
	}
	for i, key := range someKeys() {
		wantGot(t, c, key, math.MaxUint64-uint64(i), true)
		if c.All()[0].Key != key {
			t.Errorf("Get(%d): it isn't the first one", key)
		}
	}
	for _, key := range []int{3, -3, 254, 1<<32 + 1, math.MaxInt - 2} {
		wantGot(t, c, key, 0, false)
	}
}

// P10.3

func TestPutOfKeyThatIsThere(t *testing.T) {
	for _, x := range []struct{ was, is, want bool }{{false, false, false}, {false, true, true}, {true, false, true}, {true, true, true}} {
		for key := range 3 { // the last one, one between, the first one
			row := []lru.Entry{{Key: 0}, {Key: 1}, {Key: 2}}
			row[key] = lru.Entry{Key: key, Value: 7, Dirty: x.was}
			for _, most := range []int{3, 4} { // also where it is full nothing has to go
				c := made(t, most, row...)
				wantNoneGone(t, c, lru.Entry{Key: key, Value: 8, Dirty: x.is})
				want := slices.Delete(slices.Clone(row), key, key+1)
				slices.Reverse(want)
				wantRow(t, "Put", c, append([]lru.Entry{{Key: key, Value: 8, Dirty: x.want}}, want...)...)
			}
		}
	}
}

func TestPutGivesLesserValues(t *testing.T) {
	c := made(t, 1, dirty(1, math.MaxUint64))
	for _, value := range []uint64{0, 5, 4, 1 << 63, 0} {
		wantNoneGone(t, c, same(1, value))
		wantRow(t, "Put", c, dirty(1, value))
	}
}

func TestPutIntoFull(t *testing.T) {
	c := made(t, 3, dirty(1, 10), same(2, 20), same(3, 30))
	wantGone(t, c, same(4, 40), dirty(1, 10)) // as it was, changed
	wantRow(t, "Put 4", c, same(4, 40), same(3, 30), same(2, 20))
	wantNoneGone(t, c, dirty(2, 21))
	wantGone(t, c, dirty(1, 11), same(3, 30))
	wantGone(t, c, same(0, 0), same(4, 40))
	wantRow(t, "Put 0", c, same(0, 0), dirty(1, 11), dirty(2, 21))
	wantGone(t, c, same(9, 0), dirty(2, 21))
}

func TestPutIntoOneOfOne(t *testing.T) {
	c := made(t, 1)
	last := same(someKeys()[0], 5)
	wantNoneGone(t, c, last)
	for _, key := range someKeys()[1:] {
		wantNoneGone(t, c, last)
		wantGone(t, c, dirty(key, 6), last)
		last = dirty(key, 6)
		wantRow(t, "Put", c, last)
	}
}

// An entry that is gone, and comes back, has nothing of what it was.
func TestPutOfKeyThatWent(t *testing.T) {
	c := made(t, 1, dirty(1, 10))
	wantGone(t, c, same(2, 20), dirty(1, 10))
	wantGot(t, c, 1, 0, false)
	wantGone(t, c, same(1, 11), same(2, 20))
	wantRow(t, "gone for another one", c, same(1, 11))

	c = made(t, 2, dirty(1, 10))
	wantDropped(t, c, 1, dirty(1, 10), true)
	wantNoneGone(t, c, same(1, 0))
	wantRow(t, "dropped", c, same(1, 0))
}

// What is handed in and what is answered are values: a change of one changes no entry.
func TestEntriesAreApart(t *testing.T) {
	e := dirty(1, 10)
	c := made(t, 1, e)
	e.Key, e.Value, e.Dirty = 9, 9, false
	wantRow(t, "Put", c, dirty(1, 10))
	l := c.All()
	l[0] = same(7, 7)
	wantRow(t, "All", c, dirty(1, 10))
	l = c.Clean(0, 9)
	l[0] = dirty(7, 7)
	wantRow(t, "Clean", c, same(1, 10))
}
