package lru_test

import (
	"fmt"
	"slices"
	"testing"

	"firkin/api"
	"firkin/lru"
)

// numbers are the same in each run.
type numbers uint64

func (n *numbers) next() uint64 {
	*n = *n*6364136223846793005 + 1442695040888963407
	high := uint64(*n >> 32)
	*n = *n*6364136223846793005 + 1442695040888963407
	return high<<32 | uint64(*n>>32)
}

func (n *numbers) below(end int) int { return int(n.next() >> 33 % uint64(end)) }

// model is a cache in the chapter's words: its entries, the first one first.
type model struct {
	most int
	row  []lru.Entry
}

func (m *model) place(key int) int {
	return slices.IndexFunc(m.row, func(e lru.Entry) bool { return e.Key == key })
}

// call is one of a cache; what it answers is written the same way of a cache and of a model.
type call struct {
	name  string
	cache func(c *lru.Cache) string
	model func(m *model) string
}

func get(key int) call {
	return call{fmt.Sprintf("Get %d", key),
		func(c *lru.Cache) string { return fmt.Sprint(c.Get(key)) },
		func(m *model) string {
			i := m.place(key)
			if i == -1 {
				return fmt.Sprint(uint64(0), false)
			}
			e := m.row[i]
			m.row = slices.Insert(slices.Delete(m.row, i, i+1), 0, e)
			return fmt.Sprint(e.Value, true)
		}}
}

func put(e lru.Entry) call {
	return call{fmt.Sprintf("Put %v", e),
		func(c *lru.Cache) string { return fmt.Sprint(c.Put(e)) },
		func(m *model) string {
			if i := m.place(e.Key); i != -1 {
				now := lru.Entry{Key: e.Key, Value: e.Value, Dirty: e.Dirty || m.row[i].Dirty}
				m.row = slices.Insert(slices.Delete(m.row, i, i+1), 0, now)
				return fmt.Sprint(lru.Entry{}, false)
			}
			m.row = slices.Insert(m.row, 0, e)
			if len(m.row) <= m.most {
				return fmt.Sprint(lru.Entry{}, false)
			}
			gone := m.row[m.most]
			m.row = m.row[:m.most]
			return fmt.Sprint(gone, true)
		}}
}

func clean(lo, hi int) call {
	return call{fmt.Sprintf("Clean %d %d", lo, hi),
		func(c *lru.Cache) string { return fmt.Sprint(c.Clean(lo, hi)) },
		func(m *model) string {
			var changed []lru.Entry
			for i, e := range m.row {
				if e.Dirty && e.Key >= lo && e.Key < hi {
					changed = append(changed, e)
					m.row[i].Dirty = false
				}
			}
			slices.SortFunc(changed, func(a, b lru.Entry) int {
				if a.Key < b.Key {
					return -1
				}
				return 1 // no two have the same key
			})
			return fmt.Sprint(changed)
		}}
}

func drop(key int) call {
	return call{fmt.Sprintf("Drop %d", key),
		func(c *lru.Cache) string { return fmt.Sprint(c.Drop(key)) },
		func(m *model) string {
			i := m.place(key)
			if i == -1 {
				return fmt.Sprint(lru.Entry{}, false)
			}
			e := m.row[i]
			m.row = slices.Delete(m.row, i, i+1)
			return fmt.Sprint(e, true)
		}}
}

// call is any one, of keys from lo on.
func (n *numbers) call(lo, keys int) call {
	key := lo + n.below(keys)
	switch n.below(9) {
	case 0, 1, 2:
		return get(key)
	case 3:
		return clean(key, key+n.below(keys))
	case 4:
		return drop(key)
	}
	return put(lru.Entry{Key: key, Value: n.next(), Dirty: n.below(2) == 0})
}

// wantCall makes a call, and tells whether the cache answers and is then as the model has it.
func wantCall(t *testing.T, c *lru.Cache, m *model, x call) {
	t.Helper()
	before := fmt.Sprint(m.row)
	if got, want := x.cache(c), x.model(m); got != want {
		t.Fatalf("%s of %s (most %d): %s, not %s", x.name, before, m.most, got, want)
	}
	wantRow(t, x.name+" of "+before, c, m.row...)
}

func wantRow(t *testing.T, what string, c *lru.Cache, want ...lru.Entry) {
	t.Helper()
	if got := c.All(); !slices.Equal(got, want) {
		t.Fatalf("%s: All: %v, not %v", what, got, want)
	}
	if got := c.Len(); got != len(want) {
		t.Fatalf("%s: Len: %d, not %d", what, got, len(want))
	}
}

// made is a cache of most entries, that were put one behind the other.
func made(t *testing.T, most int, row ...lru.Entry) *lru.Cache {
	t.Helper()
	c, e := lru.New(most)
	if e != api.OK || c == nil {
		t.Fatalf("New(%d): %v, %v", most, c, e)
	}
	for _, x := range row {
		c.Put(x)
	}
	return c
}

func wantGot(t *testing.T, c *lru.Cache, key int, want uint64, wantThere bool) {
	t.Helper()
	if got, there := c.Get(key); got != want || there != wantThere {
		t.Errorf("Get(%d): %d, %v, not %d, %v", key, got, there, want, wantThere)
	}
}

func wantGone(t *testing.T, c *lru.Cache, e, want lru.Entry) {
	t.Helper()
	if got, some := c.Put(e); got != want || !some {
		t.Errorf("Put(%v): %v, %v, not %v, true", e, got, some, want)
	}
}

func wantNoneGone(t *testing.T, c *lru.Cache, e lru.Entry) {
	t.Helper()
	if got, some := c.Put(e); got != (lru.Entry{}) || some {
		t.Errorf("Put(%v): %v, %v: nothing has to go", e, got, some)
	}
}

func wantClean(t *testing.T, c *lru.Cache, lo, hi int, want ...lru.Entry) {
	t.Helper()
	if got := c.Clean(lo, hi); !slices.Equal(got, want) {
		t.Errorf("Clean(%d, %d): %v, not %v", lo, hi, got, want)
	}
}

func wantDropped(t *testing.T, c *lru.Cache, key int, want lru.Entry, wantThere bool) {
	t.Helper()
	if got, there := c.Drop(key); got != want || there != wantThere {
		t.Errorf("Drop(%d): %v, %v, not %v, %v", key, got, there, want, wantThere)
	}
}
