package dftl

import (
	"slices"

	"firkin/lru"
)

// made tells whether New made the map: of another one there is nothing, as of nil.
func (m *Map) made() bool { return m != nil && m.memory != nil }

// has tells whether there is such a key.
func (m *Map) has(key int) bool { return m.made() && 0 <= key && key < m.keys }

// number is a key's, which is in memory behind it.
func (m *Map) number(key int) uint64 {
	if n, there := m.memory.Get(key); there {
		return n
	}
	page, at := m.pages.place(key)
	n := m.pages.load(page)[at]
	m.put(lru.Entry{Key: key, Value: n})
	return n
}

// put puts an entry into memory.
func (m *Map) put(e lru.Entry) {
	if _, there := m.memory.Get(e.Key); !there {
		m.makeRoom()
	}
	m.memory.Put(e)
}

// makeRoom sees to it that an entry may go for one more. It doesn't take that out: where its page can't be stored, nothing must be gone.
func (m *Map) makeRoom() {
	if m.memory.Len() < m.most {
		return
	}
	row := m.memory.All()
	if last := row[len(row)-1]; last.Dirty {
		page, _ := m.pages.place(last.Key)
		m.store(page)
	}
}

// store brings a page's entries that have changed. They count as changed till the pager has them.
func (m *Map) store(page int) {
	l := m.pages.load(page)
	for _, e := range m.changed() {
		if other, at := m.pages.place(e.Key); other == page {
			l[at] = e.Value
		}
	}
	m.pages.store(page, l)
	m.memory.Clean(m.pages.keys(page))
}

// storeAll brings all entries that have changed, each page once.
func (m *Map) storeAll() {
	var all []int
	for _, e := range m.changed() {
		page, _ := m.pages.place(e.Key)
		all = append(all, page)
	}
	slices.Sort(all)
	for _, page := range slices.Compact(all) {
		m.store(page)
	}
}

// changed are the entries in memory that were set since their pages were stored.
func (m *Map) changed() []lru.Entry {
	return slices.DeleteFunc(m.memory.All(), func(e lru.Entry) bool { return !e.Dirty })
}
