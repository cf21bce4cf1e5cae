package lru

import "iter"

// link is an entry's place in a ring. One link of a ring has no entry: it is the end, between the last entry and the first one.
type link struct {
	entry  Entry
	ahead  *link
	behind *link
}

// newRing is the end of a ring without entries.
func newRing() *link {
	end := &link{}
	end.ahead, end.behind = end, end
	return end
}

// hangBehind hangs a link that hangs nowhere behind another one.
func (l *link) hangBehind(other *link) {
	l.ahead, l.behind = other, other.behind
	l.ahead.behind = l
	l.behind.ahead = l
}

// takeOut takes a link out of its ring.
func (l *link) takeOut() {
	l.ahead.behind = l.behind
	l.behind.ahead = l.ahead
}

// made tells whether New made the cache: of another one there is nothing, as of nil.
func (c *Cache) made() bool { return c != nil && c.end != nil }

// find is the link of a key's entry; nil, if there is none.
func (c *Cache) find(key int) *link {
	if c == nil {
		return nil
	}
	return c.links[key]
}

// all goes through the links of all entries, the first one first.
func (c *Cache) all() iter.Seq[*link] {
	return func(yield func(*link) bool) {
		if !c.made() {
			return
		}
		for l := c.end.behind; l != c.end; l = l.behind {
			if !yield(l) {
				return
			}
		}
	}
}

// makeFirst brings an entry ahead of all others, which stay in their order.
func (c *Cache) makeFirst(l *link) {
	l.takeOut()
	l.hangBehind(c.end)
}

// makeRoom lets the last entry go, if there is no room for one more.
func (c *Cache) makeRoom() (Entry, bool) {
	if len(c.links) < c.most {
		return Entry{}, false
	}
	return c.Drop(c.end.ahead.entry.Key)
}

// add makes an entry of a new key the first one.
func (c *Cache) add(e Entry) {
	l := &link{entry: e}
	l.hangBehind(c.end)
	c.links[e.Key] = l
}
