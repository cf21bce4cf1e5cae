package record

import (
	"iter"
	"slices"

	"firkin/api"
)

// All are the records that bytes begin with, as far as they can be parsed and their Seqs rise.
func All(b []byte) iter.Seq[api.Record] {
	b = slices.Clone(b) // whoever handed them in may change them ahead of the end
	return func(yield func(api.Record) bool) {
		next := reader(b)
		for r, ok := next(); ok && yield(r); r, ok = next() {
		}
	}
}

// reader tells the next record with each call, and whether there is one: it goes on behind the one that it told last.
func reader(b []byte) func() (api.Record, bool) {
	at, last := 0, uint64(0)
	return func() (api.Record, bool) {
		r, e := Parse(b[at:])
		rises := at == 0 || r.Seq > last // the first one has none ahead of it
		if e != api.OK || !rises {
			return api.Record{}, false
		}
		at, last = at+Size, r.Seq
		return r, true
	}
}
