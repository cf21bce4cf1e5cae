package dftl

import (
	"slices"

	"firkin/api"
)

// pages are those that a pager holds. What can't be had of it is thrown, up to where it is caught.
type pages struct {
	pager  api.Pager
	per    int // numbers of a page
	loads  int
	stores int
}

// thrown is an error on its way. It is a type of its own, so that nothing that a pager throws is taken for one.
type thrown struct {
	e api.Errno
}

// caught does something, and is the error that was thrown out of it. A pager that panics may not be: it is handed in, and may be anything, a nil pointer as well.
func caught(do func()) (e api.Errno) {
	defer func() {
		switch x := recover().(type) {
		case nil:
		case thrown:
			e = x.e
		default:
			e = api.ErrArg
		}
	}()
	do()
	return api.OK
}

// need throws an error, if it is one.
func need(e api.Errno) {
	if e != api.OK {
		panic(thrown{e})
	}
}

// place is a key's: its page, and where it stands there.
func (p *pages) place(key int) (page, at int) { return key / p.per, key % p.per }

// keys are those of a page: from lo to below hi.
func (p *pages) keys(page int) (lo, hi int) { return page * p.per, (page + 1) * p.per }

// load is a page's numbers, in new memory.
func (p *pages) load(n int) []uint64 {
	p.loads++
	l, e := p.pager.Load(n)
	need(e)
	if len(l) != p.per {
		need(api.ErrArg) // that is no page
	}
	return slices.Clone(l)
}

// store gives a page numbers, which are the pager's from now on.
func (p *pages) store(n int, l []uint64) {
	p.stores++
	need(p.pager.Store(n, l))
}
