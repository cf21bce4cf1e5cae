package stripe

import (
	"firkin/api"
)

// Open is a row that is being filled.
type Open struct {
	layout api.Layout
	width  int
	parity int      // its place
	leaves int      // how many were added
	sum    api.Leaf // of these: no more of them is needed for the parity
}

// New is an empty row.
func New(l api.Layout, row, width int) (*Open, api.Errno) {
	sum, e := Sum(l, nil)
	if e != api.OK {
		return nil, e
	}
	parity := Place(row, width)
	if parity < 0 {
		return nil, api.ErrArg
	}
	return &Open{layout: l, width: width, parity: parity, sum: sum}, api.OK
}

// none tells whether there is no row: o is nil, or wasn't made by New.
func (o *Open) none() bool {
	return o == nil || o.width == 0
}

// Add adds a leaf: its place.
func (o *Open) Add(x api.Leaf) (int, api.Errno) {
	if o.none() {
		return 0, api.ErrArg
	}
	sum, e := Sum(o.layout, []api.Leaf{o.sum, x})
	if e != api.OK { // also where the row is full
		return 0, e
	}
	if o.Left() == 0 {
		return 0, api.ErrFull
	}
	place := o.leaves
	if place >= o.parity {
		place++
	}
	o.sum = sum
	o.leaves++
	return place, api.OK
}

// Left is how many leaves there is room for.
func (o *Open) Left() int {
	if o.none() {
		return 0
	}
	return o.width - 1 - o.leaves
}

// Parity is the parity of all leaves, and its place.
func (o *Open) Parity() (api.Leaf, int, api.Errno) {
	if o.none() {
		return api.Leaf{}, 0, api.ErrArg
	}
	sum, e := Sum(o.layout, []api.Leaf{o.sum}) // a copy, which whoever has it may change; a sum of leaves always may be
	return sum, o.parity, e
}
