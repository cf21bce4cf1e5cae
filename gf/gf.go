// Package gf reckons in fields of 2^m elements.
package gf

import (
	"sync"

	"firkin/api"
)

// minM is the m of the least field.
const minM = 2

// polynomials are the fields' own, from that of minM on: bit i is the coefficient of x^i.
var polynomials = [api.MaxM - minM + 1]int{7, 11, 19, 37, 67, 137, 285, 529, 1033, 2053, 4179, 8219}

// Field is a field of 2^m elements.
type Field struct {
	m      int
	once   sync.Once
	powers []int // the root's, twice over: the sum of two logs needs no division
	logs   []int // by elements; that of 0 means nothing
}

// New is the field of 2^m elements.
func New(m int) (*Field, api.Errno) {
	if m < minM || m > api.MaxM {
		return nil, api.ErrArg
	}
	return &Field{m: m}, api.OK
}

// M is m.
func (f *Field) M() int {
	if f == nil {
		return 0
	}
	return f.m
}

// Size is how many elements there are beside 0.
func (f *Field) Size() int {
	return 1<<f.M() - 1
}

// none tells whether there is no field: f is nil, or wasn't made by New.
func (f *Field) none() bool {
	return f.M() == 0
}

// element is a, if it is one; else 0.
func (f *Field) element(a int) int {
	if a < 0 || a > f.Size() {
		return 0
	}
	return a
}

// wrap is n by Size, 0 to Size - 1: the root's powers come again after so many.
func (f *Field) wrap(n int) int {
	n %= f.Size()
	if n < 0 {
		n += f.Size()
	}
	return n
}

// makeTables reckons the powers one by one, without products, which need the tables.
func (f *Field) makeTables() {
	var powers, logs [1 << api.MaxM]int
	size, polynomial := f.Size(), polynomials[f.m-minM]
	a := 1
	for n := range size {
		powers[n], logs[a] = a, n
		a <<= 1
		if a > size {
			a ^= polynomial
		}
	}
	f.powers = make([]int, 2*size)
	copy(f.powers, powers[:size])
	copy(f.powers[size:], powers[:size])
	f.logs = make([]int, size+1)
	copy(f.logs, logs[:size+1])
}

// Add is the sum of two.
func (f *Field) Add(a, b int) int {
	return f.element(a) ^ f.element(b)
}

// Mul is their product.
func (f *Field) Mul(a, b int) int {
	a, b = f.element(a), f.element(b)
	if a == 0 || b == 0 {
		return 0
	}
	f.once.Do(f.makeTables)
	return f.powers[f.logs[a]+f.logs[b]]
}

// Inv is what makes 1 with an element; 0 of 0.
func (f *Field) Inv(a int) int {
	if f.element(a) == 0 {
		return 0
	}
	return f.Exp(-f.Log(a))
}

// Pow is an element n times multiplied.
func (f *Field) Pow(a, n int) int {
	if f.none() {
		return 0
	}
	if n == 0 {
		return 1
	}
	if f.element(a) == 0 {
		return 0
	}
	return f.Exp(f.Log(a) * f.wrap(n))
}

// Log is which power of the root an element is; -1 of 0.
func (f *Field) Log(a int) int {
	if f.none() {
		return 0
	}
	a = f.element(a)
	if a == 0 {
		return -1
	}
	f.once.Do(f.makeTables)
	return f.logs[a]
}

// Exp is a power of the root.
func (f *Field) Exp(n int) int {
	if f.none() {
		return 0
	}
	f.once.Do(f.makeTables)
	return f.powers[f.wrap(n)]
}
