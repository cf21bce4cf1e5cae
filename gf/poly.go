package gf

import (
	"firkin/api"
)

// trim cuts off the zeroes at the end.
func trim(p []int) []int {
	for len(p) > 0 && p[len(p)-1] == 0 {
		p = p[:len(p)-1]
	}
	return p
}

// row is a polynomial as it is answered, in new memory: all of it elements, the last one not 0.
func (f *Field) row(p []int) []int {
	r := make([]int, len(p))
	copy(r, p)
	for i, a := range r {
		r[i] = f.element(a)
	}
	return trim(r)
}

// Eval is a polynomial's value.
func (f *Field) Eval(p []int, x int) int {
	sum := 0
	for i := len(p) - 1; i >= 0; i-- {
		sum = f.Add(f.Mul(sum, x), p[i])
	}
	return sum
}

// Times is the product of two polynomials.
func (f *Field) Times(p, q []int) []int {
	p, q = f.row(p), f.row(q)
	if len(p) == 0 || len(q) == 0 {
		return nil
	}
	r := make([]int, len(p)+len(q)-1)
	for i, a := range p {
		for j, b := range q {
			r[i+j] ^= f.Mul(a, b)
		}
	}
	return r
}

// Rest is what is left of a polynomial by another one.
func (f *Field) Rest(p, q []int) []int {
	p, q = f.row(p), f.row(q)
	if len(q) == 0 {
		return nil
	}
	inverse := f.Inv(q[len(q)-1])
	for len(p) >= len(q) {
		factor := f.Mul(p[len(p)-1], inverse)
		shift := len(p) - len(q)
		for i, a := range q {
			p[shift+i] ^= f.Mul(factor, a)
		}
		p = trim(p)
	}
	return p
}

// Minimal is the least polynomial over 0 and 1 that is 0 at a power of the root.
// What is over 0 and 1, and 0 at an element, is 0 at its square, too: the roots are all that squaring comes to.
func (f *Field) Minimal(n int) []int {
	if f.none() {
		return nil
	}
	first := f.Exp(n)
	p := []int{first, 1}
	for a := f.Mul(first, first); a != first; a = f.Mul(a, a) {
		p = f.Times(p, []int{a, 1})
	}
	return p
}

// Generator is the least one that is 0 at the first 2t powers.
func (f *Field) Generator(t int) ([]int, api.Errno) {
	if t < 1 || t > api.MaxT || 2*t > f.Size() {
		return nil, api.ErrArg
	}
	p := []int{1}
	for n := 1; n <= 2*t; n++ {
		if f.Eval(p, f.Exp(n)) != 0 {
			p = f.Times(p, f.Minimal(n))
		}
	}
	return p, api.OK
}
