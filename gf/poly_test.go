package gf_test

import (
	"math"
	"slices"
	"testing"

	"firkin/api"
	"firkin/gf"
)

// clean is a polynomial as it counts: what is no element is 0, and it ends with another one.
func clean(m int, p []int) []int {
	var out []int
	for _, a := range p {
		if a < 0 || a >= 1<<m {
			a = 0
		}
		out = append(out, a)
	}
	for len(out) > 0 && out[len(out)-1] == 0 {
		out = out[:len(out)-1]
	}
	return out
}

// value is a polynomial's, power by power.
func value(m int, p []int, x int) int {
	sum, power := 0, 1
	for _, a := range clean(m, p) {
		sum ^= product(m, a, power)
		power = product(m, power, clean(m, []int{x, 1})[0])
	}
	return sum
}

// timesBy is the product of two polynomials, coefficient by coefficient.
func timesBy(m int, p, q []int) []int {
	p, q = clean(m, p), clean(m, q)
	out := make([]int, len(p)+len(q))
	for i, a := range p {
		for j, b := range q {
			out[i+j] ^= product(m, a, b)
		}
	}
	return clean(m, out)
}

func sum(m int, p, q []int) []int {
	p, q = clean(m, p), clean(m, q)
	out := make([]int, max(len(p), len(q)))
	copy(out, p)
	for i, a := range q {
		out[i] ^= a
	}
	return clean(m, out)
}

// somePolynomials are short and long ones, with zeroes at their ends and numbers that are no elements.
func somePolynomials(m int) [][]int {
	size := 1<<m - 1
	out := [][]int{
		nil, {}, {0}, {0, 0, 0}, {-1}, {1 << m, math.MinInt, math.MaxInt},
		{1}, {3}, {size}, {0, 1}, {1, 1}, {2, 3, 1}, {3, 2, 1, 0, 0}, {2, 1, 1 << m}, {1, -1, 3, -5},
		{0, 0, 2}, {1 << m, 2, -7, 3}, {size, size, size}, {1, 0, 0, 0, 0, 1},
	}
	seed := 1
	for n := 2; n < 14; n += 3 {
		p := make([]int, n)
		for i := range p {
			seed = (seed*1103515245 + 12345) % (1 << 31)
			p[i] = seed >> 8 % (size + 1)
		}
		out = append(out, p)
	}
	return out
}

// P1.3

func TestEval(t *testing.T) {
	eachField(t, func(t *testing.T, m int, f *gf.Field) {
		for _, p := range somePolynomials(m) {
			for _, x := range append(someElements(m), noElements(m)...) {
				if got, want := f.Eval(p, x), value(m, p, x); got != want {
					t.Errorf("m %d: Eval(%v, %d): %d, not %d", m, p, x, got, want)
				}
			}
		}
	})
}

func TestEvalByHand(t *testing.T) {
	f := mustField(t, 4)
	for _, c := range []struct {
		p       []int
		x, want int
	}{
		{nil, 3, 0}, {[]int{5}, 3, 5}, {[]int{16}, 3, 0}, {[]int{5, 1}, 0, 5}, {[]int{5, 1}, 16, 5}, {[]int{5, 1}, -1, 5},
		{[]int{0, 1}, 7, 7}, {[]int{1, 1, 0, 0, 1}, 2, 0}, {[]int{0, 0, 1, 0}, 3, 5}, {[]int{1, 99, 1}, 3, 4},
	} {
		if got := f.Eval(c.p, c.x); got != c.want {
			t.Errorf("Eval(%v, %d): %d, not %d", c.p, c.x, got, c.want)
		}
	}
}

func TestTimes(t *testing.T) {
	eachField(t, func(t *testing.T, m int, f *gf.Field) {
		for _, p := range somePolynomials(m) {
			for _, q := range somePolynomials(m) {
				if got, want := f.Times(p, q), timesBy(m, p, q); !slices.Equal(got, want) {
					t.Errorf("m %d: Times(%v, %v): %v, not %v", m, p, q, got, want)
				}
			}
		}
	})
}

func TestRestByHand(t *testing.T) {
	f := mustField(t, 4)
	for _, c := range []struct{ p, q, want []int }{
		{nil, []int{1, 1}, nil},
		{[]int{1, 2, 3}, nil, nil},
		{[]int{1, 2, 3}, []int{0, 0}, nil},
		{[]int{1, 2, 3}, []int{16, -1}, nil},
		{[]int{1, 2, 3}, []int{5}, nil},
		{[]int{7, 3}, []int{0, 0, 1}, []int{7, 3}},
		{[]int{7, 3, 0, 16, -2}, []int{0, 0, 1}, []int{7, 3}},
		{[]int{7, 3, 9}, []int{0, 0, 5}, []int{7, 3}},
		{[]int{1, 0, 1}, []int{1, 1}, nil},
		{[]int{0, 0, 1}, []int{1, 1}, []int{1}},
		{[]int{0, 0, 1}, []int{1, 1, 0, 99}, []int{1}},
		{[]int{0, 0, 1}, []int{3, 1}, []int{5}},
		{[]int{0, 0, 0, 0, 1}, []int{1, 1, 0, 0, 1}, []int{1, 1}},
	} {
		if got := f.Rest(c.p, c.q); !slices.Equal(got, c.want) {
			t.Errorf("Rest(%v, %v): %v, not %v", c.p, c.q, got, c.want)
		}
	}
}

// What is left of q k + r is r, if its degree is below q's: there is no other one.
func TestRestOfAProductAndMore(t *testing.T) {
	eachField(t, func(t *testing.T, m int, f *gf.Field) {
		for _, q := range somePolynomials(m) {
			for _, k := range somePolynomials(m) {
				for _, r := range somePolynomials(m) {
					if r = clean(m, r); len(r) >= len(clean(m, q)) {
						continue
					}
					if got := f.Rest(sum(m, timesBy(m, q, k), r), q); !slices.Equal(got, r) {
						t.Errorf("m %d: Rest by %v: %v, not %v", m, q, got, r)
					}
				}
			}
		}
	})
}

func TestRestIsBelowTheDivisor(t *testing.T) {
	eachField(t, func(t *testing.T, m int, f *gf.Field) {
		for _, p := range somePolynomials(m) {
			for _, q := range somePolynomials(m) {
				r := f.Rest(p, q)
				if len(clean(m, q)) == 0 {
					if len(r) != 0 {
						t.Errorf("m %d: Rest(%v, %v): %v", m, p, q, r)
					}
					continue
				}
				if len(r) >= len(clean(m, q)) || !slices.Equal(r, clean(m, r)) {
					t.Errorf("m %d: Rest(%v, %v): %v", m, p, q, r)
				}
				if left := f.Rest(sum(m, p, r), q); len(left) != 0 {
					t.Errorf("m %d: %v less %v is no product of %v", m, p, r, q)
				}
			}
		}
	})
}

// guarded is a row with room behind it, which nobody may write to.
func guarded(p []int) (row, whole []int) {
	whole = append(slices.Clone(p), 7, 7, 7, 7, 7, 7, 7, 7)
	return whole[:len(p)], whole
}

func TestRowsHandedInStay(t *testing.T) {
	eachField(t, func(t *testing.T, m int, f *gf.Field) {
		for _, p := range somePolynomials(m) {
			for _, q := range somePolynomials(m) {
				a, wholeA := guarded(p)
				b, wholeB := guarded(q)
				oldA, oldB := slices.Clone(wholeA), slices.Clone(wholeB)
				f.Eval(a, 3)
				for _, out := range [][]int{f.Times(a, b), f.Rest(a, b)} {
					spoil(out)
				}
				if !slices.Equal(wholeA, oldA) || !slices.Equal(wholeB, oldB) {
					t.Fatalf("m %d: %v, %v changed: %v, %v", m, oldA, oldB, wholeA, wholeB)
				}
			}
		}
	})
}

// spoil writes over a row, and over what room it has behind its end.
func spoil(p []int) {
	p = p[:cap(p)]
	for i := range p {
		p[i] = -1
	}
}

func TestAnswersAreNewMemory(t *testing.T) {
	eachField(t, func(t *testing.T, m int, f *gf.Field) {
		generate := func() []int {
			p, _ := f.Generator(1)
			return p
		}
		for name, call := range map[string]func() []int{
			"Times":     func() []int { return f.Times([]int{1, 2}, []int{1}) },
			"Rest":      func() []int { return f.Rest([]int{1, 2}, []int{0, 0, 0, 1}) },
			"Minimal":   func() []int { return f.Minimal(1) },
			"Generator": generate,
		} {
			first := call()
			old := slices.Clone(first)
			spoil(first)
			if again := call(); len(old) == 0 || !slices.Equal(again, old) {
				t.Errorf("m %d: %s: %v, not %v", m, name, again, old)
			}
		}
		if f.Mul(2, f.Inv(2)) != 1 || f.Exp(1) != 2 {
			t.Errorf("m %d: the field has changed", m)
		}
	})
}

// P1.4

// bitsOf is a polynomial over 0 and 1, from a number.
func bitsOf(n int) []int {
	var out []int
	for ; n > 0; n >>= 1 {
		out = append(out, n&1)
	}
	return out
}

// leastWith is the first polynomial over 0 and 1 that is 0 at all these elements.
func leastWith(m int, roots []int) []int {
search:
	for n := 1; ; n++ {
		p := bitsOf(n)
		for _, x := range roots {
			if value(m, p, x) != 0 {
				continue search
			}
		}
		return p
	}
}

func TestMinimalIsTheLeast(t *testing.T) {
	for m := 2; m <= 7; m++ {
		f := mustField(t, m)
		for n := range f.Size() {
			if got, want := f.Minimal(n), leastWith(m, []int{f.Exp(n)}); !slices.Equal(got, want) {
				t.Errorf("m %d: Minimal(%d): %v, not %v", m, n, got, want)
			}
		}
	}
}

// The field's polynomial is the root's own.
func TestMinimalOfTheRoot(t *testing.T) {
	eachField(t, func(t *testing.T, m int, f *gf.Field) {
		if got, want := f.Minimal(1), bitsOf(fieldPolynomials[m]); !slices.Equal(got, want) {
			t.Errorf("m %d: Minimal(1): %v, not %v", m, got, want)
		}
	})
}

// degreeOf is how many elements squaring comes to from Exp(n) on.
func degreeOf(n, size int) int {
	first := remainder(n, size)
	degree := 1
	for i := 2 * first % size; i != first; i = 2 * i % size {
		degree++
	}
	return degree
}

func isBinary(p []int) bool {
	for _, a := range p {
		if a != 0 && a != 1 {
			return false
		}
	}
	return len(p) > 0 && p[len(p)-1] == 1
}

func TestMinimalOfAnyPower(t *testing.T) {
	eachField(t, func(t *testing.T, m int, f *gf.Field) {
		size := f.Size()
		for _, n := range append(farPowers(size), 0, 1, 3, 5, 7, size-1, size/3, size/7, 5*size+3) {
			p := f.Minimal(n)
			if !isBinary(p) || value(m, p, f.Exp(n)) != 0 || len(p)-1 != degreeOf(n, size) {
				t.Errorf("m %d: Minimal(%d): %v", m, n, p)
			}
			if !slices.Equal(p, f.Minimal(remainder(n, size))) {
				t.Errorf("m %d: Minimal(%d) isn't that by Size", m, n)
			}
		}
	})
}

func powersUpTo(f *gf.Field, last int) []int {
	var out []int
	for n := 1; n <= last; n++ {
		out = append(out, f.Exp(n))
	}
	return out
}

func TestGeneratorIsTheLeast(t *testing.T) {
	for m := 2; m <= 4; m++ {
		f := mustField(t, m)
		for n := 1; 2*n <= f.Size(); n++ {
			got, e := f.Generator(n)
			if want := leastWith(m, powersUpTo(f, 2*n)); e != api.OK || !slices.Equal(got, want) {
				t.Errorf("m %d: Generator(%d): %v, %v, not %v", m, n, got, e, want)
			}
		}
	}
}

func TestGeneratorOutside(t *testing.T) {
	eachField(t, func(t *testing.T, m int, f *gf.Field) {
		for _, n := range []int{0, -1, -8, 9, 100, math.MaxInt, math.MinInt, math.MaxInt/2 + 2, math.MinInt/2 + 1} {
			if p, e := f.Generator(n); len(p) != 0 || e != api.ErrArg {
				t.Errorf("m %d: Generator(%d): %v, %v", m, n, p, e)
			}
		}
		for n := 1; n <= api.MaxT; n++ {
			want := api.OK
			if 2*n > f.Size() {
				want = api.ErrArg
			}
			if p, e := f.Generator(n); e != want || (len(p) == 0) != (want == api.ErrArg) {
				t.Errorf("m %d: Generator(%d): %v, %v", m, n, p, e)
			}
		}
	})
}

// P1.4 and P1.5: the product of the unlike Minimals of the first 2t powers is the least of all; it goes into x^Size - 1.
func TestGeneratorIsAProductOfMinimals(t *testing.T) {
	eachField(t, func(t *testing.T, m int, f *gf.Field) {
		whole := make([]int, f.Size()+1)
		whole[0], whole[f.Size()] = 1, 1
		for n := 1; n <= api.MaxT && 2*n <= f.Size(); n++ {
			p, e := f.Generator(n)
			if e != api.OK || !isBinary(p) {
				t.Fatalf("m %d: Generator(%d): %v, %v", m, n, p, e)
			}
			for _, x := range powersUpTo(f, 2*n) {
				if value(m, p, x) != 0 {
					t.Errorf("m %d: Generator(%d) isn't 0 at %d", m, n, x)
				}
			}
			if want := productOfMinimals(m, f, 2*n); !slices.Equal(p, want) {
				t.Errorf("m %d: Generator(%d): %v, not %v", m, n, p, want)
			}
			if left := f.Rest(whole, p); len(left) != 0 {
				t.Errorf("m %d: Generator(%d) leaves %v of x^Size - 1", m, n, left)
			}
		}
	})
}

func productOfMinimals(m int, f *gf.Field, last int) []int {
	var parts [][]int
	out := []int{1}
	for n := 1; n <= last; n++ {
		p := f.Minimal(n)
		if slices.ContainsFunc(parts, func(q []int) bool { return slices.Equal(p, q) }) {
			continue
		}
		parts = append(parts, p)
		out = timesBy(m, out, p)
	}
	return out
}
