package gf_test

import (
	"math"
	"slices"
	"testing"

	"firkin/api"
	"firkin/gf"
)

// fieldPolynomials are those of the document, by m.
var fieldPolynomials = map[int]int{2: 7, 3: 11, 4: 19, 5: 37, 6: 67, 7: 137, 8: 285, 9: 529, 10: 1033, 11: 2053, 12: 4179, 13: 8219}

func mustField(t *testing.T, m int) *gf.Field {
	t.Helper()
	f, e := gf.New(m)
	if e != api.OK || f == nil {
		t.Fatalf("New(%d): %v, %v", m, f, e)
	}
	return f
}

func eachField(t *testing.T, do func(t *testing.T, m int, f *gf.Field)) {
	t.Helper()
	for m := 2; m <= api.MaxM; m++ {
		do(t, m, mustField(t, m))
	}
}

// someElements are all of a small field, and a spread with both ends of a greater one.
func someElements(m int) []int {
	size := 1<<m - 1
	step := 1
	if size > 31 {
		step = size / 23
	}
	var out []int
	for a := 0; a <= size; a += step {
		out = append(out, a)
	}
	return append(out, 1, 2, size-1, size)
}

// noElements are numbers that are none of the field's.
func noElements(m int) []int {
	return []int{-1, -2, math.MinInt, 1 << m, 1<<m + 1, 1 << 20, math.MaxInt}
}

// product is that of the polynomials of a and b, bit by bit, by the field's polynomial.
func product(m, a, b int) int {
	r := 0
	for i := range m {
		if b>>i&1 == 1 {
			r ^= a << i
		}
	}
	for i := 2 * m; i >= m; i-- {
		if r>>i&1 == 1 {
			r ^= fieldPolynomials[m] << (i - m)
		}
	}
	return r
}

// P1.1

func TestNewOfEachM(t *testing.T) {
	eachField(t, func(t *testing.T, m int, f *gf.Field) {
		if f.M() != m || f.Size() != 1<<m-1 {
			t.Errorf("New(%d): M %d, Size %d", m, f.M(), f.Size())
		}
	})
}

func TestNewOutside(t *testing.T) {
	for _, m := range []int{1, 14, 0, -1, -2, 15, 64, 1000, math.MinInt, math.MaxInt} {
		if f, e := gf.New(m); f != nil || e != api.ErrArg {
			t.Errorf("New(%d): %v, %v", m, f, e)
		}
	}
}

func TestNoField(t *testing.T) {
	for name, f := range map[string]*gf.Field{"nil": nil, "not made by New": {}} {
		answers := []int{f.M(), f.Size()}
		for _, a := range []int{-1, 0, 1, 2, 7, math.MinInt, math.MaxInt} {
			answers = append(answers, f.Inv(a), f.Log(a), f.Exp(a), f.Eval([]int{1, a, 1}, a), f.Eval(nil, a))
			for _, b := range []int{-3, 0, 1, 5} {
				answers = append(answers, f.Add(a, b), f.Mul(a, b), f.Pow(a, b))
			}
			if p := f.Minimal(a); len(p) != 0 {
				t.Errorf("%s: Minimal(%d): %v", name, a, p)
			}
			if p, e := f.Generator(a); len(p) != 0 || e != api.ErrArg {
				t.Errorf("%s: Generator(%d): %v, %v", name, a, p, e)
			}
		}
		for i, a := range answers {
			if a != 0 {
				t.Errorf("%s: answer %d is %d", name, i, a)
			}
		}
		p, q := []int{1, 1, 1}, []int{1, 1}
		if r, s := f.Times(p, q), f.Rest(p, q); len(r) != 0 || len(s) != 0 {
			t.Errorf("%s: Times %v, Rest %v", name, r, s)
		}
	}
}

// P1.2

func TestAddAndMul(t *testing.T) {
	eachField(t, func(t *testing.T, m int, f *gf.Field) {
		for _, a := range someElements(m) {
			for _, b := range someElements(m) {
				if f.Add(a, b) != a^b {
					t.Errorf("m %d: Add(%d, %d): %d", m, a, b, f.Add(a, b))
				}
				if f.Mul(a, b) != product(m, a, b) {
					t.Errorf("m %d: Mul(%d, %d): %d, not %d", m, a, b, f.Mul(a, b), product(m, a, b))
				}
			}
		}
	})
}

func TestInv(t *testing.T) {
	eachField(t, func(t *testing.T, m int, f *gf.Field) {
		if f.Inv(0) != 0 {
			t.Errorf("m %d: Inv(0): %d", m, f.Inv(0))
		}
		for a := 1; a <= f.Size(); a++ {
			if b := f.Inv(a); b < 1 || b > f.Size() || product(m, a, b) != 1 {
				t.Errorf("m %d: Inv(%d): %d", m, a, b)
			}
		}
	})
}

func TestExpAndLog(t *testing.T) {
	eachField(t, func(t *testing.T, m int, f *gf.Field) {
		if f.Log(0) != -1 {
			t.Errorf("m %d: Log(0): %d", m, f.Log(0))
		}
		seen := make([]bool, f.Size()+1)
		power := 1
		for n := range f.Size() {
			if f.Exp(n) != power || f.Log(power) != n || seen[power] {
				t.Errorf("m %d: Exp(%d): %d, Log(%d): %d", m, n, f.Exp(n), power, f.Log(power))
			}
			seen[power] = true
			power = product(m, power, 2)
		}
	})
}

// remainder is n by size, not below 0, also of the least n.
func remainder(n, size int) int {
	return (n%size + size) % size
}

func farPowers(size int) []int {
	return []int{-1, -2, -size, -size - 1, -1 - 2*size, size, size + 1, 3*size - 1, 1_000_003, -1_000_003, math.MaxInt, math.MinInt, math.MinInt + 1}
}

func TestExpOfAnyPower(t *testing.T) {
	eachField(t, func(t *testing.T, m int, f *gf.Field) {
		for _, n := range farPowers(f.Size()) {
			if want := f.Exp(remainder(n, f.Size())); f.Exp(n) != want {
				t.Errorf("m %d: Exp(%d): %d, not %d", m, n, f.Exp(n), want)
			}
		}
	})
}

func TestPow(t *testing.T) {
	eachField(t, func(t *testing.T, m int, f *gf.Field) {
		for _, a := range someElements(m) {
			up, down := 1, 1
			for n := range 40 {
				if f.Pow(a, n) != up || f.Pow(a, -n) != down {
					t.Errorf("m %d: Pow(%d, %d): %d, not %d; of -n: %d, not %d", m, a, n, f.Pow(a, n), up, f.Pow(a, -n), down)
				}
				up, down = product(m, up, a), product(m, down, f.Inv(a))
			}
		}
	})
}

func TestPowFar(t *testing.T) {
	eachField(t, func(t *testing.T, m int, f *gf.Field) {
		for _, n := range farPowers(f.Size()) {
			if f.Pow(0, n) != 0 {
				t.Errorf("m %d: Pow(0, %d): %d", m, n, f.Pow(0, n))
			}
			for _, a := range someElements(m)[1:] {
				want := 1
				for range remainder(n, f.Size()) {
					want = f.Mul(want, a)
				}
				if f.Pow(a, n) != want {
					t.Errorf("m %d: Pow(%d, %d): %d, not %d", m, a, n, f.Pow(a, n), want)
				}
			}
		}
	})
}

func TestNoElementsCountAsZero(t *testing.T) {
	eachField(t, func(t *testing.T, m int, f *gf.Field) {
		for _, a := range noElements(m) {
			if f.Add(a, 3) != 3 || f.Add(3, a) != 3 || f.Add(a, a) != 0 {
				t.Errorf("m %d: Add with %d", m, a)
			}
			if f.Mul(a, 3) != 0 || f.Mul(3, a) != 0 || f.Mul(a, a) != 0 {
				t.Errorf("m %d: Mul with %d", m, a)
			}
			if f.Inv(a) != 0 || f.Log(a) != -1 {
				t.Errorf("m %d: Inv(%d): %d, Log %d", m, a, f.Inv(a), f.Log(a))
			}
			if f.Pow(a, 0) != 1 || f.Pow(a, 1) != 0 || f.Pow(a, -1) != 0 || f.Pow(a, math.MinInt) != 0 {
				t.Errorf("m %d: Pow of %d", m, a)
			}
		}
	})
}

// P1.5

func TestLawsOfAField(t *testing.T) {
	eachField(t, func(t *testing.T, m int, f *gf.Field) {
		all := someElements(m)
		for _, a := range all {
			if f.Add(a, 0) != a || f.Mul(a, 1) != a || f.Mul(a, 0) != 0 || f.Add(a, a) != 0 {
				t.Errorf("m %d: 0 and 1 with %d", m, a)
			}
			for _, b := range all {
				if f.Add(a, b) != f.Add(b, a) || f.Mul(a, b) != f.Mul(b, a) {
					t.Errorf("m %d: %d and %d can't be turned", m, a, b)
				}
				for _, c := range all {
					if f.Add(f.Add(a, b), c) != f.Add(a, f.Add(b, c)) || f.Mul(f.Mul(a, b), c) != f.Mul(a, f.Mul(b, c)) {
						t.Errorf("m %d: %d, %d, %d can't be put together otherwise", m, a, b, c)
					}
					if f.Mul(a, f.Add(b, c)) != f.Add(f.Mul(a, b), f.Mul(a, c)) {
						t.Errorf("m %d: %d (%d + %d) can't be taken apart", m, a, b, c)
					}
				}
			}
		}
	})
}

func TestLogOfAProduct(t *testing.T) {
	eachField(t, func(t *testing.T, m int, f *gf.Field) {
		for _, a := range someElements(m)[1:] {
			for _, b := range someElements(m)[1:] {
				if f.Log(f.Mul(a, b)) != (f.Log(a)+f.Log(b))%f.Size() {
					t.Errorf("m %d: Log of %d times %d", m, a, b)
				}
			}
		}
	})
}

// The chapter's examples.

func TestExamples(t *testing.T) {
	f := mustField(t, 4)
	if f.Mul(2, 9) != 1 || f.Inv(2) != 9 || f.Log(9) != 14 || f.Pow(2, -1) != 9 || f.Exp(-1) != 9 {
		t.Errorf("Mul %d, Inv %d, Log %d, Pow %d, Exp %d", f.Mul(2, 9), f.Inv(2), f.Log(9), f.Pow(2, -1), f.Exp(-1))
	}
	for n, want := range map[int][]int{1: {1, 1, 0, 0, 1}, 0: {1, 1}, 5: {1, 1, 1}} {
		if p := f.Minimal(n); !slices.Equal(p, want) {
			t.Errorf("Minimal(%d): %v, not %v", n, p, want)
		}
	}
	if p, e := f.Generator(2); e != api.OK || !slices.Equal(p, []int{1, 0, 0, 0, 1, 0, 1, 1, 1}) {
		t.Errorf("Generator(2): %v, %v", p, e)
	}
	if p, e := f.Generator(8); e != api.ErrArg || len(p) != 0 {
		t.Errorf("Generator(8): %v, %v", p, e)
	}
}
