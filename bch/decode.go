package bch

// restOf is what g leaves of a word that was handed in, as a polynomial: all 0, if no bit was turned.
func (c *Code) restOf(data, parity []byte) []int {
	rest := make([]int, c.bits)
	for i, b := range c.parityOf(data) {
		b ^= parity[i]
		for power := c.bits - 1 - 8*i; b != 0; power-- {
			rest[power] = int(b >> 7)
			b <<= 1
		}
	}
	return rest
}

// syndromes are the values at the root's powers 1 to 2t. g is 0 there, so that of the whole word only the rest counts.
func (c *Code) syndromes(rest []int) []int {
	row := make([]int, 2*c.t)
	for i := range row {
		row[i] = c.field.Eval(rest, c.field.Exp(i+1))
	}
	return row
}

// locator is the shortest recurrence that makes the syndromes (Berlekamp and Massey), and its length: if at most t bits were turned, it is just so many, and the locator is 0 at the inverse of the root's power of each place.
func (c *Code) locator(syndromes []int) ([]int, int) {
	now, before := []int{1}, []int{0, 1}
	length := 0
	for n := range syndromes {
		gap := c.gap(now, syndromes[:n+1])
		next := sum(now, c.field.Times(before, []int{gap}))
		if gap != 0 && 2*length <= n {
			length = n + 1 - length
			before = c.field.Times(now, []int{c.field.Inv(gap)})
		}
		now, before = next, c.field.Times(before, []int{0, 1})
	}
	return now, length
}

// gap is by how much the recurrence misses the last one of the syndromes.
func (c *Code) gap(recurrence, syndromes []int) int {
	g := 0
	for i, a := range recurrence {
		if i < len(syndromes) {
			g = c.field.Add(g, c.field.Mul(a, syndromes[len(syndromes)-1-i]))
		}
	}
	return g
}

// sum is that of two polynomials.
func sum(p, q []int) []int {
	r := make([]int, max(len(p), len(q)))
	for i, a := range p {
		r[i] ^= a
	}
	for i, a := range q {
		r[i] ^= a
	}
	return r
}

// turn turns the bits at the places that the locator tells, in place, and tells how many there were. Fewer than turned mean that the others lie outside of the word, or that there are none: no word is near then.
// If all are there, what comes out is a word: syndromes of a binary polynomial at even powers are squares, so that a recurrence with turned different roots can only be the sum of these places.
func (c *Code) turn(data, parity []byte, locator []int, turned int) int {
	found := 0
	power := 8*c.bytes + c.bits
search:
	for _, part := range [][]byte{data, parity} {
		for i := range part {
			for bit := byte(128); bit > 0; bit >>= 1 {
				if found == turned || power == 0 {
					break search
				}
				power--
				if c.field.Eval(locator, c.field.Exp(-power)) == 0 {
					part[i] ^= bit
					found++
				}
			}
		}
	}
	return found
}
