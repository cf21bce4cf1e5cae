package bch

// remainder is a polynomial over 0 and 1 that is left by g, its highest coefficient (that of the power below g's degree) in high's highest bit. So bytes are pushed through alike whatever g's degree is, also where that is below 8.
type remainder struct {
	high, low uint64
}

func (r remainder) plus(s remainder) remainder {
	return remainder{r.high ^ s.high, r.low ^ s.low}
}

// push moves all of it up by eight powers: the byte that falls out, and what stays.
func (r remainder) push() (byte, remainder) {
	return byte(r.high >> 56), remainder{r.high<<8 | r.low>>56, r.low << 8}
}

// times is r times x, by g, whose coefficients but the highest one are below.
func (r remainder) times(below remainder) remainder {
	moved := remainder{r.high<<1 | r.low>>63, r.low << 1}
	if r.high>>63 == 0 {
		return moved
	}
	return moved.plus(below)
}

// bytes are the first n of it.
func (r remainder) bytes(n int) []byte {
	row := make([]byte, n)
	for i := range row {
		row[i], r = r.push()
	}
	return row
}

// lower is g without its highest coefficient.
func lower(g []int) remainder {
	var r remainder
	for _, a := range g[:len(g)-1] {
		r = remainder{r.high>>1 | uint64(a)<<63, r.low>>1 | r.high<<63}
	}
	return r
}

// restsBy is what g leaves of each byte that stands just above a remainder.
func restsBy(g []int) [256]remainder {
	var rests [256]remainder
	below := lower(g)
	for b := range rests {
		r := remainder{high: uint64(b) << 56}
		for range 8 {
			r = r.times(below)
		}
		rests[b] = r
	}
	return rests
}
