package record_test

import (
	"bytes"
	"math"
	"slices"
	"strconv"
	"testing"

	"firkin/api"
	"firkin/record"
)

// P8.3

func TestAllOfNothing(t *testing.T) {
	wantRecords(t, "nil", record.All(nil), nil)
	wantRecords(t, "no bytes", record.All([]byte{}), nil)
	full := wantedBytes(api.Record{Kind: 1})
	wantRecords(t, "no bytes of a record's", record.All(full[:0]), nil)
	wantRecords(t, "a byte too few", record.All(full[:36]), nil)
	wantRecords(t, "zeroes", record.All(make([]byte, 370)), nil)
}

func TestAllOfOne(t *testing.T) {
	for _, r := range someRecords() { // the first one's Seq may be any, also 0
		wantRecords(t, "one", record.All(wantedBytes(r)), []api.Record{r})
	}
}

// Of two Seqs only a second one that is above the first one counts.
func TestAllBySeqs(t *testing.T) {
	values := append(someValues(), 3, 4, math.MaxUint64-1, math.MaxInt64-1)
	for _, a := range values {
		for _, b := range values {
			first, second, third := api.Record{Kind: 1, Seq: a, A: 5}, api.Record{Kind: 2, Seq: b, A: 6}, api.Record{Kind: 3, Seq: math.MaxUint64}
			want := []api.Record{first}
			if b > a {
				want = append(want, second)
				if b < math.MaxUint64 {
					want = append(want, third)
				}
			}
			what := strconv.FormatUint(a, 10) + ", " + strconv.FormatUint(b, 10)
			wantRecords(t, what, record.All(wantedRow(first, second, third)), want)
		}
	}
}

// Each is held against the one ahead of it, not against the first one alone, and none behind the end counts.
func TestAllWhereSeqsFall(t *testing.T) {
	for _, c := range []struct {
		seqs []uint64
		want int
	}{
		{[]uint64{1, 5, 3}, 2},
		{[]uint64{1, 5, 3, 9}, 2},
		{[]uint64{1, 5, 5, 6}, 2},
		{[]uint64{1, 2, 3, 4, 3, 5}, 4},
		{[]uint64{9, 8, 10}, 1},
		{[]uint64{0, 0, 1}, 1},
		{[]uint64{0, 1, 0}, 2},
		{[]uint64{7, 7}, 1},
		{[]uint64{math.MaxUint64, 0, 1}, 1},
	} {
		var row []api.Record
		for i, seq := range c.seqs {
			row = append(row, api.Record{Kind: 1 + i%4, Seq: seq, A: uint64(i)})
		}
		wantRecords(t, "Seqs", record.All(wantedRow(row...)), row[:c.want])
	}
}

// A record that can't be parsed ends them, whatever is behind it.
func TestAllUpToOneThatIsWrong(t *testing.T) {
	var n numbers = 10
	row := rising(&n, 6, 3)
	whole := wantedRow(row...)
	for at := range row {
		b := bytes.Clone(whole)
		copy(b[at*size:], wantedBytes(api.Record{Kind: 5 * (at % 2), Seq: row[at].Seq})) // no kind: 0 or 5
		wantRecords(t, "no kind", record.All(b), row[:at])
		for i := range size {
			b := bytes.Clone(whole)
			b[at*size+i] ^= 1 << (i % 8)
			wantRecords(t, "a bit is turned", record.All(b), row[:at])
		}
		b = append(bytes.Clone(whole[:at*size]), 0) // the others stand one byte further on
		wantRecords(t, "a byte between", record.All(append(b, whole[at*size:]...)), row[:at])
	}
}

func TestAllOfACut(t *testing.T) {
	var n numbers = 11
	row := rising(&n, 5, 0)
	whole := wantedRow(row...)
	for count := range len(whole) + 1 {
		wantRecords(t, "a cut", record.All(whole[:count]), row[:count/size])
		wantRecords(t, "a cut", record.All(bytes.Clone(whole[:count])), row[:count/size])
	}
}

func TestAllStops(t *testing.T) {
	var n numbers = 12
	row := rising(&n, 7, 1)
	all := record.All(wantedRow(row...))
	for stop := 1; stop <= len(row); stop++ {
		var got []api.Record
		for r := range all {
			if got = append(got, r); len(got) == stop {
				break
			}
		}
		if !slices.Equal(got, row[:stop]) {
			t.Errorf("stopped at %d: %+v", stop, got)
		}
		wantRecords(t, "anew", all, row)
	}
}

// When it was told to stop, it tells nothing more.
func TestAllStopsAtOnce(t *testing.T) {
	var n numbers = 13
	row := rising(&n, 4, 1)
	for stop := 1; stop <= len(row); stop++ {
		calls := 0
		record.All(wantedRow(row...))(func(api.Record) bool {
			calls++
			return calls < stop
		})
		if calls != stop {
			t.Errorf("stopped at %d: %d calls", stop, calls)
		}
	}
}

// Two that go on at one time, of one Seq, know each where it stands.
func TestAllWithinAll(t *testing.T) {
	var n numbers = 14
	row := rising(&n, 5, 1)
	all := record.All(wantedRow(row...))
	var outer []api.Record
	for r := range all {
		outer = append(outer, r)
		wantRecords(t, "within", all, row)
	}
	if !slices.Equal(outer, row) {
		t.Errorf("%+v", outer)
	}
}

// A loop that is left by a panic leaves nothing behind.
func TestAllAfterAPanic(t *testing.T) {
	var n numbers = 15
	row := rising(&n, 5, 1)
	all := record.All(wantedRow(row...))
	func() {
		defer func() { recover() }()
		for range all {
			panic("left")
		}
	}()
	wantRecords(t, "anew", all, row)
}

// What was handed in is not changed, and not kept: who changes it later changes none of the records.
func TestAllKeepsNothing(t *testing.T) {
	var n numbers = 16
	for _, row := range [][]api.Record{nil, rising(&n, 1, 0), rising(&n, 6, 5)} {
		b, same := guarded(append(wantedRow(row...), n.bytes(50)...))
		all := record.All(b)
		wantRecords(t, "at first", all, row)
		if !same() {
			t.Errorf("%d bytes were changed", len(b))
		}
		var got []api.Record
		for r := range all {
			spoil(b[:len(b):len(b)])
			got = append(got, r)
		}
		if !slices.Equal(got, row) {
			t.Errorf("changed on the way: %+v", got)
		}
		wantRecords(t, "changed later", all, row)
	}
}

func TestAllOfAnyBytes(t *testing.T) {
	var n numbers = 17
	for range 3000 {
		var b []byte
		seq := uint64(n.below(3))
		for range n.below(6) {
			r := n.record()
			r.Kind = max(1, n.below(5)+n.below(2)*n.below(2)) // now and then 5
			r.Seq = seq
			seq += uint64(n.below(9)) // now and then not above
			b = append(b, wantedBytes(r)...)
		}
		if n.below(4) == 0 && len(b) > 0 {
			b[n.below(len(b))] ^= byte(1 + n.below(255))
		}
		b = append(b, n.bytes(n.below(80))...)
		wantRecords(t, "any bytes", record.All(b), wantedAll(b))
	}
}

// P8.4

// behind are bytes that begin with no record.
func behind(n *numbers) [][]byte {
	r := n.record()
	r.Seq = math.MaxUint64
	cut := wantedBytes(r)[:36]
	turned := wantedBytes(r)
	turned[n.below(size)] ^= byte(1 + n.below(255))
	return [][]byte{nil, {}, {1}, make([]byte, 500), bytes.Repeat([]byte{255}, 500), n.bytes(1 + n.below(36)), n.bytes(37), n.bytes(1000),
		cut, turned, append(turned, wantedBytes(r)...), append([]byte{0}, wantedBytes(r)...), wantedBytes(api.Record{Seq: math.MaxUint64}), wantedBytes(api.Record{Kind: 255, Seq: math.MaxUint64})}
}

func TestAllAreRead(t *testing.T) {
	var n numbers = 18
	for _, count := range []int{0, 1, 2, 3, 10, 111, 1000} {
		for _, first := range []uint64{0, 1, math.MaxUint32 - 3, n.next() >> 8} {
			row := rising(&n, count, first)
			for _, more := range behind(&n) {
				wantRecords(t, "all", record.All(append(wantedRow(row...), more...)), row)
			}
		}
	}
}

// By Bytes alone, as a journal does.
func TestAllOfBytes(t *testing.T) {
	var n numbers = 19
	row := rising(&n, 200, 1)
	var b []byte
	for i, r := range row {
		next, e := record.Bytes(r)
		if e != api.OK {
			t.Fatalf("%+v: %v", r, e)
		}
		b = append(b, next...)
		wantRecords(t, "written", record.All(append(bytes.Clone(b), n.bytes(n.below(60))...)), row[:i+1])
	}
}

// Up to the greatest Seq, one by one.
func TestAllUpToTheGreatestSeq(t *testing.T) {
	var row []api.Record
	for i := range 20 {
		row = append(row, api.Record{Kind: 1 + i%4, Seq: math.MaxUint64 - 19 + uint64(i)})
	}
	wantRecords(t, "greatest", record.All(wantedRow(row...)), row)
	wantRecords(t, "0 behind it", record.All(wantedRow(append(slices.Clone(row), api.Record{Kind: 1})...)), row)
}
