package record_test

import (
	"bytes"
	"encoding/binary"
	"hash/crc32"
	"iter"
	"math"
	"slices"
	"testing"

	"firkin/api"
)

const size = 37

// numbers are the same in each run.
type numbers uint64

func (n *numbers) next() uint64 {
	*n = *n*6364136223846793005 + 1442695040888963407
	high := uint64(*n >> 32)
	*n = *n*6364136223846793005 + 1442695040888963407
	return high<<32 | uint64(*n>>32)
}

func (n *numbers) below(end int) int { return int(n.next() >> 33 % uint64(end)) }

func (n *numbers) bytes(count int) []byte {
	b := make([]byte, count)
	for i := range b {
		b[i] = byte(n.next() >> 24)
	}
	return b
}

// record is one that may be.
func (n *numbers) record() api.Record {
	return api.Record{Kind: 1 + n.below(4), Seq: n.next(), A: n.next(), B: n.next(), C: n.next()}
}

// sealed is bytes, and behind them their sum.
func sealed(b []byte) []byte {
	return binary.LittleEndian.AppendUint32(bytes.Clone(b), crc32.ChecksumIEEE(b))
}

// wantedBytes are a record's in the chapter's words, with any Kind of one byte.
func wantedBytes(r api.Record) []byte {
	b := []byte{byte(r.Kind)}
	for _, x := range []uint64{r.Seq, r.A, r.B, r.C} {
		b = binary.LittleEndian.AppendUint64(b, x)
	}
	return sealed(b)
}

// wantedRow is records' bytes, one's behind the other's.
func wantedRow(row ...api.Record) []byte {
	var b []byte
	for _, r := range row {
		b = append(b, wantedBytes(r)...)
	}
	return b
}

// wantedParse is what the chapter says of a record's bytes.
func wantedParse(b []byte) (api.Record, api.Errno) {
	if len(b) < 37 {
		return api.Record{}, api.ErrCut
	}
	if crc32.ChecksumIEEE(b[:33]) != binary.LittleEndian.Uint32(b[33:37]) {
		return api.Record{}, api.ErrSum
	}
	r := api.Record{Kind: int(b[0])}
	if r.Kind != 1 && r.Kind != 2 && r.Kind != 3 && r.Kind != 4 {
		return api.Record{}, api.ErrForm
	}
	r.Seq = binary.LittleEndian.Uint64(b[1:])
	r.A = binary.LittleEndian.Uint64(b[9:])
	r.B = binary.LittleEndian.Uint64(b[17:])
	r.C = binary.LittleEndian.Uint64(b[25:])
	return r, api.OK
}

// wantedAll is what the chapter says of the records that bytes begin with.
func wantedAll(b []byte) []api.Record {
	var row []api.Record
	for {
		r, e := wantedParse(b)
		if e != api.OK || len(row) > 0 && r.Seq <= row[len(row)-1].Seq {
			return row
		}
		row = append(row, r)
		b = b[37:]
	}
}

// someValues are edges, one byte alone at each place, and others.
func someValues() []uint64 {
	var n numbers = 1
	row := []uint64{0, 1, 2, 255, 256, math.MaxInt32, math.MaxUint32, math.MaxInt64, math.MaxInt64 + 1, math.MaxUint64}
	for i := range 8 {
		row = append(row, 1<<(8*i), 255<<(8*i), uint64(n.next()))
	}
	return row
}

// someRecords are all kinds, each number with each of some values.
func someRecords() []api.Record {
	var n numbers = 2
	var row []api.Record
	for kind := 1; kind <= 4; kind++ {
		row = append(row, api.Record{Kind: kind})
		for _, x := range someValues() {
			row = append(row, api.Record{Kind: kind, Seq: x}, api.Record{Kind: kind, A: x}, api.Record{Kind: kind, B: x}, api.Record{Kind: kind, C: x},
				api.Record{Kind: kind, Seq: x, A: n.next(), B: n.next(), C: n.next()})
		}
	}
	return row
}

// rising are records whose Seqs rise by any steps from a first one on.
func rising(n *numbers, count int, first uint64) []api.Record {
	row := make([]api.Record, count)
	for i := range row {
		row[i] = n.record()
		row[i].Seq = first
		first += 1 + n.next()>>uint(8+n.below(56))
	}
	return row
}

// guarded is b in the middle of other bytes, and a check that they all are as they were.
func guarded(b []byte) ([]byte, func() bool) {
	all := append(append([]byte{9, 9, 9}, b...), 7, 7, 7, 7, 7, 7, 7, 7)
	before := bytes.Clone(all)
	return all[3 : 3+len(b)], func() bool { return bytes.Equal(all, before) }
}

// spoil writes over a row, and over what room it has behind its end.
func spoil(b []byte) {
	b = b[:cap(b)]
	for i := range b {
		b[i] ^= 255
	}
}

// wantRecords tells whether just those records come when they are ranged over.
func wantRecords(t *testing.T, what string, got iter.Seq[api.Record], want []api.Record) {
	t.Helper()
	if got == nil {
		t.Fatalf("%s: none that can be ranged over", what)
	}
	if row := slices.Collect(got); !slices.Equal(row, want) {
		t.Errorf("%s: %+v, not %+v", what, row, want)
	}
}
