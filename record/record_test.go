package record_test

import (
	"bytes"
	"math"
	"testing"

	"firkin/api"
	"firkin/record"
)

// The chapter's examples

func TestExamples(t *testing.T) {
	b, e := record.Bytes(api.Record{Kind: api.RecSet, Seq: 1, A: 2})
	if e != api.OK || len(b) != 37 || b[0] != 1 || b[1] != 1 || b[9] != 2 {
		t.Errorf("Bytes: %v, %v", b, e)
	}
	wantNoBytes(t, api.Record{Kind: 5})
	wantNoRecord(t, make([]byte, 36), api.ErrCut)
	wantNoRecord(t, make([]byte, 37), api.ErrSum)
}

func wantNoBytes(t *testing.T, r api.Record) {
	t.Helper()
	if b, e := record.Bytes(r); b != nil || e != api.ErrArg {
		t.Errorf("Bytes of %+v: %v, %v", r, b, e)
	}
}

func wantNoRecord(t *testing.T, b []byte, want api.Errno) {
	t.Helper()
	if r, e := record.Parse(b); r != (api.Record{}) || e != want {
		t.Errorf("Parse of %v: %+v, %v, not %v", b, r, e, want)
	}
}

func wantRecord(t *testing.T, b []byte, want api.Record) {
	t.Helper()
	if r, e := record.Parse(b); r != want || e != api.OK {
		t.Errorf("Parse of %v: %+v, %v, not %+v", b, r, e, want)
	}
}

func TestSize(t *testing.T) {
	if record.Size != 37 {
		t.Errorf("%d", record.Size)
	}
}

// P8.1

func TestBytes(t *testing.T) {
	for _, r := range someRecords() {
		if b, e := record.Bytes(r); e != api.OK || !bytes.Equal(b, wantedBytes(r)) {
			t.Errorf("%+v: %v, %v, not %v", r, b, e, wantedBytes(r))
		}
	}
}

// The chapter's order of bytes, written out.
func TestBytesOneByOne(t *testing.T) {
	r := api.Record{Kind: 4, Seq: 0x0807060504030201, A: 0x1817161514131211, B: 0x2827262524232221, C: 0x3837363534333231}
	want := []byte{4,
		0x01, 0x02, 0x03, 0x04, 0x05, 0x06, 0x07, 0x08, 0x11, 0x12, 0x13, 0x14, 0x15, 0x16, 0x17, 0x18,
		0x21, 0x22, 0x23, 0x24, 0x25, 0x26, 0x27, 0x28, 0x31, 0x32, 0x33, 0x34, 0x35, 0x36, 0x37, 0x38}
	b, e := record.Bytes(r)
	if e != api.OK || !bytes.Equal(b, sealed(want)) {
		t.Errorf("%v, %v", b, e)
	}
	wantRecord(t, sealed(want), r)
}

func TestBytesOfNoKind(t *testing.T) {
	for kind := -300; kind <= 600; kind++ { // also those whose lowest byte is a kind's
		if kind < 1 || kind > 4 {
			wantNoBytes(t, api.Record{Kind: kind, Seq: 1, A: 2, B: 3, C: 4})
			wantNoBytes(t, api.Record{Kind: kind})
		}
	}
	for _, kind := range []int{math.MinInt, math.MinInt + 1, math.MinInt32, 1<<16 + 1, 1<<32 + 2, math.MaxInt32, math.MaxInt} {
		wantNoBytes(t, api.Record{Kind: kind, Seq: 1})
	}
}

func TestBytesAreNewMemory(t *testing.T) {
	for _, r := range someRecords() {
		a, _ := record.Bytes(r)
		b, _ := record.Bytes(r)
		spoil(a)
		if c, _ := record.Bytes(r); !bytes.Equal(b, wantedBytes(r)) || !bytes.Equal(c, wantedBytes(r)) {
			t.Errorf("%+v: not apart", r)
		}
	}
}

// P8.2

func TestParse(t *testing.T) {
	for _, r := range someRecords() {
		wantRecord(t, wantedBytes(r), r)
	}
}

// What stands behind the first 37 bytes doesn't count.
func TestParseOfMore(t *testing.T) {
	var n numbers = 3
	for _, r := range someRecords() {
		b := wantedBytes(r)
		for _, more := range [][]byte{{0}, {255}, n.bytes(1 + n.below(100)), wantedBytes(n.record())} {
			wantRecord(t, append(bytes.Clone(b), more...), r)
			wantNoRecord(t, append(bytes.Clone(more[:1]), b...), api.ErrSum)
		}
	}
}

func TestParseOfFewer(t *testing.T) {
	var n numbers = 4
	wantNoRecord(t, nil, api.ErrCut)
	for _, r := range []api.Record{{Kind: 1}, {Kind: 4, Seq: 9, A: 8, B: 7, C: 6}, n.record()} {
		b := wantedBytes(r)
		for count := range 37 {
			wantNoRecord(t, b[:count], api.ErrCut) // what stands behind the end of the row is none of its bytes
			wantNoRecord(t, bytes.Clone(b[:count]), api.ErrCut)
			wantNoRecord(t, make([]byte, count), api.ErrCut)
			wantNoRecord(t, n.bytes(count), api.ErrCut)
		}
	}
	for count := range 33 { // sealed, but too few
		wantNoRecord(t, sealed(n.bytes(count)), api.ErrCut)
	}
}

// Sealed bytes with one more or one less in front of the sum aren't a record's.
func TestParseOfOtherSizesSealed(t *testing.T) {
	var n numbers = 5
	for range 50 {
		b := wantedBytes(n.record())[:33]
		wantNoRecord(t, sealed(b[:32]), api.ErrCut)
		wantNoRecord(t, sealed(append(bytes.Clone(b), 0)), api.ErrSum)
		wantNoRecord(t, sealed(append(bytes.Clone(b), n.bytes(40)...)), api.ErrSum)
	}
}

func TestParseOfNoSum(t *testing.T) {
	var n numbers = 6
	for _, r := range []api.Record{{Kind: 1}, {Kind: 2, Seq: 1}, n.record(), n.record()} {
		b := wantedBytes(r)
		for i := range b {
			for change := 1; change < 256; change++ {
				b[i] ^= byte(change)
				wantNoRecord(t, b, api.ErrSum) // also where the Kind is none
				wantNoRecord(t, append(bytes.Clone(b), b...), api.ErrSum)
				b[i] ^= byte(change)
			}
		}
		wantRecord(t, b, r)
	}
	wantNoRecord(t, bytes.Repeat([]byte{255}, 37), api.ErrSum)
	wantNoRecord(t, make([]byte, 400), api.ErrSum)
}

func TestParseOfNoKind(t *testing.T) {
	var n numbers = 7
	for kind := range 256 {
		r := n.record()
		r.Kind = kind
		if kind >= 1 && kind <= 4 {
			wantRecord(t, wantedBytes(r), r)
			continue
		}
		wantNoRecord(t, wantedBytes(r), api.ErrForm)
		wantNoRecord(t, wantedBytes(api.Record{Kind: kind}), api.ErrForm)
		wantNoRecord(t, append(wantedBytes(r), n.bytes(20)...), api.ErrForm)
	}
}

func TestParseChangesNothing(t *testing.T) {
	var n numbers = 8
	for _, b := range [][]byte{nil, n.bytes(20), n.bytes(37), wantedBytes(n.record()), wantedBytes(api.Record{Kind: 7}), wantedRow(n.record(), n.record())} {
		row, same := guarded(b)
		record.Parse(row)
		if !same() {
			t.Errorf("%d bytes were changed", len(b))
		}
	}
}

func TestThereAndBack(t *testing.T) {
	var n numbers = 9
	for range 2000 {
		r := n.record()
		b, e := record.Bytes(r)
		if e != api.OK {
			t.Fatalf("%+v: %v", r, e)
		}
		wantRecord(t, b, r)
	}
}
