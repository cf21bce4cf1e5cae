package journal_test

import (
	"bytes"
	"maps"
	"math"
	"slices"
	"strconv"
	"testing"

	"firkin/api"
	"firkin/journal"
	"firkin/record"
)

// The chapter's examples

func TestExamples(t *testing.T) {
	x := newTape(8, 128)
	j := opened(t, x)
	wantErrno(t, "Set", j.Set(5, 7), api.OK)
	wantErrno(t, "Sync", j.Sync(), api.OK)
	j = opened(t, x)
	wantMap(t, "again", j, model{5: 7})
	wantErrno(t, "Drop", j.Drop(5), api.OK)
	var n numbers = 1
	for _, l := range x.allLeft(&n, false, 100) {
		if m := mapOf(t, opened(t, l)); !maps.Equal(m, model{5: 7}) && len(m) != 0 {
			t.Errorf("gone: %v", m)
		}
	}
}

// P9.1

// wantNone tells whether Open answers an error, and nothing else.
func wantNone(t *testing.T, what string, x api.Tape, want api.Errno) {
	t.Helper()
	if j, e := journal.Open(x); j != nil || e != want {
		t.Errorf("Open of %s: %v, %v, not %v", what, j, e, want)
	}
}

// sized is a tape that tells any sizes, and can't do anything.
type sized struct{ blocks, bytes int }

func (s sized) Blocks() int                  { return s.blocks }
func (s sized) Bytes() int                   { return s.bytes }
func (s sized) Read(int) ([]byte, api.Errno) { return nil, 99 }
func (s sized) Write(int, []byte) api.Errno  { return 98 }
func (s sized) Sync() api.Errno              { return 97 }

func TestOpenOfNoTape(t *testing.T) {
	wantNone(t, "nil", nil, api.ErrArg)
	for _, blocks := range []int{math.MinInt, -8, -1, 0, 1, 7, 8, 9, 1000, math.MaxInt} {
		for _, size := range []int{math.MinInt, -128, -1, 0, 1, 37, 127, 128, 129, 4096, math.MaxInt} {
			want := api.ErrArg
			if blocks >= 8 && size >= 128 {
				want = 99 // the Read's
			}
			wantNone(t, strconv.Itoa(blocks)+" blocks of "+strconv.Itoa(size), sized{blocks, size}, want)
		}
	}
}

func TestOpenOfEmptyTapes(t *testing.T) {
	for blocks := 8; blocks < 40; blocks++ {
		for _, size := range []int{128, 129, 147, 148, 300, 4096} {
			x := newTape(blocks, size)
			wantMap(t, "empty", opened(t, x), model{})
			x.check(t)
		}
	}
}

// worn is a tape on which both roots, and both logs, are in use.
func worn(t *testing.T, n *numbers, blocks, size int) (*tape, model) {
	t.Helper()
	x, m := newTape(blocks, size), model{}
	j := opened(t, x)
	for range 8 * blocks * (size / 37) {
		c := n.call(j.Room())
		after, want := c.behind(m, j.Room())
		wantErrno(t, "worn", c.to(j), want)
		m = after
	}
	wantErrno(t, "Sync", j.Sync(), api.OK)
	return x, m
}

func TestOpenOnlyReads(t *testing.T) {
	var n numbers = 2
	for _, s := range shapes() {
		x, m := worn(t, &n, s[0], s[1])
		x.check(t)
		for range 5 {
			l := x.anyLeft(&n, false)
			j := opened(t, l)
			wantMap(t, "worn", j, m)
			j.Room()
			j.Get(1)
			if l.writes != 0 || l.syncs != 0 {
				t.Errorf("%d writes, %d syncs", l.writes, l.syncs)
			}
			l.check(t)
		}
	}
}

// A Read's error is told, of whichever block, and whatever stands in others.
func TestOpenWhereAReadFails(t *testing.T) {
	var n numbers = 3
	x, _ := worn(t, &n, 12, 128)
	spoilt := x.anyLeft(&n, false)
	for i := range spoilt.may {
		spoilt.may[i] = [][]byte{n.bytes(128)}
	}
	wantNone(t, "any bytes", spoilt, api.ErrTape)
	for _, y := range []*tape{x, spoilt, newTape(12, 128)} {
		for at := range y.may {
			y.read = func(i int) api.Errno {
				if i == at {
					return api.Errno(500 + i)
				}
				return api.OK
			}
			wantNone(t, "a tape that can't be read", y, api.Errno(500+at))
			y.read = nil
		}
		y.check(t)
	}
}

func TestOpenOfOtherBytes(t *testing.T) {
	for _, fill := range []byte{1, 4, 128, 255} {
		x := newTape(8, 128)
		for i := range x.may {
			x.may[i] = [][]byte{bytes.Repeat([]byte{fill}, 128)}
		}
		wantNone(t, "other bytes", x, api.ErrTape)
	}
}

// sets are the bytes of a block of 128 that holds Sets of the keys, from one Seq on.
func sets(t *testing.T, seq uint64, keys ...uint64) []byte {
	t.Helper()
	b := make([]byte, 0, 128)
	for i, key := range keys {
		r, e := record.Bytes(api.Record{Kind: api.RecSet, Seq: seq + uint64(i), A: key, B: key})
		wantErrno(t, "Bytes", e, api.OK)
		b = append(b, r...)
	}
	return b[:128]
}

// What no journal leaves is found out, also where each block is one of a journal's.
func TestOpenOfOtherBlocks(t *testing.T) {
	for _, c := range []struct {
		what   string
		blocks map[int][]byte
	}{
		{"no root", map[int][]byte{0: sets(t, 1, 0)}},
		{"no other root", map[int][]byte{1: sets(t, 1, 0)}},
		{"a log without its first block", map[int][]byte{3: sets(t, 4, 1)}},
		{"a log without another block", map[int][]byte{2: sets(t, 1, 1, 2, 1), 4: sets(t, 7, 1)}},
		{"a log with a block of other Seqs", map[int][]byte{2: sets(t, 1, 1, 2, 1), 3: sets(t, 1, 2)}},
		{"a log with a record that is missing", map[int][]byte{2: sets(t, 1, 1, 2, 1), 3: sets(t, 5, 2)}},
		{"more keys than there is room for", map[int][]byte{2: sets(t, 1, 1, 2, 3), 3: sets(t, 4, 4)}},
	} {
		x := newTape(8, 128)
		for i, b := range c.blocks {
			x.may[i] = [][]byte{b}
		}
		wantNone(t, c.what, x, api.ErrTape)
	}
}

// A checkpoint that is not there, though its root is, is found out.
func TestOpenWithoutACheckpoint(t *testing.T) {
	x := newTape(8, 128)
	j := opened(t, x)
	for k := uint64(0); bytes.Equal(x.last(1), make([]byte, 128)); k++ {
		wantErrno(t, "Set", j.Set(k%3, k), api.OK)
	}
	wantErrno(t, "Sync", j.Sync(), api.OK)
	opened(t, x)
	for i := 5; i < 8; i++ {
		x.may[i] = [][]byte{make([]byte, 128)}
	}
	wantNone(t, "a root alone", x, api.ErrTape)
}

// Some answer is told, whatever stands on a tape; and a journal that is told does what is asked.
func TestOpenOfAnyBytes(t *testing.T) {
	var n numbers = 4
	full, _ := worn(t, &n, 10, 128)
	other, _ := worn(t, &n, 10, 128)
	told, refused := 0, 0
	for range 3000 {
		x := full.anyLeft(&n, false)
		for range 1 + n.below(3) {
			i, from := n.below(10), [][]byte{n.bytes(128), make([]byte, 128), other.last(n.below(10)), full.last(n.below(10))}
			b := bytes.Clone(from[n.below(4)])
			if n.below(3) == 0 {
				b = bytes.Clone(x.last(i))
				b[n.below(128)] ^= 1 << n.below(8)
			}
			x.may[i] = [][]byte{b}
		}
		j, e := journal.Open(x)
		if e != api.OK {
			refused++
			wantErrno(t, "any bytes", e, api.ErrTape)
			continue
		}
		told++
		m := mapOf(t, j)
		for range n.below(60) {
			c := n.call(j.Room())
			after, want := c.behind(m, j.Room())
			wantErrno(t, "any bytes", c.to(j), want)
			m = after
		}
		wantErrno(t, "Sync", j.Sync(), api.OK)
		wantMap(t, "any bytes", j, m)
		x.check(t)
	}
	if told < 100 || refused < 100 {
		t.Errorf("%d told, %d refused", told, refused)
	}
}

// short is a tape whose blocks have other bytes than it tells.
type short struct {
	*tape
	bytes int
}

func (s short) Bytes() int { return s.bytes }

func TestOpenOfBlocksOfOtherSizes(t *testing.T) {
	for _, size := range []int{0, 1, 37, 127, 128, 130} {
		wantNone(t, "blocks of other sizes", short{newTape(8, size), 129}, api.ErrTape)
	}
}

// reused is a tape that reads into the same memory each time.
type reused struct {
	*tape
	b []byte
}

func (r *reused) Read(i int) ([]byte, api.Errno) {
	b, e := r.tape.Read(i)
	copy(r.b, b)
	return r.b, e
}

func TestOpenKeepsNothingThatWasRead(t *testing.T) {
	var n numbers = 5
	x, m := worn(t, &n, 12, 128)
	r := &reused{x, make([]byte, 128)}
	j := opened(t, r)
	clear(r.b)
	wantMap(t, "reused", j, m)
	for k := range 100 {
		for key := range m {
			m[key] = uint64(k)
			wantErrno(t, "Set", j.Set(key, uint64(k)), api.OK)
		}
	}
	wantErrno(t, "Sync", j.Sync(), api.OK)
	wantMap(t, "reused", opened(t, r), m)
}

// panicking is a tape of which some calls panic.
type panicking struct {
	*tape
	at string
}

func (p panicking) happens(name string) {
	if p.at == name {
		panic(name)
	}
}

func (p panicking) Blocks() int                     { p.happens("Blocks"); return p.tape.Blocks() }
func (p panicking) Bytes() int                      { p.happens("Bytes"); return p.tape.Bytes() }
func (p panicking) Read(i int) ([]byte, api.Errno)  { p.happens("Read"); return p.tape.Read(i) }
func (p panicking) Write(i int, b []byte) api.Errno { p.happens("Write"); return p.tape.Write(i, b) }
func (p panicking) Sync() api.Errno                 { p.happens("Sync"); return p.tape.Sync() }

// No call panics, whatever tape is handed in.
func TestTapesThatPanic(t *testing.T) {
	var none *tape
	wantNone(t, "a tape that is nil", none, api.ErrArg)
	wantNone(t, "Blocks", panicking{newTape(8, 128), "Blocks"}, api.ErrArg)
	wantNone(t, "Bytes", panicking{newTape(8, 128), "Bytes"}, api.ErrArg)
	wantNone(t, "Read", panicking{newTape(8, 128), "Read"}, api.ErrTape)
	for _, at := range []string{"Write", "Sync"} {
		j := opened(t, panicking{newTape(8, 128), at})
		wantErrno(t, "Set", j.Set(1, 2), api.OK)
		wantErrno(t, "Sync", j.Sync(), api.ErrTape)
		wantErrno(t, "Sync", j.Sync(), api.ErrTape)
		wantErrno(t, "Set", j.Set(1, 3), api.ErrTape)
		wantMap(t, at, j, model{1: 2})
	}
}

// P9.2

func TestRoom(t *testing.T) {
	for blocks := 8; blocks <= 100; blocks++ {
		for _, size := range []int{128, 147, 148, 185, 4096} {
			x := newTape(blocks, size)
			j := opened(t, x)
			room := j.Room()
			if 4*room < blocks {
				t.Errorf("%d blocks of %d: Room %d", blocks, size, room)
			}
			for key := range uint64(room) {
				wantErrno(t, "Set", j.Set(key, key), api.OK)
			}
			wantErrno(t, "Set", j.Set(uint64(room), 1), api.ErrFull)
			wantErrno(t, "Sync", j.Sync(), api.OK)
			if again := opened(t, x).Room(); again != room || j.Room() != room {
				t.Errorf("%d blocks of %d: Room %d, again %d, %d", blocks, size, room, j.Room(), again)
			}
		}
	}
}

// A journal that is full goes on as long as no key is new.
func TestFull(t *testing.T) {
	for _, s := range shapes() {
		x, m := newTape(s[0], s[1]), model{}
		j := opened(t, x)
		room := uint64(j.Room())
		for key := range room {
			m[key] = 0
			wantErrno(t, "Set", j.Set(key, 0), api.OK)
		}
		for k := range 300 * room / 9 {
			wantErrno(t, "Set", j.Set(k%room, k), api.OK)
			m[k%room] = k
			wantErrno(t, "Set of a new one", j.Set(room+k, k), api.ErrFull)
			wantErrno(t, "Drop of a new one", j.Drop(room+k), api.ErrNone)
		}
		wantMap(t, "full", j, m)
		wantErrno(t, "Drop", j.Drop(1), api.OK)
		wantErrno(t, "Set", j.Set(math.MaxUint64, 5), api.OK)
		wantErrno(t, "Set", j.Set(1, 5), api.ErrFull)
		delete(m, 1)
		m[math.MaxUint64] = 5
		wantErrno(t, "Sync", j.Sync(), api.OK)
		wantMap(t, "full", opened(t, x), m)
		x.check(t)
	}
}

func TestGetSetDrop(t *testing.T) {
	for _, key := range []uint64{0, 1, 2, 255, 256, math.MaxUint32, math.MaxInt64, math.MaxInt64 + 1, math.MaxUint64 - 1, math.MaxUint64} {
		x := newTape(8, 128)
		j := opened(t, x)
		wantErrno(t, "Drop", j.Drop(key), api.ErrNone)
		for _, value := range []uint64{1, 0, math.MaxUint64, key, ^key} {
			wantErrno(t, "Set", j.Set(key, value), api.OK)
			wantMap(t, "set", j, model{key: value})
			wantErrno(t, "Drop", j.Drop(key+1), api.ErrNone)
			wantErrno(t, "Sync", j.Sync(), api.OK)
			wantMap(t, "again", opened(t, x), model{key: value})
		}
		if value, there := j.Get(key + 1); value != 0 || there {
			t.Errorf("Get(%d): %d, %v", key+1, value, there)
		}
		wantErrno(t, "Drop", j.Drop(key), api.OK)
		wantErrno(t, "Drop", j.Drop(key), api.ErrNone)
		if value, there := j.Get(key); value != 0 || there {
			t.Errorf("Get(%d): %d, %v", key, value, there)
		}
		wantErrno(t, "Sync", j.Sync(), api.OK)
		wantMap(t, "dropped", opened(t, x), model{})
	}
}

// Many calls of all kinds answer what a map would.
func TestAsAMap(t *testing.T) {
	var n numbers = 6
	for _, s := range shapes() {
		x, m := newTape(s[0], s[1]), model{}
		j := opened(t, x)
		for range 3000 {
			c := n.call(j.Room())
			after, want := c.behind(m, j.Room())
			wantErrno(t, "call", c.to(j), want)
			m = after
			if n.below(50) == 0 {
				wantErrno(t, "Sync", j.Sync(), api.OK)
				wantMap(t, "synced", j, m)
				j = opened(t, x)
			}
			if n.below(10) == 0 {
				wantMap(t, "behind calls", j, m)
			}
		}
		x.check(t)
	}
}

func TestAll(t *testing.T) {
	j := opened(t, newTape(40, 128))
	keys := []uint64{9, math.MaxUint64, 3, math.MaxInt64 + 1, 0, 256, math.MaxInt64, 1}
	for _, key := range keys {
		wantErrno(t, "Set", j.Set(key, ^key), api.OK)
	}
	slices.Sort(keys)
	all := j.All()
	for stop := range len(keys) + 1 { // one may stop, and begin anew
		var got []uint64
		calls := 0
		all(func(key, value uint64) bool {
			calls++
			if value != ^key {
				t.Errorf("%d: %d", key, value)
			}
			got = append(got, key)
			return len(got) != stop
		})
		want := len(keys)
		if stop > 0 {
			want = stop
		}
		if !slices.Equal(got, keys[:want]) || calls != want {
			t.Errorf("%d calls: %v, not %v", calls, got, keys[:want])
		}
	}
}

// What is done in the loop, or ahead of it, changes nothing of what All answered.
func TestAllWhileItChanges(t *testing.T) {
	j, m := opened(t, newTape(40, 128)), model{}
	for key := range uint64(j.Room()) {
		m[key] = key + 100
		wantErrno(t, "Set", j.Set(key, key+100), api.OK)
	}
	got := model{}
	all := j.All()
	wantErrno(t, "Set", j.Set(2, 5), api.OK)
	for key, value := range all {
		got[key] = value
		wantErrno(t, "Drop", j.Drop(uint64(j.Room())-1-key), api.OK)
		wantErrno(t, "Set", j.Set(key+1000, 1), api.OK)
	}
	if !maps.Equal(got, m) {
		t.Errorf("%v, not %v", got, m)
	}
}

func TestNil(t *testing.T) {
	var none *journal.Journal
	unmade := &journal.Journal{} // one that Open didn't make is as if there were none
	for _, j := range []*journal.Journal{none, unmade} {
		if room := j.Room(); room != 0 {
			t.Errorf("Room: %d", room)
		}
		for _, key := range []uint64{0, 1, math.MaxUint64} {
			wantErrno(t, "Set", j.Set(key, 1), api.ErrArg)
			wantErrno(t, "Drop", j.Drop(key), api.ErrArg)
			if value, there := j.Get(key); value != 0 || there {
				t.Errorf("Get: %d, %v", value, there)
			}
		}
		wantErrno(t, "Sync", j.Sync(), api.ErrArg)
		if all := j.All(); all == nil {
			t.Errorf("All: nothing that can be ranged over")
		} else {
			for key, value := range all {
				t.Errorf("All: %d, %d", key, value)
			}
		}
	}
}

// failing makes a tape's Writes and Syncs fail from the one numbered at on, each with an error of its own.
func failing(x *tape, at int, done bool) {
	x.fail = func() (api.Errno, bool) {
		if k := x.writes + x.syncs - 1; k >= at {
			return api.Errno(1000 + k), done
		}
		return api.OK, true
	}
}

// wantStopped tells whether each further call answers the error again, and does nothing.
func wantStopped(t *testing.T, j *journal.Journal, m model, want api.Errno) {
	t.Helper()
	for range 2 {
		for key := range uint64(12) {
			wantErrno(t, "further Set", j.Set(key*0x0101010101010101, 5), want)
			wantErrno(t, "further Drop", j.Drop(key*0x0101010101010101), want)
		}
		wantErrno(t, "further Sync", j.Sync(), want)
	}
	wantMap(t, "stopped", j, m)
}

// runTillItFails does calls, and a Sync now and then, up to the first one with a tape's error.
func runTillItFails(t *testing.T, n *numbers, x *tape, at int) {
	t.Helper()
	m := model{}
	j := opened(t, x)
	for {
		if n.below(6) == 0 {
			if e := j.Sync(); e != api.OK {
				wantErrno(t, "Sync", e, api.Errno(1000+at))
				wantStopped(t, j, m, e)
				return
			}
		}
		c := n.call(j.Room())
		after, want := c.behind(m, j.Room())
		e := c.to(j)
		if e >= 1000 {
			wantErrno(t, "call", e, api.Errno(1000+at))
			wantErrno(t, "call", want, api.OK)
			got := mapOf(t, j)
			if !maps.Equal(got, m) && !maps.Equal(got, after) {
				t.Errorf("behind %v: %v, not %v or %v", e, got, m, after)
			}
			wantStopped(t, j, got, e)
			return
		}
		wantErrno(t, "call", e, want)
		m = after
	}
}

func TestTapesErrors(t *testing.T) {
	var n numbers = 7
	for _, s := range shapes() {
		for at := range 60 {
			for _, done := range []bool{false, true} {
				x := newTape(s[0], s[1])
				failing(x, at, done)
				runTillItFails(t, &n, x, at)
				x.check(t)
			}
		}
	}
}

// An error stays, also when the tape has none any more.
func TestAnErrorStays(t *testing.T) {
	x := newTape(8, 128)
	j := opened(t, x)
	wantErrno(t, "Set", j.Set(1, 2), api.OK)
	x.fail = func() (api.Errno, bool) { return 77, false }
	wantErrno(t, "Sync", j.Sync(), 77)
	x.fail = nil
	wantStopped(t, j, model{1: 2}, 77)
}
