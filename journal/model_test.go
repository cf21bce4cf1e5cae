package journal_test

import (
	"bytes"
	"maps"
	"slices"
	"testing"

	"firkin/api"
	"firkin/journal"
)

// numbers are the same in each run.
type numbers uint64

func (n *numbers) next() uint64 {
	*n = *n*6364136223846793005 + 1442695040888963407
	high := uint64(*n >> 32)
	*n = *n*6364136223846793005 + 1442695040888963407
	return high<<32 | uint64(*n>>32)
}

func (n *numbers) below(end int) int { return int(n.next() >> 33 % uint64(end)) }

func (n *numbers) bytes(count int) []byte {
	b := make([]byte, count)
	for i := range b {
		b[i] = byte(n.next() >> 24)
	}
	return b
}

// handed are bytes that a tape was handed, or handed out, and what they were then.
type handed struct{ own, then []byte }

// tape is one in the chapter's words: of each block it knows all that may be left.
type tape struct {
	size    int
	may     [][][]byte // of each block: what is kept, and each write since; the last one is what is read
	handed  []handed
	reads   int
	writes  int
	syncs   int
	kept    bool                         // whether a Sync was done
	fault   string                       // a call that may not be
	read    func(i int) api.Errno        // of a Read
	fail    func() (e api.Errno, d bool) // of each Write and Sync: its error, and whether it is done all the same
	watcher func()                       // is called behind each Write and Sync
}

func newTape(blocks, size int) *tape {
	t := &tape{size: size, may: make([][][]byte, blocks)}
	for i := range t.may {
		t.may[i] = [][]byte{make([]byte, size)}
	}
	return t
}

func (t *tape) Blocks() int { return len(t.may) }
func (t *tape) Bytes() int  { return t.size }

func (t *tape) last(i int) []byte { return t.may[i][len(t.may[i])-1] }

// hand notes bytes that neither side may change any more.
func (t *tape) hand(b []byte) { t.handed = append(t.handed, handed{b, bytes.Clone(b)}) }

func (t *tape) Read(i int) ([]byte, api.Errno) {
	t.reads++
	if t.read != nil {
		if e := t.read(i); e != api.OK {
			return nil, e
		}
	}
	if i < 0 || i >= len(t.may) {
		t.fault = "Read of no block"
		return nil, api.ErrArg
	}
	b := bytes.Clone(t.last(i))
	t.hand(b)
	return b, api.OK
}

// happen is an operation, which may have an error.
func (t *tape) happen(do func()) api.Errno {
	e, done := api.OK, true
	if t.fail != nil {
		e, done = t.fail()
	}
	if done {
		do()
	}
	if t.watcher != nil {
		t.watcher()
	}
	return e
}

func (t *tape) Write(i int, b []byte) api.Errno {
	t.writes++
	if i < 0 || i >= len(t.may) || len(b) != t.size {
		t.fault = "Write of no block, or not of a block's bytes"
		return api.ErrArg
	}
	t.hand(b)
	return t.happen(func() { t.may[i] = append(t.may[i], bytes.Clone(b)) })
}

func (t *tape) Sync() api.Errno {
	t.syncs++
	return t.happen(func() {
		t.kept = true
		for i := range t.may {
			t.may[i] = [][]byte{t.last(i)}
		}
	})
}

// left is what may be left of the tape: of each block one of what it may hold. Is it loose, what else may be left stays so till the next Sync.
func (t *tape) left(loose bool, choose func(i, n int) int) *tape {
	l := newTape(len(t.may), t.size)
	for i, m := range t.may {
		b := bytes.Clone(m[choose(i, len(m))])
		l.may[i] = [][]byte{b}
		if loose {
			l.may[i] = append(slices.Clone(m), b)
		}
	}
	return l
}

// anyLeft is one of those that may be left.
func (t *tape) anyLeft(n *numbers, loose bool) *tape {
	return t.left(loose, func(_, count int) int { return n.below(count) })
}

// allLeft are all of them, if they are few; else some.
func (t *tape) allLeft(n *numbers, loose bool, most int) []*tape {
	count := 1
	for _, m := range t.may {
		if count *= len(m); count > most {
			break
		}
	}
	var row []*tape
	if count > most {
		for range most {
			row = append(row, t.anyLeft(n, loose))
		}
		return row
	}
	for k := range count {
		row = append(row, t.left(loose, func(_, n int) int {
			choice := k % n
			k /= n
			return choice
		}))
	}
	return row
}

// check tells whether the tape was used as it may be.
func (t *tape) check(x *testing.T) {
	x.Helper()
	if t.fault != "" {
		x.Errorf("%s", t.fault)
	}
	for _, h := range t.handed {
		if !bytes.Equal(h.own, h.then) {
			x.Errorf("bytes that were handed to a tape, or by it, were changed")
		}
	}
}

// model is a map, as a journal's should be.
type model map[uint64]uint64

// opened is the journal of a tape.
func opened(t *testing.T, x api.Tape) *journal.Journal {
	t.Helper()
	j, e := journal.Open(x)
	if e != api.OK || j == nil {
		t.Fatalf("Open: %v, %v", j, e)
	}
	return j
}

// mapOf is what a journal tells, if its calls agree.
func mapOf(t *testing.T, j *journal.Journal) model {
	t.Helper()
	m := model{}
	var last uint64
	for key, value := range j.All() {
		if len(m) > 0 && key <= last {
			t.Errorf("All: %d behind %d", key, last)
		}
		if got, there := j.Get(key); !there || got != value {
			t.Errorf("Get(%d): %d, %v; All: %d", key, got, there, value)
		}
		last = key
		m[key] = value
	}
	if len(m) > j.Room() {
		t.Errorf("%d keys, Room %d", len(m), j.Room())
	}
	return m
}

func wantMap(t *testing.T, what string, j *journal.Journal, want model) {
	t.Helper()
	if got := mapOf(t, j); !maps.Equal(got, want) {
		t.Fatalf("%s: %v, not %v", what, got, want)
	}
}

func wantErrno(t *testing.T, what string, got, want api.Errno) {
	t.Helper()
	if got != want {
		t.Errorf("%s: %v, not %v", what, got, want)
	}
}

// call is a Set or a Drop.
type call struct {
	drop       bool
	key, value uint64
}

func (c call) to(j *journal.Journal) api.Errno {
	if c.drop {
		return j.Drop(c.key)
	}
	return j.Set(c.key, c.value)
}

// behind is the map that a call makes of another one, and its error.
func (c call) behind(m model, room int) (model, api.Errno) {
	_, there := m[c.key]
	if c.drop && !there {
		return m, api.ErrNone
	}
	if !c.drop && !there && len(m) >= room {
		return m, api.ErrFull
	}
	after := maps.Clone(m)
	after[c.key] = c.value
	if c.drop {
		delete(after, c.key)
	}
	return after, api.OK
}

// call is any one; of keys a few more than there is room for.
func (n *numbers) call(room int) call {
	return call{drop: n.below(3) == 0, key: uint64(n.below(room+2)) * 0x0101010101010101, value: n.next()}
}

// shapes are tapes' Blocks and Bytes.
func shapes() [][2]int {
	return [][2]int{{8, 128}, {9, 128}, {10, 147}, {11, 148}, {12, 128}, {16, 200}, {23, 130}, {8, 512}, {40, 128}}
}
