package journal_test

import (
	"maps"
	"strconv"
	"testing"

	"firkin/api"
	"firkin/journal"
)

// owner is a journal on a tape, and what may be found when it is gone.
type owner struct {
	tape   *tape
	j      *journal.Journal
	maps   []model // the map behind the first 0, 1 .. of its Sets and Drops
	floor  int     // so many of them were done ahead of the last Sync
	before []model // what may be found as long as nothing was synced
}

// owned is the owner of what is left, if its map is one of those that may be found (nil: any).
func owned(t *testing.T, x *tape, before []model) *owner {
	t.Helper()
	j := opened(t, x)
	m := mapOf(t, j)
	if before != nil && !has(before, m) {
		t.Fatalf("found: %v, none of %v", m, before)
	}
	return &owner{tape: x, j: j, maps: []model{m}, before: before}
}

func has(row []model, m model) bool {
	for _, x := range row {
		if maps.Equal(x, m) {
			return true
		}
	}
	return false
}

func (o *owner) last() model { return o.maps[len(o.maps)-1] }

// found are the maps that may be found when it is gone now; of a loose tape those of older owners, too, as long as nothing was synced.
func (o *owner) found(loose bool) []model {
	if loose && !o.tape.kept {
		return append(o.before[:len(o.before):len(o.before)], o.maps[o.floor:]...)
	}
	return o.maps[o.floor:]
}

// do does a call, and tells whether it had no error of the tape. Its map may be found from its beginning on.
func (o *owner) do(t *testing.T, c call) bool {
	t.Helper()
	after, want := c.behind(o.last(), o.j.Room())
	if want != api.OK {
		wantErrno(t, "call", c.to(o.j), want)
		return true
	}
	o.maps = append(o.maps, after)
	e := c.to(o.j)
	if e == api.OK {
		wantMap(t, "done", o.j, after)
	}
	return e == api.OK
}

// doAll does calls as long as the tape has no error.
func (o *owner) doAll(t *testing.T, calls ...call) {
	t.Helper()
	for _, c := range calls {
		if !o.do(t, c) {
			return
		}
	}
}

func (o *owner) sync() bool {
	if e := o.j.Sync(); e != api.OK {
		return false
	}
	o.floor = len(o.maps) - 1
	return true
}

// run does some calls, with Syncs among them, as long as the tape has no error.
func (o *owner) run(t *testing.T, n *numbers, calls, often int) {
	t.Helper()
	for range calls {
		if n.below(often) == 0 && !o.sync() || !o.do(t, n.call(o.j.Room())) {
			return
		}
	}
}

// P9.3

func TestSyncKeeps(t *testing.T) {
	var n numbers = 20
	for _, s := range shapes() {
		o := owned(t, newTape(s[0], s[1]), nil)
		for range 400 {
			for range n.below(2 * o.j.Room()) {
				o.do(t, n.call(o.j.Room()))
			}
			wantErrno(t, "Sync", o.j.Sync(), api.OK)
			for _, l := range o.tape.allLeft(&n, false, 8) {
				wantMap(t, "kept", opened(t, l), o.last())
			}
		}
		o.tape.check(t)
	}
}

// What Open found is kept too, by a Sync that has nothing else to do.
func TestSyncKeepsWhatWasFound(t *testing.T) {
	var n numbers = 21
	for range 300 {
		x := newTape(8, 128)
		owned(t, x, nil).run(t, &n, 40, 9)
		failing(x, x.writes+x.syncs+n.below(8), n.below(2) == 0)
		owned(t, x, nil).run(t, &n, 40, 9)
		l := x.anyLeft(&n, true)
		j := opened(t, l)
		m := mapOf(t, j)
		wantErrno(t, "Sync", j.Sync(), api.OK)
		for _, k := range l.allLeft(&n, false, 50) {
			wantMap(t, "kept", opened(t, k), m)
		}
	}
}

// P9.4

// Of an owner that is gone behind any Write or Sync, all that may be left is looked at; and each journal that is found goes on.
func TestGoneAnywhere(t *testing.T) {
	var n numbers = 22
	for _, s := range shapes() {
		for _, often := range []int{1, 4, 1000} {
			o := owned(t, newTape(s[0], s[1]), nil)
			o.tape.watcher = func() {
				for _, l := range o.tape.allLeft(&n, false, 20) {
					next := owned(t, l, o.found(false))
					next.run(t, &n, n.below(12), 5)
					owned(t, l.anyLeft(&n, false), next.found(false))
				}
			}
			o.run(t, &n, 30*(s[1]/37), often)
			o.tape.check(t)
		}
	}
}

// One owner behind the other is gone, between two calls or by an error of the tape. Loose: what an owner wrote that isn't synced may also be left of the tape when the next one is gone, who has not synced either.
func goneAgainAndAgain(t *testing.T, n *numbers, blocks, size int, loose bool) {
	t.Helper()
	x, before := newTape(blocks, size), []model{{}}
	for range 40 {
		o := owned(t, x, before)
		if n.below(2) == 0 {
			failing(x, n.below(25), n.below(2) == 0)
		}
		o.run(t, n, n.below(60), 1+n.below(20))
		x.check(t)
		x, before = x.anyLeft(n, loose), o.found(loose)
	}
}

func TestGoneAgainAndAgain(t *testing.T) {
	for _, s := range shapes() {
		for seed := range 20 {
			for _, loose := range []bool{false, true} {
				n := numbers(100 + seed)
				goneAgainAndAgain(t, &n, s[0], s[1], loose)
			}
		}
	}
}

// One owner behind the other is gone within a few operations: at many of them within a checkpoint, which the next one begins again, with less or more keys.
func goneInCheckpoints(t *testing.T, n *numbers, blocks, size int, loose bool) {
	t.Helper()
	x, before := newTape(blocks, size), []model{{}}
	often := 1 + n.below(2)*n.below(50)
	for range 12 {
		o := owned(t, x, before)
		for many := n.below(2) * n.below(3*blocks); x.writes < many; {
			o.run(t, n, 1, often)
		}
		failing(x, x.writes+x.syncs+n.below(blocks), n.below(2) == 0)
		o.run(t, n, 3*size/37*blocks, often)
		x, before = x.anyLeft(n, loose), o.found(loose)
	}
}

func TestGoneInCheckpoints(t *testing.T) {
	for _, s := range shapes() {
		for seed := range 60 {
			for _, loose := range []bool{false, true} {
				n := numbers(1000 + seed)
				goneInCheckpoints(t, &n, s[0], s[1], loose)
			}
		}
	}
}

// Of a first owner that is gone at any operation of a checkpoint, and a second one that is gone at any operation of its own, all that may be left is looked at.
func TestGoneInTwoCheckpoints(t *testing.T) {
	var n numbers = 24
	both := func(k int) (int, bool) { return k / 2, k%2 == 0 }
	for first := range 2 * 7 {
		o := owned(t, newTape(8, 128), nil)
		for key := range uint64(7) {
			o.do(t, call{key: key % 3, value: key})
		}
		o.sync()
		at, done := both(first)
		failing(o.tape, o.tape.writes+o.tape.syncs+at, done)
		o.doAll(t, call{key: 1, value: 10}, call{key: 2, value: 11}, call{key: 0, value: 12})
		for _, x := range o.tape.allLeft(&n, true, 1000) {
			for second := range 2 * 7 {
				p := owned(t, x.left(true, func(_, count int) int { return count - 1 }), o.found(true))
				at, done = both(second)
				failing(p.tape, at, done)
				p.doAll(t, call{drop: true, key: 1}, call{key: 2, value: 21}, call{key: 0, value: 22})
				for _, y := range p.tape.allLeft(&n, false, 1000) {
					owned(t, y, p.found(true))
				}
			}
		}
	}
}

// What is found is a prefix, not any subset: each call leaves a map of its own, and the order of those that are found is told.
func TestFoundInOrder(t *testing.T) {
	var n numbers = 25
	for _, s := range shapes() {
		x := newTape(s[0], s[1])
		j := opened(t, x)
		done, floor := uint64(0), uint64(0)
		x.watcher = func() {
			for _, l := range x.allLeft(&n, false, 10) {
				m := mapOf(t, opened(t, l))
				if m[0]+m[1] < floor || m[0]+m[1] > done+1 || m[0] != m[1] && m[0] != m[1]+1 {
					t.Fatalf("found: %v, of %d calls, %d of them synced", m, done, floor)
				}
			}
		}
		for k := range uint64(200 * (s[1] / 37)) {
			wantErrno(t, "Set", j.Set(k%2, k/2+1), api.OK)
			done++
			if n.below(40) == 0 {
				wantErrno(t, strconv.FormatUint(k, 10)+": Sync", j.Sync(), api.OK)
				floor = done
			}
		}
	}
}
