package blocks_test

import (
	"math"
	"strconv"
	"testing"

	"firkin/api"
	"firkin/blocks"
)

// The chapter's examples

func TestExamples(t *testing.T) {
	p := made(t, 1, 3)
	wantTaken(t, p, 0, 0, api.OK)
	wantErrno(t, "Erased", p.Erased(0, 0), api.OK)
	wantErrno(t, "Free", p.Free(0, 0), api.OK)
	wantTaken(t, p, 0, 1, api.OK)

	p = made(t, 1, 3)
	wantErrno(t, "Close", p.Close(0, 2), api.ErrState)
	wantErrno(t, "Bad", p.Bad(0, 2), api.OK)
	wantErrno(t, "Erased", p.Erased(0, 2), api.ErrState)
	if got := p.Count(0, api.BlockFree); got != 2 {
		t.Errorf("Count: %d", got)
	}
}

// P7.1

func TestNew(t *testing.T) {
	for dies := -2; dies <= 10; dies++ {
		for count := -2; count <= 66; count++ {
			p, e := blocks.New(dies, count)
			if dies < 1 || dies > 8 || count < 1 || count > 64 {
				if p != nil || e != api.ErrArg {
					t.Errorf("New(%d, %d): %v, %v", dies, count, p, e)
				}
				continue
			}
			if e != api.OK {
				t.Fatalf("New(%d, %d): %v", dies, count, e)
			}
			wantPool(t, "New", p, newModel(dies, count))
			wantNothingThere(t, p, dies, count)
		}
	}
}

func TestNewOfFarOutside(t *testing.T) {
	for _, far := range []int{math.MinInt, math.MinInt32, -256, -255, 255, 256, 257, 1<<32 + 1, math.MaxInt32, math.MaxInt} {
		for _, pair := range [][2]int{{far, 1}, {far, 64}, {1, far}, {8, far}, {far, far}} {
			if p, e := blocks.New(pair[0], pair[1]); p != nil || e != api.ErrArg {
				t.Errorf("New(%d, %d): %v, %v", pair[0], pair[1], p, e)
			}
		}
	}
}

// wantNothingAt tells whether no call finds a block there.
func wantNothingAt(t *testing.T, p *blocks.Pool, die, block int) {
	t.Helper()
	at := "(" + strconv.Itoa(die) + ", " + strconv.Itoa(block) + ")"
	if s, n := p.State(die, block), p.Erases(die, block); s != 0 || n != 0 {
		t.Errorf("State, Erases%s: %d, %d", at, s, n)
	}
	for _, c := range someCalls() {
		wantErrno(t, c.name+at, c.pool(p, die, block), api.ErrArg)
	}
}

// wantNoDie tells whether no call finds such a die.
func wantNoDie(t *testing.T, p *blocks.Pool, die int) {
	t.Helper()
	wantTaken(t, p, die, 0, api.ErrArg)
	for _, state := range append([]int{0, -1, 5}, allStates...) {
		if got := p.Count(die, state); got != 0 {
			t.Errorf("Count(%d, %d): %d", die, state, got)
		}
	}
	if got := p.Spread(die); got != 0 {
		t.Errorf("Spread(%d): %d", die, got)
	}
}

// wantNothingThere tells whether no call finds what is beside a pool's dies and blocks.
func wantNothingThere(t *testing.T, p *blocks.Pool, dies, count int) {
	t.Helper()
	for _, die := range outside(dies) {
		wantNoDie(t, p, die)
		for _, block := range append(outside(count), 0, count-1) {
			wantNothingAt(t, p, die, block)
		}
	}
	for die := range dies {
		for _, block := range outside(count) {
			wantNothingAt(t, p, die, block)
		}
	}
}

func TestNil(t *testing.T) {
	var none *blocks.Pool
	unmade := &blocks.Pool{} // one that New didn't make is as if there were none
	for _, p := range []*blocks.Pool{none, unmade} {
		for _, die := range append(outside(1), 0) {
			wantNoDie(t, p, die)
			for _, block := range append(outside(1), 0) {
				wantNothingAt(t, p, die, block)
			}
		}
		if got := p.Bytes(); got != nil {
			t.Errorf("Bytes: %v", got)
		}
	}
}

// What is not there is refused, and changes nothing.
func TestNotThere(t *testing.T) {
	var n numbers = 1
	for _, size := range [][2]int{{1, 1}, {1, 64}, {2, 3}, {8, 1}, {8, 64}} {
		m := someModel(&n, size[0], size[1])
		p := parsed(t, m)
		wantNothingThere(t, p, size[0], size[1])
		wantPool(t, "refused", p, m)
	}
}

// P7.2

func TestTakeOfNewOnes(t *testing.T) {
	p := made(t, 2, 64)
	for i := range 64 {
		wantTaken(t, p, 1, i, api.OK)
	}
	wantTaken(t, p, 1, 0, api.ErrNone)
	wantTaken(t, p, 1, 0, api.ErrNone)
	wantTaken(t, p, 0, 0, api.OK)
	if got := p.Count(1, api.BlockOpen); got != 64 {
		t.Errorf("Count: %d", got)
	}
}

// row is a model of one die.
func row(blocks ...block) model { return model{blocks} }

func TestTakeTheFewest(t *testing.T) {
	const free, open, closed, bad = api.BlockFree, api.BlockOpen, api.BlockClosed, api.BlockBad
	for _, c := range []struct {
		from model
		want []int // one behind the other, till there is none
	}{
		{row(block{free, 0}), []int{0}},
		{row(block{free, math.MaxUint32}), []int{0}},
		{row(block{free, 3}, block{free, 2}, block{free, 1}), []int{2, 1, 0}},
		{row(block{free, 1}, block{free, 2}, block{free, 3}), []int{0, 1, 2}},
		{row(block{free, 5}, block{free, 5}, block{free, 5}), []int{0, 1, 2}},
		{row(block{free, 6}, block{free, 5}, block{free, 5}, block{free, 6}), []int{1, 2, 0, 3}},
		{row(block{free, math.MaxUint32}, block{free, math.MaxUint32 - 1}, block{free, math.MaxUint32}), []int{1, 0, 2}},
		{row(block{free, 1 << 31}, block{free, 1<<31 - 1}), []int{1, 0}},
		{row(block{free, 256}, block{free, 255}), []int{1, 0}},
		{row(block{open, 0}, block{free, 9}, block{closed, 0}, block{free, 8}, block{bad, 0}), []int{3, 1}},
		{row(block{open, 0}), nil},
		{row(block{closed, 0}), nil},
		{row(block{bad, 0}), nil},
	} {
		p := parsed(t, c.from)
		for _, i := range c.want {
			wantTaken(t, p, 0, i, api.OK)
			c.from[0][i].state = open
			wantPool(t, "Take", p, c.from)
		}
		wantTaken(t, p, 0, 0, api.ErrNone)
		wantPool(t, "Take of none", p, c.from)
	}
}

// Each call is made on a block in each state; it changes this block alone.
func TestEachCallInEachState(t *testing.T) {
	var n numbers = 2
	for _, state := range allStates {
		for _, erases := range []int{0, 1, 255, 256, 65535, 65536, 1<<31 - 1, 1 << 31, math.MaxUint32 - 1, math.MaxUint32} {
			for _, c := range someCalls() {
				m := someModel(&n, 3, 5)
				m[1][2] = block{state: state, erases: erases}
				p := parsed(t, m)
				want := c.model(&m[1][2])
				what := c.name + " in state " + strconv.Itoa(state)
				wantErrno(t, what, c.pool(p, 1, 2), want)
				wantPool(t, what, p, m)
			}
		}
	}
}

// What the chapter says of each state, written out: the model isn't asked.
func TestWhatEachCallMakesOfEachState(t *testing.T) {
	const no = 0 // the call answers ErrState, and the block stays as it was
	want := map[string][4]int{
		"Hold":   {api.BlockOpen, no, no, no},
		"Close":  {no, api.BlockClosed, no, no},
		"Free":   {no, api.BlockFree, api.BlockFree, no},
		"Bad":    {api.BlockBad, api.BlockBad, api.BlockBad, api.BlockBad},
		"Erased": {api.BlockFree, api.BlockOpen, api.BlockClosed, no},
	}
	for _, c := range someCalls() {
		for i, state := range allStates {
			p := parsed(t, row(block{state, 7}))
			wanted, e, erases := want[c.name][i], api.OK, 7
			if c.name == "Erased" && state != api.BlockBad {
				erases = 8
			}
			if wanted == no {
				wanted, e = state, api.ErrState
			}
			wantErrno(t, c.name+" in state "+strconv.Itoa(state), c.pool(p, 0, 0), e)
			if p.State(0, 0) != wanted || p.Erases(0, 0) != erases {
				t.Errorf("%s in state %d: state %d, erases %d", c.name, state, p.State(0, 0), p.Erases(0, 0))
			}
		}
	}
}

func TestErasesHaveAnEnd(t *testing.T) {
	p := parsed(t, row(block{api.BlockFree, math.MaxUint32 - 2}))
	for _, want := range []int{4294967294, 4294967295, 4294967295, 4294967295} {
		wantErrno(t, "Erased", p.Erased(0, 0), api.OK)
		if got := p.Erases(0, 0); got != want {
			t.Errorf("Erases: %d, not %d", got, want)
		}
	}
}

// A block that is bad is so for good.
func TestBadForGood(t *testing.T) {
	p := made(t, 1, 1)
	wantErrno(t, "Bad", p.Bad(0, 0), api.OK)
	for range 2 {
		wantTaken(t, p, 0, 0, api.ErrNone)
		for _, c := range someCalls() {
			want := api.ErrState
			if c.name == "Bad" {
				want = api.OK
			}
			wantErrno(t, c.name, c.pool(p, 0, 0), want)
			wantPool(t, c.name, p, row(block{state: api.BlockBad}))
		}
	}
}

// step makes one call of the pool and of the model, of a block that mostly is there.
func step(t *testing.T, n *numbers, p *blocks.Pool, m model) string {
	t.Helper()
	die, i := n.below(len(m)+1)-n.below(40)/39, n.below(len(m[0])+1)-n.below(40)/39
	calls := someCalls()
	which := n.below(len(calls) + 2)
	if which >= len(calls) {
		want, wantE := m.take(die)
		wantTaken(t, p, die, want, wantE)
		return "Take"
	}
	c := calls[which]
	if c.name == "Bad" && n.below(8) > 0 { // else soon all would be bad
		c = calls[n.below(3)]
	}
	want := api.ErrArg
	if b := m.find(die, i); b != nil {
		want = c.model(b)
	}
	wantErrno(t, c.name, c.pool(p, die, i), want)
	return c.name
}

// Long rows of calls are held against the model, one pool beside another.
func TestManyCalls(t *testing.T) {
	var n numbers = 3
	for _, size := range [][2]int{{1, 1}, {1, 2}, {2, 1}, {3, 4}, {2, 20}, {8, 9}, {8, 64}} {
		p, q := made(t, size[0], size[1]), made(t, size[0], size[1])
		m := newModel(size[0], size[1])
		for range 40 * size[0] * size[1] {
			what := step(t, &n, p, m)
			if n.below(20) == 0 || size[0]*size[1] < 50 {
				wantPool(t, what, p, m)
			}
			if t.Failed() {
				return
			}
		}
		wantPool(t, "the last", p, m)
		wantPool(t, "the other", q, newModel(size[0], size[1]))
	}
}

// P7.3

func TestCountAndSpread(t *testing.T) {
	const free, open, closed, bad = api.BlockFree, api.BlockOpen, api.BlockClosed, api.BlockBad
	for _, c := range []struct {
		from   model
		counts [4]int
		spread int
	}{
		{row(block{free, 0}), [4]int{1, 0, 0, 0}, 0},
		{row(block{free, 9}), [4]int{1, 0, 0, 0}, 0},
		{row(block{free, 3}, block{open, 5}, block{closed, 4}), [4]int{1, 1, 1, 0}, 2},
		{row(block{open, 5}, block{closed, 3}), [4]int{0, 1, 1, 0}, 2},
		{row(block{closed, 3}, block{closed, 9}), [4]int{0, 0, 2, 0}, 6},
		{row(block{bad, 0}, block{free, 5}, block{bad, 9}), [4]int{1, 0, 0, 2}, 0},
		{row(block{bad, 0}, block{free, 5}, block{free, 7}, block{bad, 9}), [4]int{2, 0, 0, 2}, 2},
		{row(block{bad, 0}), [4]int{0, 0, 0, 1}, 0},
		{row(block{bad, 0}, block{bad, 7}), [4]int{0, 0, 0, 2}, 0},
		{row(block{bad, math.MaxUint32}, block{bad, 7}), [4]int{0, 0, 0, 2}, 0},
		{row(block{free, 0}, block{free, math.MaxUint32}), [4]int{2, 0, 0, 0}, math.MaxUint32},
		{row(block{open, math.MaxUint32}), [4]int{0, 1, 0, 0}, 0},
		{row(block{open, math.MaxUint32}, block{free, math.MaxUint32}), [4]int{1, 1, 0, 0}, 0},
	} {
		p := parsed(t, c.from)
		for i, state := range allStates {
			if got := p.Count(0, state); got != c.counts[i] {
				t.Errorf("%v: Count(0, %d): %d, not %d", c.from, state, got, c.counts[i])
			}
		}
		if got := p.Spread(0); got != c.spread {
			t.Errorf("%v: Spread(0): %d, not %d", c.from, got, c.spread)
		}
	}
}

// Dies are counted apart.
func TestEachDieForItself(t *testing.T) {
	var n numbers = 4
	m := someModel(&n, 8, 7)
	p := parsed(t, m)
	for i := range 7 {
		wantErrno(t, "Bad", p.Bad(4, i), api.OK)
		m[4][i].state = api.BlockBad
	}
	wantPool(t, "a die that is bad", p, m)
	wantTaken(t, p, 4, 0, api.ErrNone)
	if p.Spread(4) != 0 || p.Count(4, api.BlockBad) != 7 {
		t.Errorf("Spread %d, Count %d", p.Spread(4), p.Count(4, api.BlockBad))
	}
}

// What is asked changes nothing.
func TestAskedTwice(t *testing.T) {
	var n numbers = 5
	m := someModel(&n, 3, 6)
	p := parsed(t, m)
	for range 3 {
		wantPool(t, "asked again", p, m)
	}
}

// P7.5

// wear takes so many blocks of a die, erases them, and gives them free, in the order in which they were taken.
func wear(t *testing.T, p *blocks.Pool, die, many int, eraseAtOnce bool) {
	t.Helper()
	var taken []int
	for range many {
		i, e := p.Take(die)
		if e != api.OK {
			t.Fatalf("Take: %v", e)
		}
		if eraseAtOnce {
			p.Erased(die, i)
		}
		taken = append(taken, i)
	}
	for _, i := range taken {
		if !eraseAtOnce {
			p.Close(die, i)
			p.Free(die, i)
			p.Erased(die, i)
		} else {
			p.Free(die, i)
		}
	}
}

func TestErasesDifferByOneAtMost(t *testing.T) {
	var n numbers = 6
	for _, count := range []int{1, 2, 3, 7, 64} {
		p := made(t, 2, count)
		left, erases := count, 0
		for range 300 {
			many := 1 + n.below(left)
			if n.below(2) == 0 {
				many = 1
			}
			wear(t, p, 1, many, n.below(2) == 0)
			erases += many
			if got := p.Spread(1); got > 1 {
				t.Fatalf("%d blocks: the erases differ by %d", count, got)
			}
			if left > 1 && n.below(100) == 0 {
				i, _ := p.Take(1)
				p.Bad(1, i)
				left--
			}
		}
		total := 0
		for i := range count {
			total += p.Erases(1, i)
		}
		if total != erases || p.Count(1, api.BlockFree) != left || p.Erases(0, 0) != 0 {
			t.Errorf("%d blocks: %d erases, not %d; %d free, not %d", count, total, erases, p.Count(1, api.BlockFree), left)
		}
	}
}
