package nand_test

import (
	"bytes"
	"math"
	"slices"
	"testing"

	"firkin/api"
	"firkin/nand"
)

var small = api.Shape{Dies: 1, Blocks: 2, Pages: 2, Bytes: 2}

var middle = api.Shape{Dies: 2, Blocks: 3, Pages: 4, Bytes: 5}

// shapes are those of so many dies, blocks, pages, bytes.
func shapes(rows ...[4]int) []api.Shape {
	var out []api.Shape
	for _, r := range rows {
		out = append(out, api.Shape{Dies: r[0], Blocks: r[1], Pages: r[2], Bytes: r[3]})
	}
	return out
}

func made(t *testing.T, s api.Shape, faults ...api.Fault) *nand.Array {
	t.Helper()
	a, e := nand.New(s, faults)
	if e != api.OK || a == nil {
		t.Fatalf("New(%v, %v): %v", s, faults, e)
	}
	return a
}

// wantRead holds a read against what it must answer.
func wantRead(t *testing.T, a *nand.Array, die, block, page int, want []byte, err api.Errno) {
	t.Helper()
	got, e := a.Read(die, block, page)
	if e != err || !bytes.Equal(got, want) || e != api.OK && got != nil {
		t.Errorf("Read(%d, %d, %d): %v, %v, not %v, %v", die, block, page, got, e, want, err)
	}
}

func wantProgram(t *testing.T, a *nand.Array, die, block, page int, b []byte, err api.Errno) {
	t.Helper()
	if e := a.Program(die, block, page, b); e != err {
		t.Errorf("Program(%d, %d, %d): %v, not %v", die, block, page, e, err)
	}
}

func wantErase(t *testing.T, a *nand.Array, die, block int, err api.Errno) {
	t.Helper()
	if e := a.Erase(die, block); e != err {
		t.Errorf("Erase(%d, %d): %v, not %v", die, block, e, err)
	}
}

// wantBlock holds a block's Next and Erases against what they must be.
func wantBlock(t *testing.T, a *nand.Array, die, block, next, erases int) {
	t.Helper()
	if n, m := a.Next(die, block), a.Erases(die, block); n != next || m != erases {
		t.Errorf("block %d, %d: Next %d, Erases %d, not %d, %d", die, block, n, m, next, erases)
	}
}

func wantEvents(t *testing.T, a *nand.Array, want api.Events) {
	t.Helper()
	if got := a.Events(); got != want {
		t.Errorf("Events: %+v, not %+v", got, want)
	}
	if got := a.Ops(); got != want.Reads+want.Programs+want.Erases {
		t.Errorf("Ops: %d", got)
	}
}

func at(kind, op int) api.Fault { return api.Fault{Kind: kind, At: op} }

func cut(op, part int) api.Fault { return api.Fault{Kind: api.FaultCut, At: op, Part: part} }

// The chapter's examples

func TestExampleOfPages(t *testing.T) {
	a := made(t, small)
	wantProgram(t, a, 0, 0, 0, []byte("ab"), api.OK)
	wantRead(t, a, 0, 0, 0, []byte("ab"), api.OK)
	wantProgram(t, a, 0, 0, 0, []byte("ab"), api.ErrOrder)
	wantProgram(t, a, 0, 0, 1, []byte("c"), api.ErrArg)
}

func TestExampleOfACut(t *testing.T) {
	a := made(t, small, cut(0, 1))
	wantProgram(t, a, 0, 0, 0, []byte("ab"), api.ErrPower)
	wantRead(t, a, 0, 0, 0, nil, api.ErrPower)
	a.On()
	wantRead(t, a, 0, 0, 0, []byte{'a', 255}, api.OK)
	wantBlock(t, a, 0, 0, 1, 0)
}

func TestExampleOfFlips(t *testing.T) {
	a := made(t, small, api.Fault{Kind: api.FaultFlip, Times: 1, Bits: []int{0, 15}})
	wantRead(t, a, 0, 0, 0, []byte{127, 254}, api.OK)
	wantRead(t, a, 0, 0, 0, []byte{255, 255}, api.OK)
}

// P4.1

func newRefuses(t *testing.T, s api.Shape, faults []api.Fault) {
	t.Helper()
	if a, e := nand.New(s, faults); e != api.ErrArg || a != nil {
		t.Errorf("New(%v, %d faults): %v, %v", s, len(faults), a, e)
	}
}

func TestShapesThatMayBe(t *testing.T) {
	for _, s := range shapes(
		[4]int{1, 1, 1, 1}, [4]int{8, 1, 1, 1}, [4]int{1, 64, 1, 1}, [4]int{1, 1, 64, 1}, [4]int{1, 1, 1, 4096},
		[4]int{8, 64, 64, 128}, [4]int{8, 64, 2, 4096}, [4]int{1, 16, 64, 4096}, [4]int{4, 64, 4, 4096}, [4]int{7, 63, 63, 150},
	) {
		if got := made(t, s).Shape(); got != s {
			t.Errorf("Shape: %v, not %v", got, s)
		}
	}
}

func TestShapesThatMayNotBe(t *testing.T) {
	low, high := math.MinInt, math.MaxInt
	for _, s := range shapes(
		[4]int{}, [4]int{0, 1, 1, 1}, [4]int{1, 0, 1, 1}, [4]int{1, 1, 0, 1}, [4]int{1, 1, 1, 0},
		[4]int{-1, 1, 1, 1}, [4]int{1, -1, 1, 1}, [4]int{1, 1, -1, 1}, [4]int{1, 1, 1, -1}, [4]int{-1, -1, -1, -1}, [4]int{-1, -1, 1, 1},
		[4]int{9, 1, 1, 1}, [4]int{1, 65, 1, 1}, [4]int{1, 1, 65, 1}, [4]int{1, 1, 1, 4097},
		[4]int{low, 1, 1, 1}, [4]int{1, low, 1, 1}, [4]int{1, 1, low, 1}, [4]int{1, 1, 1, low},
		[4]int{high, 1, 1, 1}, [4]int{1, high, 1, 1}, [4]int{1, 1, high, 1}, [4]int{1, 1, 1, high}, [4]int{high, high, high, high},
		[4]int{8, 64, 64, 129}, [4]int{8, 64, 3, 4096}, [4]int{1, 17, 64, 4096}, [4]int{5, 64, 4, 4096}, [4]int{8, 64, 64, 4096},
	) {
		newRefuses(t, s, nil)
	}
}

func TestAsManyFaultsAsMayBe(t *testing.T) {
	faults := slices.Repeat([]api.Fault{at(api.FaultCut, 7)}, api.MaxFaults)
	made(t, small, faults...)
	newRefuses(t, small, append(faults, at(api.FaultCut, 7)))
}

func TestFaultsThatMayBe(t *testing.T) {
	high := math.MaxInt
	for kind := api.FaultFlip; kind <= api.FaultFactory; kind++ {
		made(t, middle, at(kind, 0))
		made(t, middle, api.Fault{Kind: kind, At: high, Die: 1, Block: 2, Page: 3, Times: high, Part: high, Bits: []int{0, 39, 39}})
	}
	made(t, middle)
	if a, e := nand.New(middle, []api.Fault{}); a == nil || e != api.OK {
		t.Errorf("no faults: %v", e)
	}
}

// Each thing is wrong alone, of each kind of faults, and behind faults that may be.
func TestFaultsThatMayNotBe(t *testing.T) {
	low, high := math.MinInt, math.MaxInt
	spoils := []func(f *api.Fault){}
	for _, n := range []int{-1, low} {
		spoils = append(spoils, func(f *api.Fault) { f.At = n }, func(f *api.Fault) { f.Times = n }, func(f *api.Fault) { f.Part = n })
	}
	for _, n := range []int{-1, low, high} {
		spoils = append(spoils, func(f *api.Fault) { f.Kind = n }, func(f *api.Fault) { f.Die = n }, func(f *api.Fault) { f.Block = n },
			func(f *api.Fault) { f.Page = n }, func(f *api.Fault) { f.Bits = []int{n} }, func(f *api.Fault) { f.Bits = []int{0, n, 1} })
	}
	spoils = append(spoils, func(f *api.Fault) { f.Kind = 0 }, func(f *api.Fault) { f.Kind = 7 }, func(f *api.Fault) { f.Die = 2 },
		func(f *api.Fault) { f.Block = 3 }, func(f *api.Fault) { f.Page = 4 }, func(f *api.Fault) { f.Bits = []int{40} },
		func(f *api.Fault) { f.Bits = []int{0, 39, 40} })
	for kind := api.FaultFlip; kind <= api.FaultFactory; kind++ {
		for _, spoil := range spoils {
			f := at(kind, 0)
			spoil(&f)
			newRefuses(t, middle, []api.Fault{f})
			newRefuses(t, middle, []api.Fault{at(api.FaultDie, 1), f, at(api.FaultCut, 2)})
		}
	}
}

func TestANewArray(t *testing.T) {
	a := made(t, middle)
	if !a.Power() || a.Shape() != middle {
		t.Errorf("Power %v, Shape %v", a.Power(), a.Shape())
	}
	wantEvents(t, a, api.Events{})
	for die := range middle.Dies {
		for block := range middle.Blocks {
			wantBlock(t, a, die, block, 0, 0)
			if a.Marked(die, block) {
				t.Errorf("%d, %d is marked", die, block)
			}
			for page := range middle.Pages {
				wantRead(t, a, die, block, page, erased(5), api.OK)
			}
		}
	}
}

func TestFaultsAreNotKept(t *testing.T) {
	bits := []int{0, 1}
	faults := []api.Fault{
		{Kind: api.FaultFlip, Times: 1, Bits: bits}, cut(2, 1), {Kind: api.FaultFactory, Block: 1},
	}
	a := made(t, small, faults...)
	bits[0], bits[1] = 8, 9
	faults[0] = at(api.FaultDie, 0)
	faults[1] = at(api.FaultCut, 0)
	faults[2] = at(api.FaultProgram, 0)
	wantRead(t, a, 0, 0, 0, []byte{63, 255}, api.OK)
	wantProgram(t, a, 0, 0, 0, []byte("ab"), api.OK)
	wantProgram(t, a, 0, 0, 1, []byte("cd"), api.ErrPower)
	if !a.Marked(0, 1) {
		t.Errorf("not marked any more")
	}
}

func TestFaultsAreNotChanged(t *testing.T) {
	bits := []int{5, 0, 5}
	f := api.Fault{Kind: api.FaultFlip, At: 1, Block: 1, Page: 1, Times: 3, Part: 4, Bits: bits}
	faults := []api.Fault{f, f, cut(1, 2)}
	a := made(t, small, faults...)
	for range 4 {
		a.Read(0, 1, 1)
		a.On()
	}
	for i, kind := range []int{api.FaultFlip, api.FaultFlip, api.FaultCut} {
		g := faults[i]
		if g.Kind != kind || g.At != 1 || i < 2 && (g.Block != 1 || g.Page != 1 || g.Times != 3 || g.Part != 4) {
			t.Errorf("fault %d was changed: %+v", i, g)
		}
	}
	if !slices.Equal(bits, []int{5, 0, 5}) {
		t.Errorf("bits were changed: %v", bits)
	}
}

// P4.2

// places are some that aren't there.
func places(s api.Shape) [][3]int {
	var row [][3]int
	for _, n := range []int{-1, math.MinInt, math.MaxInt} {
		row = append(row, [3]int{n, 0, 0}, [3]int{0, n, 0}, [3]int{0, 0, n})
	}
	return append(row, [3]int{s.Dies, 0, 0}, [3]int{0, s.Blocks, 0}, [3]int{0, 0, s.Pages}, [3]int{s.Dies - 1, s.Blocks, 0}, [3]int{s.Dies - 1, s.Blocks - 1, s.Pages})
}

// state is all that can be seen of an array without an operation.
type state struct {
	power  bool
	ops    int
	events api.Events
	blocks [][2]int
}

func seen(a *nand.Array) state {
	s := state{power: a.Power(), ops: a.Ops(), events: a.Events()}
	for die := range a.Shape().Dies {
		for block := range a.Shape().Blocks {
			s.blocks = append(s.blocks, [2]int{a.Next(die, block), a.Erases(die, block)})
		}
	}
	return s
}

func (s state) is(other state) bool {
	return s.power == other.power && s.ops == other.ops && s.events == other.events && slices.Equal(s.blocks, other.blocks)
}

// refusedAll makes each operation, which must answer err, and change nothing.
func refusedAll(t *testing.T, a *nand.Array, die, block, page int, b []byte, err api.Errno) {
	t.Helper()
	before := seen(a)
	wantRead(t, a, die, block, page, nil, err)
	wantProgram(t, a, die, block, page, b, err)
	if page == 0 {
		wantErase(t, a, die, block, err)
	}
	if !seen(a).is(before) {
		t.Errorf("%d, %d, %d: changed from %v to %v", die, block, page, before, seen(a))
	}
}

func TestRefusedWithoutPower(t *testing.T) {
	a := made(t, middle, cut(3, 2))
	wantProgram(t, a, 0, 0, 0, []byte("abcde"), api.OK)
	wantErase(t, a, 1, 1, api.OK)
	wantProgram(t, a, 0, 0, 1, []byte("fghij"), api.OK)
	wantRead(t, a, 0, 0, 0, nil, api.ErrPower)
	refusedAll(t, a, 0, 0, 0, []byte("abcde"), api.ErrPower)
	refusedAll(t, a, 1, 1, 0, []byte("abcde"), api.ErrPower)
	refusedAll(t, a, 0, 0, 2, []byte("abcde"), api.ErrPower)
	for _, p := range places(middle) { // it is named ahead of ErrArg
		refusedAll(t, a, p[0], p[1], p[2], []byte("abcde"), api.ErrPower)
	}
	wantProgram(t, a, 0, 0, 2, nil, api.ErrPower)
	a.On()
	wantRead(t, a, 0, 0, 0, []byte("abcde"), api.OK)
	wantRead(t, a, 0, 0, 1, []byte("fghij"), api.OK)
	wantRead(t, a, 0, 0, 2, erased(5), api.OK)
	wantEvents(t, a, api.Events{Reads: 4, Programs: 2, Erases: 1, Cuts: 1})
}

func TestRefusedOfNone(t *testing.T) {
	for _, a := range []*nand.Array{nil, {}} {
		for _, p := range append(places(middle), [3]int{}) {
			refusedAll(t, a, p[0], p[1], p[2], []byte("abcde"), api.ErrPower)
			refusedAll(t, a, p[0], p[1], p[2], nil, api.ErrPower)
		}
	}
}

func TestRefusedOfNoSuchPlace(t *testing.T) {
	a := made(t, middle, cut(0, 0))
	for _, p := range places(middle) {
		before := seen(a)
		refusedAll(t, a, p[0], p[1], p[2], []byte("abcde"), api.ErrArg)
		if a.Ops() != 0 || !a.Power() || !seen(a).is(before) {
			t.Fatalf("%v was counted", p)
		}
	}
	for die := range middle.Dies { // the last ones that are there
		a := made(t, middle)
		for page := range middle.Pages {
			wantProgram(t, a, die, 2, page, []byte("abcde"), api.OK)
			wantRead(t, a, die, 2, page, []byte("abcde"), api.OK)
		}
		wantErase(t, a, die, 2, api.OK)
	}
}

func TestRefusedOfTooFewOrManyBytes(t *testing.T) {
	a := made(t, middle)
	for _, b := range [][]byte{nil, {}, make([]byte, 1), make([]byte, 4), make([]byte, 6), make([]byte, 4, 5), make([]byte, 4096)} {
		before := seen(a)
		wantProgram(t, a, 0, 0, 0, b, api.ErrArg)
		wantProgram(t, a, 0, 0, 1, b, api.ErrArg) // named ahead of ErrOrder
		if !seen(a).is(before) {
			t.Errorf("%d bytes: changed", len(b))
		}
	}
	wantRead(t, a, 0, 0, 0, erased(5), api.OK)
}

func TestRefusedOutOfTurn(t *testing.T) {
	a := made(t, middle, api.Fault{Kind: api.FaultDie, At: 4, Die: 1}, cut(5, 0))
	for next := range middle.Pages + 1 {
		for page := range middle.Pages {
			if page == next {
				continue
			}
			before := seen(a)
			wantProgram(t, a, 0, 1, page, []byte("wrong"), api.ErrOrder)
			if !seen(a).is(before) {
				t.Errorf("page %d, Next %d: changed", page, next)
			}
		}
		if next < middle.Pages {
			wantProgram(t, a, 0, 1, next, []byte("right"), api.OK)
		}
		wantBlock(t, a, 0, 1, min(next+1, 4), 0)
	}
	before := seen(a) // named ahead of ErrDead, and of a cut
	wantProgram(t, a, 1, 0, 1, []byte("wrong"), api.ErrOrder)
	if !seen(a).is(before) {
		t.Errorf("of a dead die: changed")
	}
	wantErase(t, a, 1, 0, api.ErrDead)
	wantProgram(t, a, 0, 1, 0, []byte("wrong"), api.ErrOrder)
	wantErase(t, a, 0, 1, api.ErrPower)
	a.On()
	for page := range middle.Pages { // Next is -1
		wantProgram(t, a, 0, 1, page, []byte("wrong"), api.ErrOrder)
		wantRead(t, a, 0, 1, page, []byte("right"), api.OK)
	}
}

// P4.3

func TestADeadDie(t *testing.T) {
	a := made(t, middle, api.Fault{Kind: api.FaultDie, At: 3, Die: 1, Block: 2, Page: 3}, api.Fault{Kind: api.FaultDie, At: 9, Die: 1})
	wantProgram(t, a, 1, 0, 0, []byte("abcde"), api.OK)
	wantErase(t, a, 1, 1, api.OK)
	wantRead(t, a, 1, 0, 0, []byte("abcde"), api.OK)
	wantRead(t, a, 1, 0, 0, nil, api.ErrDead)
	wantProgram(t, a, 1, 0, 1, []byte("fghij"), api.ErrDead)
	wantErase(t, a, 1, 0, api.ErrDead)
	wantBlock(t, a, 1, 0, 1, 0)
	wantBlock(t, a, 1, 1, 0, 1)
	wantProgram(t, a, 0, 0, 0, []byte("abcde"), api.OK)
	wantRead(t, a, 0, 0, 0, []byte("abcde"), api.OK)
	wantErase(t, a, 0, 0, api.OK)
	wantEvents(t, a, api.Events{Reads: 3, Programs: 3, Erases: 3})
}

func TestABlockThatCantBeProgrammed(t *testing.T) {
	a := made(t, middle, api.Fault{Kind: api.FaultProgram, At: 2, Die: 1, Block: 2, Page: 3}, api.Fault{Kind: api.FaultProgram, At: 40, Die: 1, Block: 2})
	wantProgram(t, a, 1, 2, 0, []byte("abcde"), api.OK)
	wantProgram(t, a, 1, 2, 1, []byte("abcde"), api.OK)
	wantProgram(t, a, 1, 2, 2, []byte("abcde"), api.ErrFail)
	wantBlock(t, a, 1, 2, 3, 0)
	wantRead(t, a, 1, 2, 1, []byte("abcde"), api.OK)
	wantRead(t, a, 1, 2, 2, make([]byte, 5), api.OK)
	wantProgram(t, a, 1, 2, 3, []byte("abcde"), api.ErrFail)
	wantRead(t, a, 1, 2, 3, make([]byte, 5), api.OK)
	wantProgram(t, a, 1, 1, 0, []byte("abcde"), api.OK)
	wantProgram(t, a, 0, 2, 0, []byte("abcde"), api.OK)
	wantErase(t, a, 1, 2, api.OK)
	wantRead(t, a, 1, 2, 2, erased(5), api.OK)
	wantProgram(t, a, 1, 2, 0, []byte("abcde"), api.ErrFail)
	wantEvents(t, a, api.Events{Reads: 4, Programs: 7, Erases: 1, Fails: 3})
	if a.Marked(1, 2) {
		t.Errorf("marked")
	}
}

func TestABlockThatCantBeErased(t *testing.T) {
	a := made(t, middle, api.Fault{Kind: api.FaultErase, At: 2, Die: 1, Block: 2, Page: 3})
	wantErase(t, a, 1, 2, api.OK)
	wantProgram(t, a, 1, 2, 0, []byte("abcde"), api.OK)
	wantErase(t, a, 1, 2, api.ErrFail)
	wantBlock(t, a, 1, 2, 1, 2)
	wantRead(t, a, 1, 2, 0, []byte("abcde"), api.OK)
	wantProgram(t, a, 1, 2, 1, []byte("fghij"), api.OK)
	wantErase(t, a, 1, 2, api.ErrFail)
	wantBlock(t, a, 1, 2, 2, 3)
	wantErase(t, a, 1, 1, api.OK)
	wantErase(t, a, 0, 2, api.OK)
	wantEvents(t, a, api.Events{Reads: 1, Programs: 2, Erases: 5, Fails: 2})
	if a.Marked(1, 2) {
		t.Errorf("marked")
	}
}

// A block that was bad from the beginning is so whatever At says.
func TestABlockBadFromTheBeginning(t *testing.T) {
	a := made(t, middle, api.Fault{Kind: api.FaultFactory, At: 1000, Die: 1, Block: 2, Page: 3})
	for die := range middle.Dies {
		for block := range middle.Blocks {
			if got := a.Marked(die, block); got != (die == 1 && block == 2) {
				t.Errorf("Marked(%d, %d): %v", die, block, got)
			}
		}
	}
	wantProgram(t, a, 1, 2, 0, []byte("abcde"), api.ErrFail)
	wantErase(t, a, 1, 2, api.ErrFail)
	wantBlock(t, a, 1, 2, 1, 1)
	wantRead(t, a, 1, 2, 0, make([]byte, 5), api.OK)
	wantRead(t, a, 1, 2, 1, erased(5), api.OK)
	wantProgram(t, a, 1, 1, 0, []byte("abcde"), api.OK)
	wantErase(t, a, 1, 1, api.OK)
}

func TestEachBitIsTurned(t *testing.T) {
	for bit := range 40 {
		a := made(t, middle, api.Fault{Kind: api.FaultFlip, Times: 1, Bits: []int{bit}})
		want := []byte("abcde")
		want[bit/8] ^= 128 >> (bit % 8)
		wantProgram(t, a, 0, 0, 0, []byte("abcde"), api.OK)
		wantRead(t, a, 0, 0, 0, want, api.OK)
		wantRead(t, a, 0, 0, 0, []byte("abcde"), api.OK)
		wantEvents(t, a, api.Events{Reads: 2, Programs: 1, Flips: 1})
	}
}

// So many reads of that page alone are turned, from At on: the first is that of At itself.
func TestFlipsAsOftenAsTimes(t *testing.T) {
	for times := range 4 {
		a := made(t, middle, api.Fault{Kind: api.FaultFlip, At: 2, Die: 1, Block: 2, Page: 3, Times: times, Bits: []int{7, 8}})
		for range 2 {
			wantRead(t, a, 1, 2, 3, erased(5), api.OK)
		}
		for i := range 6 {
			want := erased(5)
			if i < times {
				want[0], want[1] = 254, 127
			}
			wantRead(t, a, 1, 2, 3, want, api.OK)
			wantRead(t, a, 1, 2, 2, erased(5), api.OK)
			wantRead(t, a, 1, 1, 3, erased(5), api.OK)
			wantRead(t, a, 0, 2, 3, erased(5), api.OK)
			wantErase(t, a, 1, 2, api.OK)
		}
		wantEvents(t, a, api.Events{Reads: 26, Erases: 6, Flips: 2 * times})
	}
}

func TestFlipsFromALaterOperationOn(t *testing.T) {
	a := made(t, middle, api.Fault{Kind: api.FaultFlip, At: 1, Times: 1, Bits: []int{0}})
	for range 3 {
		wantErase(t, a, 1, 0, api.OK)
	}
	wantRead(t, a, 0, 0, 0, []byte{127, 255, 255, 255, 255}, api.OK)
	wantRead(t, a, 0, 0, 0, erased(5), api.OK)
}

func TestFlipsOfBitsThatStandTwice(t *testing.T) {
	a := made(t, middle,
		api.Fault{Kind: api.FaultFlip, Times: 1, Bits: []int{3, 3}},
		api.Fault{Kind: api.FaultFlip, At: 1, Times: 1, Bits: []int{3, 3, 3}},
		api.Fault{Kind: api.FaultFlip, At: 2, Times: 2, Bits: []int{1}},
		api.Fault{Kind: api.FaultFlip, At: 2, Times: 1, Bits: []int{1}})
	wantRead(t, a, 0, 0, 0, erased(5), api.OK)
	wantEvents(t, a, api.Events{Reads: 1, Flips: 2})
	wantRead(t, a, 0, 0, 0, []byte{239, 255, 255, 255, 255}, api.OK)
	wantEvents(t, a, api.Events{Reads: 2, Flips: 5})
	wantRead(t, a, 0, 0, 0, erased(5), api.OK)
	wantEvents(t, a, api.Events{Reads: 3, Flips: 7})
	wantRead(t, a, 0, 0, 0, []byte{191, 255, 255, 255, 255}, api.OK)
	wantEvents(t, a, api.Events{Reads: 4, Flips: 8})
}

// A read that answers no bytes is none of those that Times counts.
func TestFlipsWaitForBytes(t *testing.T) {
	flip := api.Fault{Kind: api.FaultFlip, Times: 1, Bits: []int{0}}
	a := made(t, small, flip, cut(0, 0), cut(1, 0))
	for range 2 {
		wantRead(t, a, 0, 0, 0, nil, api.ErrPower)
		wantRead(t, a, 0, 0, 0, nil, api.ErrPower)
		a.On()
	}
	wantRead(t, a, 0, 0, 2, nil, api.ErrArg)
	wantEvents(t, a, api.Events{Reads: 2, Cuts: 2})
	wantRead(t, a, 0, 0, 0, []byte{127, 255}, api.OK)
	wantRead(t, a, 0, 0, 0, []byte{255, 255}, api.OK)
	b := made(t, small, flip, at(api.FaultDie, 0))
	wantRead(t, b, 0, 0, 0, nil, api.ErrDead)
	wantEvents(t, b, api.Events{Reads: 1})
}

// Of several faults of one kind at one operation the first one counts, whatever stands between.
func TestTheFirstCutCounts(t *testing.T) {
	a := made(t, small, at(api.FaultErase, 9), cut(0, 1), cut(0, 2), cut(0, 0), cut(1, 0), cut(1, 2))
	wantProgram(t, a, 0, 0, 0, []byte("ab"), api.ErrPower)
	a.On()
	wantProgram(t, a, 0, 0, 1, []byte("ab"), api.ErrPower)
	a.On()
	wantRead(t, a, 0, 0, 0, []byte{'a', 255}, api.OK)
	wantRead(t, a, 0, 0, 1, []byte{255, 255}, api.OK)
	wantEvents(t, a, api.Events{Reads: 2, Programs: 2, Cuts: 2})
}

func TestSeveralKindsAtOneOperation(t *testing.T) {
	all := []api.Fault{{Kind: api.FaultFlip, At: 1, Times: 1, Bits: []int{0}}, at(api.FaultProgram, 1), at(api.FaultErase, 1)}
	a := made(t, small, append(slices.Clone(all), at(api.FaultDie, 2), cut(3, 0))...)
	wantProgram(t, a, 0, 0, 0, []byte("ab"), api.OK)
	wantProgram(t, a, 0, 0, 1, []byte("ab"), api.ErrFail)
	wantErase(t, a, 0, 0, api.ErrDead) // ahead of ErrFail
	wantErase(t, a, 0, 0, api.ErrPower)
	a.On()
	wantErase(t, a, 0, 0, api.ErrDead)
	wantBlock(t, a, 0, 0, 2, 0)
	wantEvents(t, a, api.Events{Programs: 2, Erases: 3, Fails: 1, Cuts: 1})
}

func TestReadIsNewMemory(t *testing.T) {
	a := made(t, middle)
	b := []byte("abcde")
	wantProgram(t, a, 0, 0, 0, b[:5:5], api.OK)
	for page, want := range [][]byte{[]byte("abcde"), erased(5)} {
		got, _ := a.Read(0, 0, page)
		again, _ := a.Read(0, 0, page)
		clear(got[:cap(got)])
		if !bytes.Equal(again, want) {
			t.Errorf("answers share memory")
		}
		wantRead(t, a, 0, 0, page, want, api.OK)
		wantRead(t, a, 0, 1, page, erased(5), api.OK)
	}
}

func TestProgramKeepsAndChangesNoBytes(t *testing.T) {
	room := []byte("..abcde..")
	a := made(t, middle, cut(2, 3), at(api.FaultProgram, 3))
	for page := range 4 {
		e := a.Program(0, 0, page, room[2:7])
		a.On()
		if string(room) != "..abcde.." {
			t.Fatalf("page %d, %v: changed to %q", page, e, room)
		}
	}
	clear(room)
	for page, want := range []string{"abcde", "abcde", "abc\xff\xff", "\x00\x00\x00\x00\x00"} {
		wantRead(t, a, 0, 0, page, []byte(want), api.OK)
	}
}

// P4.4

func TestACutRead(t *testing.T) {
	for part := range 7 {
		a := made(t, middle, cut(1, part))
		wantProgram(t, a, 0, 0, 0, []byte("abcde"), api.OK)
		wantRead(t, a, 0, 0, 0, nil, api.ErrPower)
		if a.Power() {
			t.Errorf("the power is on")
		}
		wantBlock(t, a, 0, 0, 1, 0)
		a.On()
		wantRead(t, a, 0, 0, 0, []byte("abcde"), api.OK)
		wantEvents(t, a, api.Events{Reads: 2, Programs: 1, Cuts: 1})
	}
}

func TestACutProgram(t *testing.T) {
	for _, part := range []int{0, 1, 2, 3, 4, 5, 6, math.MaxInt} {
		a := made(t, middle, api.Fault{Kind: api.FaultCut, At: 1, Part: part, Die: 1, Block: 2, Page: 3})
		wantProgram(t, a, 0, 0, 0, []byte("abcde"), api.OK)
		wantProgram(t, a, 0, 0, 1, []byte("fghij"), api.ErrPower)
		if a.Power() {
			t.Errorf("the power is on")
		}
		wantBlock(t, a, 0, 0, 2, 0)
		a.On()
		want := erased(5)
		copy(want, "fghij"[:min(part, 5)])
		wantRead(t, a, 0, 0, 0, []byte("abcde"), api.OK)
		wantRead(t, a, 0, 0, 1, want, api.OK)
		wantProgram(t, a, 0, 0, 1, []byte("fghij"), api.ErrOrder)
		wantProgram(t, a, 0, 0, 2, []byte("fghij"), api.OK)
		wantRead(t, a, 0, 0, 2, []byte("fghij"), api.OK)
		wantEvents(t, a, api.Events{Reads: 3, Programs: 3, Cuts: 1})
	}
}

func TestACutProgramOfABlockThatCantBeProgrammed(t *testing.T) {
	for _, part := range []int{0, 2, 5, 6} {
		for _, kind := range []int{api.FaultProgram, api.FaultFactory} {
			a := made(t, middle, cut(0, part), at(kind, 0))
			wantProgram(t, a, 0, 0, 0, []byte("abcde"), api.ErrPower)
			wantBlock(t, a, 0, 0, 1, 0)
			a.On()
			wantRead(t, a, 0, 0, 0, make([]byte, 5), api.OK)
			wantEvents(t, a, api.Events{Reads: 1, Programs: 1, Cuts: 1})
		}
		a := made(t, middle, cut(0, part), at(api.FaultProgram, 1)) // from then on alone
		wantProgram(t, a, 0, 0, 0, []byte("abcde"), api.ErrPower)
		a.On()
		want := erased(5)
		copy(want, "abcde"[:min(part, 5)])
		wantRead(t, a, 0, 0, 0, want, api.OK)
	}
}

func filled(t *testing.T, a *nand.Array, die, block int) {
	t.Helper()
	for page := range a.Shape().Pages {
		wantProgram(t, a, die, block, page, []byte("abcde"), api.OK)
	}
}

func TestACutErase(t *testing.T) {
	for _, part := range []int{0, 1, 2, 3, 4, 5, math.MaxInt} {
		a := made(t, middle, cut(4, part))
		filled(t, a, 1, 2)
		wantErase(t, a, 1, 2, api.ErrPower)
		if a.Power() {
			t.Errorf("the power is on")
		}
		wantBlock(t, a, 1, 2, -1, 1)
		a.On()
		wantBlock(t, a, 1, 2, -1, 1)
		for page := range 4 {
			want := []byte("abcde")
			if page < part {
				want = erased(5)
			}
			wantRead(t, a, 1, 2, page, want, api.OK)
			wantProgram(t, a, 1, 2, page, []byte("fghij"), api.ErrOrder)
		}
		wantErase(t, a, 1, 2, api.OK)
		wantBlock(t, a, 1, 2, 0, 2)
		wantProgram(t, a, 1, 2, 0, []byte("fghij"), api.OK)
		wantRead(t, a, 1, 2, 0, []byte("fghij"), api.OK)
		wantEvents(t, a, api.Events{Reads: 5, Programs: 5, Erases: 2, Cuts: 1})
	}
}

func TestACutEraseOfABlockThatCantBeErased(t *testing.T) {
	for _, part := range []int{0, 1, 4, 5} {
		a := made(t, middle, cut(4, part), at(api.FaultErase, 4))
		filled(t, a, 0, 0)
		wantErase(t, a, 0, 0, api.ErrPower)
		wantBlock(t, a, 0, 0, -1, 1)
		a.On()
		for page := range 4 {
			wantRead(t, a, 0, 0, page, []byte("abcde"), api.OK)
		}
		wantErase(t, a, 0, 0, api.ErrFail)
		wantBlock(t, a, 0, 0, -1, 2)
		wantEvents(t, a, api.Events{Reads: 4, Programs: 4, Erases: 2, Fails: 1, Cuts: 1})
	}
}

func TestACutOfADeadDie(t *testing.T) {
	a := made(t, middle, at(api.FaultDie, 1), cut(1, 4), cut(2, 4), cut(3, 4), at(api.FaultProgram, 0))
	wantProgram(t, a, 0, 0, 0, []byte("abcde"), api.ErrFail)
	wantProgram(t, a, 0, 0, 1, []byte("abcde"), api.ErrPower)
	refusedAll(t, a, 0, 0, 0, []byte("abcde"), api.ErrPower)
	a.On()
	wantErase(t, a, 0, 0, api.ErrPower)
	a.On()
	wantRead(t, a, 0, 0, 0, nil, api.ErrPower)
	if a.Power() {
		t.Errorf("the power is on")
	}
	a.On()
	wantBlock(t, a, 0, 0, 1, 0)
	wantErase(t, a, 0, 0, api.ErrDead)
	wantEvents(t, a, api.Events{Reads: 1, Programs: 2, Erases: 2, Fails: 1, Cuts: 3})
}

// A cut comes once, at its operation alone: those that are refused are none.
func TestCutsAheadOfAndBehindTheirOperation(t *testing.T) {
	a := made(t, small, cut(2, 0))
	wantRead(t, a, 0, 0, 0, []byte{255, 255}, api.OK)
	wantRead(t, a, 0, 0, 0, []byte{255, 255}, api.OK)
	wantRead(t, a, 0, 0, 9, nil, api.ErrArg)
	wantProgram(t, a, 0, 0, 1, []byte("ab"), api.ErrOrder)
	wantRead(t, a, 0, 0, 0, nil, api.ErrPower)
	wantRead(t, a, 0, 0, 0, nil, api.ErrPower)
	a.On()
	for range 3 {
		wantRead(t, a, 0, 0, 0, []byte{255, 255}, api.OK)
	}
	wantEvents(t, a, api.Events{Reads: 6, Cuts: 1})
}

// P4.5

func TestOnAndPower(t *testing.T) {
	a := made(t, small, cut(0, 0), cut(1, 0))
	a.On()
	if !a.Power() {
		t.Errorf("On of an array that is on: off")
	}
	for range 2 {
		wantErase(t, a, 0, 1, api.ErrPower)
		if a.Power() {
			t.Errorf("on behind a cut")
		}
		a.On()
		a.On()
		if !a.Power() {
			t.Errorf("off behind On")
		}
	}
	wantEvents(t, a, api.Events{Erases: 2, Cuts: 2})
}

func TestEachEventAlone(t *testing.T) {
	a := made(t, small, at(api.FaultProgram, 4), api.Fault{Kind: api.FaultErase, At: 5}, cut(6, 0), api.Fault{Kind: api.FaultFlip, At: 3, Times: 1, Bits: []int{1, 2, 3}})
	want := api.Events{}
	wantEvents(t, a, want)
	a.Read(0, 0, 0)
	want.Reads++
	wantEvents(t, a, want)
	a.Program(0, 0, 0, []byte("ab"))
	want.Programs++
	wantEvents(t, a, want)
	a.Erase(0, 0)
	want.Erases++
	wantEvents(t, a, want)
	a.Read(0, 0, 0)
	want.Reads, want.Flips = 2, 3
	wantEvents(t, a, want)
	a.Program(0, 0, 0, []byte("ab"))
	want.Programs, want.Fails = 2, 1
	wantEvents(t, a, want)
	a.Erase(0, 0)
	want.Erases, want.Fails = 2, 2
	wantEvents(t, a, want)
	a.Read(0, 1, 1)
	want.Reads, want.Cuts = 3, 1
	wantEvents(t, a, want)
	a.Read(0, 1, 1)
	wantEvents(t, a, want)
}

func TestBlocksThatArentThere(t *testing.T) {
	a := made(t, middle, api.Fault{Kind: api.FaultFactory, Die: 0, Block: 0}, api.Fault{Kind: api.FaultFactory, Die: 1, Block: 2})
	wantErase(t, a, 0, 0, api.ErrFail)
	for _, p := range places(middle) {
		if p[0] == 0 && p[1] == 0 || p[0] == 1 && p[1] == 2 { // only its page isn't there
			continue
		}
		wantBlock(t, a, p[0], p[1], -1, 0)
		if a.Marked(p[0], p[1]) {
			t.Errorf("%v is marked", p)
		}
	}
	wantEvents(t, a, api.Events{Erases: 1, Fails: 1})
}

func TestNone(t *testing.T) {
	for _, a := range []*nand.Array{nil, {}} {
		a.On()
		if a.Power() || a.Marked(0, 0) || a.Ops() != 0 || a.Shape() != (api.Shape{}) {
			t.Errorf("none: %v", seen(a))
		}
		wantEvents(t, a, api.Events{})
		for _, p := range append(places(middle), [3]int{}) {
			wantBlock(t, a, p[0], p[1], -1, 0)
		}
		wantRead(t, a, 0, 0, 0, nil, api.ErrPower)
		wantErase(t, a, 0, 0, api.ErrPower)
	}
}

// P4.6

func TestWithoutFaultsPagesAreReadAsProgrammed(t *testing.T) {
	var n numbers = 1
	for _, s := range append(shapes([4]int{8, 4, 8, 128}, [4]int{1, 1, 64, 4096}, [4]int{3, 64, 2, 1}), small, middle) {
		a := made(t, s)
		written := map[[3]int][]byte{}
		for range 3000 {
			die, block := n.below(s.Dies), n.below(s.Blocks)
			page := a.Next(die, block)
			if page == s.Pages || n.below(20) == 0 {
				wantErase(t, a, die, block, api.OK)
				for i := range s.Pages {
					delete(written, [3]int{die, block, i})
				}
			} else {
				b := n.bytes(s.Bytes)
				wantProgram(t, a, die, block, page, b, api.OK)
				written[[3]int{die, block, page}] = b
			}
			die, block, page = n.below(s.Dies), n.below(s.Blocks), n.below(s.Pages)
			want := written[[3]int{die, block, page}]
			if want == nil {
				want = erased(s.Bytes)
			}
			wantRead(t, a, die, block, page, want, api.OK)
		}
	}
}

// All of it

// someFaults are of all kinds, many of them at the same operations and places.
func someFaults(n *numbers, s api.Shape, ops int) []api.Fault {
	row := make([]api.Fault, n.below(30))
	for i := range row {
		f := api.Fault{
			Kind: 1 + n.below(6), At: n.below(ops), Die: n.below(s.Dies), Block: n.below(s.Blocks),
			Page: n.below(s.Pages), Times: n.below(4), Part: n.below(s.Bytes + s.Pages),
		}
		if f.Kind == api.FaultDie && n.below(3) > 0 {
			f.Kind = api.FaultCut
		}
		for range n.below(5) {
			f.Bits = append(f.Bits, n.below(8*s.Bytes))
		}
		row[i] = f
	}
	return row
}

// oneOperation does the same with both, mostly one that isn't refused.
func oneOperation(t *testing.T, n *numbers, a *nand.Array, m *model) {
	t.Helper()
	s := m.shape
	die, block, page := n.below(s.Dies), n.below(s.Blocks), n.below(s.Pages)
	b := n.bytes(s.Bytes)
	if n.below(30) == 0 {
		die, block, page = n.below(s.Dies+2)-1, n.below(s.Blocks+2)-1, n.below(s.Pages+2)-1
		b = n.bytes(s.Bytes - 1 + n.below(3))
	} else if next := a.Next(die, block); n.below(5) > 0 && next >= 0 && next < s.Pages {
		page = next
	}
	switch n.below(5) {
	case 0, 1:
		want, err := m.read(die, block, page)
		wantRead(t, a, die, block, page, want, err)
	case 2, 3:
		wantProgram(t, a, die, block, page, b, m.program(die, block, page, b))
	case 4:
		wantErase(t, a, die, block, m.erase(die, block))
	}
	if m.off && n.below(3) == 0 {
		m.off = false
		a.On()
	}
}

func sameAsModel(t *testing.T, a *nand.Array, m *model) {
	t.Helper()
	wantEvents(t, a, m.events)
	if a.Power() == m.off || a.Ops() != m.ops {
		t.Errorf("Power %v, Ops %d", a.Power(), a.Ops())
	}
	for die := range m.shape.Dies {
		for block := range m.shape.Blocks {
			wantBlock(t, a, die, block, m.blocks[die][block].next, m.blocks[die][block].erases)
			if a.Marked(die, block) != m.marked(die, block) {
				t.Errorf("Marked(%d, %d)", die, block)
			}
		}
	}
}

func TestAgainstTheChaptersWords(t *testing.T) {
	var n numbers = 2
	for _, s := range append(shapes([4]int{1, 1, 1, 1}, [4]int{3, 2, 3, 8}, [4]int{1, 1, 5, 2}), small, middle) {
		for round := range 150 {
			faults := someFaults(&n, s, 200)
			a, m := made(t, s, faults...), newModel(s, faults)
			for range 250 {
				oneOperation(t, &n, a, m)
				sameAsModel(t, a, m)
			}
			if t.Failed() {
				t.Fatalf("shape %v, round %d, faults %+v", s, round, faults)
			}
		}
	}
}
