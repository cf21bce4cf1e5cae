package nand

import (
	"math"

	"firkin/api"
)

// maxTotal is how many bytes an array may have in all.
const maxTotal = 1 << 22

// never is the number of an operation that doesn't come.
const never = math.MaxInt

func shapeMayBe(s api.Shape) bool {
	return within(s.Dies, api.MaxDies) && within(s.Blocks, api.MaxBlocks) &&
		within(s.Pages, api.MaxPages) && within(s.Bytes, api.MaxBytes) &&
		s.Dies*s.Blocks*s.Pages*s.Bytes <= maxTotal
}

// within tells whether n is 1 to most.
func within(n, most int) bool {
	return n >= 1 && n <= most
}

// below tells whether n is 0 to less than end.
func below(n, end int) bool {
	return n >= 0 && n < end
}

func faultsMayBe(s api.Shape, faults []api.Fault) bool {
	if len(faults) > api.MaxFaults {
		return false
	}
	for _, f := range faults {
		if !faultMayBe(s, f) {
			return false
		}
	}
	return true
}

func faultMayBe(s api.Shape, f api.Fault) bool {
	for _, bit := range f.Bits {
		if !below(bit, 8*s.Bytes) {
			return false
		}
	}
	return f.Kind >= api.FaultFlip && f.Kind <= api.FaultFactory &&
		f.At >= 0 && f.Times >= 0 && f.Part >= 0 &&
		below(f.Die, s.Dies) && below(f.Block, s.Blocks) && below(f.Page, s.Pages)
}

// lay puts a fault where the operation looks that it is to come at.
func (a *Array) lay(f api.Fault) {
	die := &a.dies[f.Die]
	block := &die.blocks[f.Block]
	switch f.Kind {
	case api.FaultFlip:
		bits := make([]int, len(f.Bits))
		copy(bits, f.Bits)
		block.flips = append(block.flips, flip{page: f.Page, from: f.At, times: f.Times, bits: bits})
	case api.FaultProgram:
		block.noProgram = min(block.noProgram, f.At)
	case api.FaultErase:
		block.noErase = min(block.noErase, f.At)
	case api.FaultDie:
		die.dead = min(die.dead, f.At)
	case api.FaultCut:
		if _, before := a.cuts[f.At]; !before { // the first one in the row counts
			a.cuts[f.At] = f.Part
		}
	case api.FaultFactory:
		block.noProgram, block.noErase, block.marked = 0, 0, true
	}
}
