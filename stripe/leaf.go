package stripe

import (
	"firkin/api"
)

const (
	slotNumbers = 3  // Key, State, Seq
	seqBits     = 48 // as many as there is room for on a page
)

// layoutMayBe tells whether a layout's leaves can be added; its T has no part in that.
func layoutMayBe(l api.Layout) bool {
	return l.Sector >= 1 && l.Sector <= api.MaxSector && l.Slots >= 1 && l.Slots <= api.MaxSlots
}

// leafMayBe tells whether a leaf may be.
func leafMayBe(l api.Layout, x api.Leaf) bool {
	for _, s := range x.Slots {
		if s.State < api.SlotNone || s.State > api.SlotLost || s.Seq >= 1<<seqBits {
			return false
		}
	}
	for _, s := range x.Sectors {
		if len(s) != l.Sector && len(s) != 0 {
			return false
		}
	}
	return len(x.Slots) == l.Slots && len(x.Sectors) == l.Slots
}

// rowsAt are the numbers of each leaf's slot i, and its sector.
func rowsAt(leaves []api.Leaf, i int) ([][]uint64, [][]byte) {
	numbers, sectors := make([][]uint64, len(leaves)), make([][]byte, len(leaves))
	for k, x := range leaves {
		numbers[k], sectors[k] = numbersOf(x.Slots[i]), x.Sectors[i]
	}
	return numbers, sectors
}

// numbersOf are a slot's.
func numbersOf(s api.Slot) []uint64 {
	return []uint64{uint64(s.Key), uint64(s.State), s.Seq}
}

// slotOf is the slot that has these numbers.
func slotOf(n []uint64) api.Slot {
	return api.Slot{Key: uint32(n[0]), State: int(n[1]), Seq: n[2]}
}

// added are rows of at most size items, added bit by bit, in new memory; items that a row has not count as 0.
func added[N byte | uint64](size int, rows ...[]N) []N {
	sum := make([]N, size)
	for _, row := range rows {
		for i, x := range row {
			sum[i] ^= x
		}
	}
	return sum
}
