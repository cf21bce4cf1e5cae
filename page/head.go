package page

import (
	"firkin/api"
)

// How many bytes numbers have on a page.
const (
	kindBytes  = 1
	idBytes    = 4
	rowBytes   = 2
	placeBytes = 1
	widthBytes = 1
	headBytes  = kindBytes + idBytes + rowBytes + placeBytes + widthBytes // without its slots'
	keyBytes   = 4
	stateBytes = 1
	seqBytes   = 6
	slotBytes  = keyBytes + stateBytes + seqBytes
)

// fits tells whether a number fits in so many bytes.
func fits(n, size int) bool {
	return n >= 0 && n < 1<<(8*size)
}

// fieldsMayBe tells whether a head may be, as far as it is not its slots.
func fieldsMayBe(h api.Head) bool {
	return h.Kind >= api.PageData && h.Kind <= api.PagePad && fits(h.Row, rowBytes) && fits(h.Place, placeBytes) && fits(h.Width, widthBytes)
}

// slotMayBe tells whether a slot may be.
func slotMayBe(s api.Slot) bool {
	return s.State >= api.SlotNone && s.State <= api.SlotLost && s.Seq < 1<<(8*seqBytes)
}

// bytesOfHead are a head's.
func bytesOfHead(h api.Head) []byte {
	b := appended(nil, uint64(h.Kind), kindBytes)
	b = appended(b, uint64(h.Id), idBytes)
	b = appended(b, uint64(h.Row), rowBytes)
	b = appended(b, uint64(h.Place), placeBytes)
	b = appended(b, uint64(h.Width), widthBytes)
	for _, s := range h.Slots {
		b = append(b, bytesOfSlot(s)...)
	}
	return b
}

// bytesOfSlot are a slot's.
func bytesOfSlot(s api.Slot) []byte {
	b := appended(nil, uint64(s.Key), keyBytes)
	b = appended(b, uint64(s.State), stateBytes)
	return appended(b, s.Seq, seqBytes)
}

// appended is b with a number of so many bytes behind it.
func appended(b []byte, n uint64, size int) []byte {
	for i := range size {
		b = append(b, byte(n>>(8*i)))
	}
	return b
}

// headOf is the head that has these bytes.
func headOf(b []byte) api.Head {
	next := numbersOf(b)
	h := api.Head{
		Kind:  int(next(kindBytes)),
		Id:    uint32(next(idBytes)),
		Row:   int(next(rowBytes)),
		Place: int(next(placeBytes)),
		Width: int(next(widthBytes)),
		Slots: make([]api.Slot, (len(b)-headBytes)/slotBytes),
	}
	for i := range h.Slots {
		h.Slots[i] = api.Slot{Key: uint32(next(keyBytes)), State: int(next(stateBytes)), Seq: next(seqBytes)}
	}
	return h
}

// numbersOf tells the numbers that b has behind one another, each of so many bytes.
func numbersOf(b []byte) func(size int) uint64 {
	at := 0
	return func(size int) uint64 {
		n := uint64(0)
		for i := range size {
			n |= uint64(b[at+i]) << (8 * i)
		}
		at += size
		return n
	}
}
