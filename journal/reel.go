package journal

import (
	"slices"

	"firkin/api"
	"firkin/record"
)

const (
	leastBlocks = 8   // of a tape
	leastBytes  = 128 // of a block
	roots       = 2   // blocks
	logs        = 2   // one for each root
)

// reel is a tape, in blocks of records.
type reel struct {
	tape    api.Tape
	blocks  int
	bytes   int       // of a block
	per     int       // records of a block
	long    int       // blocks of a log
	settled bool      // whether what Open read is kept
	failed  api.Errno // the error of a Write or Sync
}

// reelOf is a tape's.
func reelOf(t api.Tape) (reel, api.Errno) {
	if t == nil {
		return reel{}, api.ErrArg
	}
	r := reel{tape: t}
	e := guarded(func() api.Errno {
		r.blocks, r.bytes = t.Blocks(), t.Bytes()
		return api.OK
	})
	if e != api.OK || r.blocks < leastBlocks || r.bytes < leastBytes {
		return reel{}, api.ErrArg
	}
	r.per, r.long = r.bytes/record.Size, (r.blocks-roots)/logs
	return r, api.OK
}

// guarded does something with a tape, whose panic is an error too: a tape is handed in, and may be anything, a nil pointer as well.
func guarded(do func() api.Errno) (e api.Errno) {
	defer func() {
		if recover() != nil {
			e = api.ErrTape
		}
	}()
	return do()
}

// place is where a log's block stands on the tape.
func (r *reel) place(side, at int) int {
	return roots + side*r.long + at
}

// readAll are the records of each block; ErrTape, if one holds anything else.
func (r *reel) readAll() ([][]api.Record, api.Errno) {
	var all [][]api.Record
	verdict := api.OK
	for i := range r.blocks {
		var b []byte
		e := guarded(func() (e api.Errno) {
			b, e = r.tape.Read(i)
			return e
		})
		if e != api.OK { // this is told first, whatever is wrong with the blocks ahead of it
			return nil, e
		}
		records, ok := r.recordsOf(b)
		if !ok {
			verdict = api.ErrTape
		}
		all = append(all, records)
	}
	return all, verdict
}

// recordsOf are the records that a block's bytes tell, and whether there is nothing else.
func (r *reel) recordsOf(b []byte) ([]api.Record, bool) {
	if len(b) != r.bytes {
		return nil, false
	}
	records := slices.Collect(record.All(b))
	for _, x := range b[len(records)*record.Size:] {
		if x != 0 {
			return nil, false
		}
	}
	return records, true
}

// bytesOf are the bytes of a block that holds records.
func (r *reel) bytesOf(records []api.Record) []byte {
	all := make([]byte, r.bytes)
	for i, x := range records {
		b, _ := record.Bytes(x) // all Kinds that a journal makes may be
		copy(all[i*record.Size:], b)
	}
	return all
}

// write gives a block records. What Open read is kept ahead of the first one: what is left then holds either all of that, or nothing that was written behind it.
func (r *reel) write(i int, records []api.Record) api.Errno {
	if !r.settled {
		if e := r.sync(); e != api.OK {
			return e
		}
	}
	b := r.bytesOf(records)
	r.failed = guarded(func() api.Errno { return r.tape.Write(i, b) })
	return r.failed
}

// sync keeps all that was written.
func (r *reel) sync() api.Errno {
	r.failed = guarded(r.tape.Sync)
	r.settled = r.failed == api.OK
	return r.failed
}
