package journal

import (
	"slices"

	"firkin/api"
)

// add puts a record behind the last one. What was added ahead of it is brought to the tape where there is no room; the record itself stays in memory, so that with an error it isn't done at all.
func (j *Journal) add(r api.Record) api.Errno {
	if len(j.tail) == j.reel.per {
		if e := j.turn(); e != api.OK {
			return e
		}
	}
	r.Seq = j.seq + 1
	j.next(r)
	j.tail = append(j.tail, r)
	j.ahead = true
	return api.OK
}

// next does what a record tells, if it is the one behind the last one.
func (j *Journal) next(r api.Record) bool {
	if r.Seq != j.seq+1 {
		return false
	}
	switch r.Kind {
	case api.RecSet:
		j.pairs[r.A] = r.B
	case api.RecDrop:
		delete(j.pairs, r.A)
	default:
		return false
	}
	j.seq = r.Seq
	return true
}

// turn goes on to an empty block, when the last one is full. That is kept first: were the empty one kept without it, records would be missing between both.
func (j *Journal) turn() api.Errno {
	if j.at == j.reel.long-1 {
		return j.checkpoint()
	}
	if e := j.flush(); e != api.OK {
		return e
	}
	j.at, j.tail = j.at+1, nil
	return api.OK
}

// flush brings the last block to the tape.
func (j *Journal) flush() api.Errno {
	if j.ahead {
		if e := j.reel.write(j.reel.place(j.side, j.at), j.tail); e != api.OK {
			return e
		}
		j.ahead = false
	}
	return j.reel.sync()
}

// checkpoint goes on in the other log. The one that counts stays as it is till all of the other one, and then its root, are kept.
func (j *Journal) checkpoint() api.Errno {
	side, sets := 1-j.side, j.sets()
	if e := j.lay(side, sets); e != api.OK {
		return e
	}
	if e := j.reel.write(side, []api.Record{rootRecord(j.seq, len(sets))}); e != api.OK {
		return e
	}
	if e := j.reel.sync(); e != api.OK {
		return e
	}
	j.seq += uint64(len(sets))
	j.side, j.at = side, len(sets)/j.reel.per
	j.tail, j.ahead = slices.Clone(sets[j.at*j.reel.per:]), false
	return api.OK
}

// sets are records by which an empty map becomes this one.
func (j *Journal) sets() []api.Record {
	var row []api.Record
	for key, value := range j.All() {
		row = append(row, api.Record{Kind: api.RecSet, Seq: j.seq + uint64(len(row)) + 1, A: key, B: value})
	}
	return row
}

// lay gives all blocks of a log new bytes, those that the records don't need, too: an old record there might be taken for the next one.
func (j *Journal) lay(side int, records []api.Record) api.Errno {
	for at := range j.reel.long {
		n := min(len(records), j.reel.per)
		if e := j.reel.write(j.reel.place(side, at), records[:n]); e != api.OK {
			return e
		}
		records = records[n:]
	}
	return j.reel.sync()
}
