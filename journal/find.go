package journal

import (
	"firkin/api"
)

// rootRecord is a root: the Seq ahead of its log's first record, and of how many records the checkpoint is.
func rootRecord(seq uint64, sets int) api.Record {
	return api.Record{Kind: api.RecSpace, Seq: seq, A: uint64(sets)}
}

// rootOf is the root that a block's records tell, and whether they tell one.
func rootOf(records []api.Record) (api.Record, bool) {
	if len(records) == 0 {
		return rootRecord(0, 0), true
	}
	return records[0], len(records) == 1 && records[0].Kind == api.RecSpace
}

// find brings what the blocks' records tell into an empty journal.
func (j *Journal) find(blocks [][]api.Record) api.Errno {
	root, ok := rootOf(blocks[0])
	other, otherOk := rootOf(blocks[1])
	if !ok || !otherOk {
		return api.ErrTape
	}
	if other.Seq > root.Seq {
		root, j.side = other, 1
	}
	j.seq = root.Seq
	from := j.reel.place(j.side, 0)
	log := blocks[from : from+j.reel.long]
	found := j.read(log)
	if found < count(log) || uint64(found) < root.A || len(j.pairs) > j.Room() {
		return api.ErrTape
	}
	return api.OK
}

// read does what a log's records tell, up to the first one that isn't the next, and answers how many they were.
func (j *Journal) read(log [][]api.Record) int {
	found := 0
reading:
	for at, records := range log {
		for _, r := range records {
			if !j.next(r) {
				break reading
			}
			found++
		}
		if len(records) > 0 {
			j.at, j.tail = at, records
		}
	}
	return found
}

// count is how many records blocks hold.
func count(blocks [][]api.Record) int {
	n := 0
	for _, records := range blocks {
		n += len(records)
	}
	return n
}
