package page

import (
	"slices"

	"firkin/api"
	"firkin/bch"
	"firkin/crc"
)

// sumBytes is how many bytes a sum has.
const sumBytes = 4

// word is how a codeword is laid out: so many bytes, their sum, the parity of both.
type word struct {
	bytes int
	code  *bch.Code
}

// newWord is that of so many bytes.
func newWord(bytes, t int) (word, api.Errno) {
	code, e := bch.New(bytes+sumBytes, t)
	return word{bytes: bytes, code: code}, e
}

// covered is how many bytes the parity is of.
func (w word) covered() int {
	return w.bytes + sumBytes
}

// size is how many bytes a codeword has.
func (w word) size() int {
	return w.covered() + w.code.Parity()
}

// closed is data's codeword. Its sum is of what stands ahead, too, which is not in it: so data are held to what is said of them elsewhere.
func (w word) closed(ahead, data []byte) []byte {
	sealed := crc.Seal(slices.Concat(ahead, data))[len(ahead):]
	parity, _ := w.code.Encode(sealed) // of just so many bytes there is no error
	return append(sealed, parity...)
}

// found is what was read of a codeword: all that the parity is of, set right, and how many bits were turned; nothing, if it can't be set right.
type found struct {
	sealed []byte
	flips  int
}

// reader reads the codewords of b, each from where the last one ended.
func reader(b []byte) func(w word) found {
	at := 0
	return func(w word) found {
		parity := at + w.covered()
		end := at + w.size()
		sealed, _, flips, _ := w.code.Decode(b[at:parity], b[parity:end]) // with an error there is nothing
		at = end
		return found{sealed: sealed, flips: flips}
	}
}

// open is the verdict on a codeword whose sum is of what stands ahead, too, and its data, if it isn't bad.
func (f found) open(ahead []byte) (int, []byte) {
	if f.sealed == nil {
		return api.WordBad, nil
	}
	data, e := crc.Open(slices.Concat(ahead, f.sealed))
	if e != api.OK {
		return api.WordBad, nil
	}
	if f.flips > 0 {
		return api.WordFixed, data[len(ahead):]
	}
	return api.WordClean, data[len(ahead):]
}
