package sstable

import (
	"iter"
	"slices"

	"convoy/api"
	"convoy/frame"
)

// taker takes what a table consists of from the front of bytes. Where it isn't there, the zero value is taken, and nothing is left: Parse tells by the table that comes of it.
type taker struct {
	rest []byte
}

// pass goes past what was taken; a size of 0 says that it wasn't there.
func (t *taker) pass(size int) {
	if size == 0 {
		size = len(t.rest)
	}
	t.rest = t.rest[size:]
}

// number takes a number.
func (t *taker) number() uint64 {
	n, size := frame.TakeUint(t.rest)
	t.pass(size)
	return n
}

// text takes a text.
func (t *taker) text() string {
	s, size := frame.TakeText(t.rest)
	t.pass(size)
	return s
}

// frame takes a frame, and returns its payload.
func (t *taker) frame() []byte {
	payload, size, _ := frame.Take(t.rest)
	t.pass(size)
	return payload
}

// flag takes a byte, and reports whether it is 1.
func (t *taker) flag() bool {
	if len(t.rest) == 0 {
		return false
	}
	b := t.rest[0]
	t.pass(1)
	return b == 1
}

// entry takes an entry.
func (t *taker) entry() api.Entry {
	var e api.Entry
	e.Key = t.text()
	e.Seq = int(t.number())
	e.Del = t.flag()
	e.Value = t.text()
	return e
}

// entriesOf returns an iterator over the entries of a block's payload.
func entriesOf(payload []byte) iter.Seq[api.Entry] {
	return func(yield func(api.Entry) bool) {
		t := taker{payload}
		for len(t.rest) > 0 {
			if !yield(t.entry()) {
				return
			}
		}
	}
}

// takeEntries returns the entries of the table that has these bytes; if there is none, any entries.
func takeEntries(b []byte) []api.Entry {
	footerAt := len(b) - footerSize
	if footerAt < 0 {
		return nil
	}
	filterAt := decodeOffset(b[footerAt:])
	if filterAt > footerAt {
		return nil
	}
	blocks := taker{b[:filterAt]}
	var entries []api.Entry
	// More than a table has are too many already, however many there are.
	for len(blocks.rest) > 0 && len(entries) <= api.MaxEntries {
		entries = slices.AppendSeq(entries, entriesOf(blocks.frame()))
	}
	return entries
}
