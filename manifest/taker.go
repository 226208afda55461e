package manifest

import (
	"convoy/api"
	"convoy/frame"
)

const maxNumber = 1 << 62 // the greatest that an edit is read with

// taker takes what an edit consists of from the front of bytes. Once something isn't there, it has failed, and what it takes means nothing.
type taker struct {
	rest   []byte
	failed bool
}

// pass goes past what was taken; a size of 0 says that it wasn't there.
func (t *taker) pass(size int) {
	t.failed = t.failed || size == 0
	t.rest = t.rest[size:]
}

// number takes a number.
func (t *taker) number() int {
	n, size := frame.TakeUint(t.rest)
	t.pass(size)
	t.failed = t.failed || n > maxNumber
	return int(n)
}

// count takes the number of the things that follow.
func (t *taker) count() int {
	n := t.number()
	// Each takes a byte at least. So bytes that tell of countless things are given up at once.
	if n > len(t.rest) {
		t.failed = true
		return 0
	}
	return n
}

// text takes a text.
func (t *taker) text() string {
	s, size := frame.TakeText(t.rest)
	t.pass(size)
	return s
}

// table takes a table.
func (t *taker) table() api.Table {
	var table api.Table
	table.Number = t.number()
	table.Level = t.number()
	table.First = t.text()
	table.Last = t.text()
	return table
}

// edit takes an edit.
func (t *taker) edit() api.Edit {
	var e api.Edit
	for range t.count() {
		e.Add = append(e.Add, t.table())
	}
	for range t.count() {
		e.Drop = append(e.Drop, t.number())
	}
	e.Next = t.number()
	e.Log = t.number()
	e.Seq = t.number()
	return e
}
