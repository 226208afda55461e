package manifest

import (
	"slices"

	"convoy/api"
	"convoy/frame"
)

// Encode returns the payload of an edit; ErrManifest if a number is negative, ErrLong if the payload is too long.
func Encode(e api.Edit) ([]byte, api.Errno) {
	if anyNegative(e) {
		return nil, api.ErrManifest
	}
	b := numbers(len(e.Add))
	for _, t := range e.Add {
		b = append(b, numbers(t.Number, t.Level)...)
		b = append(b, frame.Text(t.First)...)
		b = append(b, frame.Text(t.Last)...)
	}
	b = append(b, numbers(len(e.Drop))...)
	b = append(b, numbers(e.Drop...)...)
	b = append(b, numbers(e.Next, e.Log, e.Seq)...)
	if len(b) > api.MaxPayload {
		return nil, api.ErrLong
	}
	return b, api.OK
}

// anyNegative reports whether an edit has a number that can't be encoded.
func anyNegative(e api.Edit) bool {
	return e.Next < 0 || e.Log < 0 || e.Seq < 0 ||
		slices.ContainsFunc(e.Drop, func(n int) bool { return n < 0 }) ||
		slices.ContainsFunc(e.Add, func(t api.Table) bool { return t.Number < 0 || t.Level < 0 })
}

// numbers returns the encodings of numbers, one behind the other.
func numbers(list ...int) []byte {
	var b []byte
	for _, n := range list {
		b = append(b, frame.Uint(uint64(n))...)
	}
	return b
}

// Decode returns the edit that has this payload; ErrManifest if none has.
func Decode(b []byte) (api.Edit, api.Errno) {
	if len(b) > api.MaxPayload {
		return api.Edit{}, api.ErrManifest
	}
	t := taker{rest: b}
	e := t.edit()
	if t.failed || len(t.rest) > 0 {
		return api.Edit{}, api.ErrManifest
	}
	return e, api.OK
}
