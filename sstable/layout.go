package sstable

import (
	"slices"

	"convoy/api"
	"convoy/bloom"
	"convoy/frame"
)

const (
	bitsPerKey = 10     // of the filter
	magic      = "cvt1" // the end of every table
	offsetSize = 4      // bytes of an offset in the footer
	footerSize = 2*offsetSize + len(magic)
)

// block is a block's payload, with its first and its last Key, as the index has them.
type block struct {
	first, last string
	payload     []byte
}

// newReader returns the reader of a table of entries that have passed check.
func newReader(entries []api.Entry) *Reader {
	r := &Reader{filter: bloom.Build(keysOf(entries), bitsPerKey), count: len(entries)}
	for part := range slices.Chunk(entries, api.BlockSize) {
		r.blocks = append(r.blocks, newBlock(part))
	}
	return r
}

// newBlock returns the block of its entries, of which there is at least one.
func newBlock(entries []api.Entry) block {
	b := block{first: entries[0].Key, last: entries[len(entries)-1].Key}
	for _, e := range entries {
		b.payload = append(b.payload, encodeEntry(e)...)
	}
	return b
}

// keysOf returns the keys of entries that are in their order, each key once.
func keysOf(entries []api.Entry) []string {
	var keys []string
	for _, e := range entries {
		keys = append(keys, e.Key)
	}
	return slices.Compact(keys)
}

// encode returns the bytes of the table.
func (r *Reader) encode() []byte {
	var b []byte
	index := frame.Uint(uint64(len(r.blocks)))
	for _, k := range r.blocks {
		sealed := seal(k.payload)
		index = slices.Concat(index, frame.Text(k.first), frame.Text(k.last), frame.Uint(uint64(len(b))), frame.Uint(uint64(len(sealed))))
		b = append(b, sealed...)
	}
	filterAt := len(b)
	b = append(b, seal(r.filter)...)
	indexAt := len(b)
	b = append(b, seal(index)...)
	return slices.Concat(b, encodeOffset(filterAt), encodeOffset(indexAt), []byte(magic))
}

// encodeEntry returns an entry as it stands in a block.
func encodeEntry(e api.Entry) []byte {
	del := byte(0)
	if e.Del {
		del = 1
	}
	return slices.Concat(frame.Text(e.Key), frame.Uint(uint64(e.Seq)), []byte{del}, frame.Text(e.Value))
}

// encodeOffset returns an offset as it stands in the footer.
func encodeOffset(n int) []byte {
	b := make([]byte, offsetSize)
	for i := range b {
		b[i] = byte(n >> (8 * i))
	}
	return b
}

// decodeOffset returns the offset with which the footer, or a part of it, begins.
func decodeOffset(b []byte) int {
	n := 0
	for i := range offsetSize {
		n |= int(b[i]) << (8 * i)
	}
	return n
}

// seal returns the frame of a part of a table. None is too long for one: three of the longest entries have 3303 bytes, the longest index of 28 blocks 3781.
func seal(payload []byte) []byte {
	b, _ := frame.Seal(payload)
	return b
}
