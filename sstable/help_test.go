package sstable_test

import (
	"bytes"
	"encoding/binary"
	"fmt"
	"hash/crc32"
	"iter"
	"math"
	"slices"
	"strings"
	"testing"

	"convoy/api"
	"convoy/bloom"
	"convoy/sstable"
)

// set returns the entry of a value.
func set(key string, seq int, value string) api.Entry {
	return api.Entry{Key: key, Seq: seq, Value: value}
}

// del returns the entry of a deletion.
func del(key string, seq int) api.Entry { return api.Entry{Key: key, Seq: seq, Del: true} }

// sorted are entries in their order: keys byte by byte, a prefix before what continues it, and of each key the newest first.
var sorted = []api.Entry{
	set("", 9, "e"), del("", 2), set("\x00", 4, ""), set("a", 1<<62, "last"), del("a", 1<<62-1), set("a", 10, "ten"), set("a", 9, "nine"), set("a", 1, "one"),
	del("a\x00", 8), set("aa", 1<<62, "x"), set("aa", 1, "y"), set("ab", 5, "z"), set("b", 100, ""), del("b", 20), set("b", 3, "w"),
	set("z", 1, ""), set("\x80", 1, "no UTF-8"), set("é", 1, ""), set("\xff", 2, ""), set("\xff", 1, ""), set("\xff\xff", 7, ""),
}

// longest has so many entries, none of which could be longer; their keys differ from the first byte on.
func longest(count int) []api.Entry {
	var l []api.Entry
	for i := range count {
		l = append(l, set(string(rune('!'+i))+strings.Repeat("k", 63), 1<<62, strings.Repeat("v", 1024)))
	}
	return l
}

// versions has so many entries of one key.
func versions(key string, count int) []api.Entry {
	var l []api.Entry
	for i := range count {
		l = append(l, set(key, 2*(count-i), strings.Repeat("v", i)))
	}
	return l
}

// numbered has so many entries of different keys; the keys' numbers leave out every second one.
func numbered(count int) []api.Entry {
	var l []api.Entry
	for i := range count {
		l = append(l, set(fmt.Sprintf("key%03d", 2*i), 100+i, fmt.Sprint(i)))
	}
	return l
}

// samples returns entries of tables: of each size that makes another number of blocks or another last block, with short keys and long ones, and many of one key.
func samples() [][]api.Entry {
	l := [][]api.Entry{
		sorted, {set("", 1, "")}, {del("", 1)}, longest(1), longest(84), versions("a", 84), versions("", 10), numbered(84), numbered(83), numbered(82),
		slices.Concat(numbered(3), versions("x", 7), numbered(0), versions("y", 1), versions("z", 9)),
	}
	for n := 1; n < len(sorted); n++ {
		l = append(l, sorted[:n], sorted[n:])
	}
	return l
}

// texts that are asked for as keys: prefixes of each other, all bytes' ends, texts that are no UTF-8, and long ones.
var texts = []string{
	"", "\x00", "\x00\x00", "!", "A", "a", "a\x00", "a\x00b", "a\x01", "aa", "aaa", "ab", "a\xff", "b", "b\x00", "ba", "c", "key", "key000", "key001", "key010", "key080",
	"key165", "key166", "key167", "x", "y", "z", "z\x00", "\x7f", "\x80", "\xc3", "é", "\xff", "\xff\x00", "\xff\xff", "\xff\xff\x00", "!" + strings.Repeat("k", 63), "!" + strings.Repeat("k", 64), strings.Repeat("\xff", 1000),
}

// seqs that are asked for, inside their range and outside.
var seqs = []int{math.MinInt, -1, 0, 1, 2, 3, 4, 5, 7, 8, 9, 10, 11, 19, 20, 21, 99, 100, 101, 150, 167, 168, 1 << 31, 1<<62 - 1, 1 << 62, 1<<62 + 1, math.MaxInt}

// row is what the index tells of a block.
type row struct {
	first, last string
	at, size    uint64
}

// table is a table's parts as they will be written, whether or not they fit each other.
type table struct {
	payloads          []string // of the blocks
	filter            string
	blocks            uint64 // as the index tells
	rows              []row
	filterAt, indexAt uint32
	magic             string
}

// laidOut returns the parts of a table, with so many entries in each block.
func laidOut(entries []api.Entry, size int) *table {
	t := &table{magic: "cvt1"}
	var keys []string
	for i, e := range entries {
		if i%size == 0 {
			t.payloads = append(t.payloads, "")
			t.rows = append(t.rows, row{first: e.Key})
		}
		t.payloads[i/size] += entryText(e)
		t.rows[i/size].last = e.Key
		if !slices.Contains(keys, e.Key) {
			keys = append(keys, e.Key)
		}
	}
	t.filter = string(bloom.Build(keys, 10))
	t.settle()
	return t
}

// settle makes the index and the footer fit the parts.
func (t *table) settle() *table {
	at := 0
	for i, p := range t.payloads {
		t.rows[i].at, t.rows[i].size = uint64(at), uint64(len(framed(p)))
		at += len(framed(p))
	}
	t.blocks = uint64(len(t.rows))
	t.filterAt = uint32(at)
	t.indexAt = uint32(at + len(framed(t.filter)))
	return t
}

// index returns the payload of the index.
func (t *table) index() string {
	b := binary.AppendUvarint(nil, t.blocks)
	for _, r := range t.rows {
		b = append(b, sizedText(r.first)+sizedText(r.last)...)
		b = binary.AppendUvarint(b, r.at)
		b = binary.AppendUvarint(b, r.size)
	}
	return string(b)
}

// frames returns the frames of the blocks.
func (t *table) frames() string {
	s := ""
	for _, p := range t.payloads {
		s += framed(p)
	}
	return s
}

// footer returns the last bytes.
func (t *table) footer() string {
	b := binary.LittleEndian.AppendUint32(nil, t.filterAt)
	return string(binary.LittleEndian.AppendUint32(b, t.indexAt)) + t.magic
}

// bytes returns everything.
func (t *table) bytes() []byte {
	return []byte(t.frames() + framed(t.filter) + framed(t.index()) + t.footer())
}

// entryText returns an entry as it stands in a block.
func entryText(e api.Entry) string {
	seq := string(binary.AppendUvarint(nil, uint64(e.Seq)))
	if e.Del {
		return sizedText(e.Key) + seq + "\x01" + sizedText(e.Value)
	}
	return sizedText(e.Key) + seq + "\x00" + sizedText(e.Value)
}

// sizedText returns a text behind the number of its bytes.
func sizedText(s string) string { return string(binary.AppendUvarint(nil, uint64(len(s)))) + s }

// framed returns the frame of a payload, with the library's checksum.
func framed(payload string) string {
	b := binary.AppendUvarint(nil, uint64(len(payload)))
	b = binary.LittleEndian.AppendUint32(b, crc32.ChecksumIEEE([]byte(payload)))
	return string(b) + payload
}

// built returns the bytes of a table.
func built(t *testing.T, entries []api.Entry) []byte {
	t.Helper()
	b, code := sstable.Build(entries)
	if code != api.OK || len(b) == 0 {
		t.Fatalf("P6.1: Build(%.200v): %d bytes, %d", entries, len(b), code)
	}
	return b
}

// parsed returns the reader of a table's bytes.
func parsed(t *testing.T, b []byte) *sstable.Reader {
	t.Helper()
	r, code := sstable.Parse(b)
	if code != api.OK || r == nil {
		t.Fatalf("P6.1: Parse of %d bytes, %.60x: %d", len(b), b, code)
	}
	return r
}

// read returns the reader of a table that was just built.
func read(t *testing.T, entries []api.Entry) *sstable.Reader {
	t.Helper()
	return parsed(t, built(t, entries))
}

// rejected asks that bytes are no table.
func rejected(t *testing.T, what string, b []byte) {
	t.Helper()
	if r, code := sstable.Parse(b); r != nil || code != api.ErrTable {
		t.Errorf("P6.1: Parse of %d bytes, %s: %d", len(b), what, code)
	}
}

// wantGet returns the newest of a key's entries that is not above seq, as the chapter tells it.
func wantGet(entries []api.Entry, key string, seq int) (best api.Entry) {
	for _, e := range entries {
		if e.Key == key && e.Seq <= seq && e.Seq > best.Seq {
			best = e
		}
	}
	return best
}

// wantFrom returns those of sorted entries whose Key is not less.
func wantFrom(entries []api.Entry, key string) []api.Entry {
	var l []api.Entry
	for _, e := range entries {
		if bytes.Compare([]byte(e.Key), []byte(key)) >= 0 {
			l = append(l, e)
		}
	}
	return l
}

// checkGet asks for the newest entry of a key that is not above seq; the zero entry stands for none.
func checkGet(t *testing.T, r *sstable.Reader, key string, seq int, want api.Entry) {
	t.Helper()
	if got, ok := r.Get(key, seq); ok != (want.Seq > 0) || got != want {
		t.Errorf("P6.1: Get(%.20q, %d): %.40v, %v; want %.40v", key, seq, got, ok, want)
	}
}

// checkSeq asks what an iterator yields.
func checkSeq(t *testing.T, promise string, entries iter.Seq[api.Entry], want []api.Entry) {
	t.Helper()
	if got := slices.Collect(entries); !slices.Equal(got, want) {
		t.Errorf("%s: an iterator: %.200v; want %.200v", promise, got, want)
	}
}

// checkRead asks a reader for everything that its entries answer.
func checkRead(t *testing.T, promise string, r *sstable.Reader, entries []api.Entry) {
	t.Helper()
	if got := r.All(); !slices.Equal(got, entries) {
		t.Errorf("%s: All: %.200v; want %.200v", promise, got, entries)
	}
	first, last := entries[0].Key, entries[len(entries)-1].Key
	if r.Len() != len(entries) || r.First() != first || r.Last() != last {
		t.Errorf("%s: Len, First, Last: %d, %q, %q; want %d, %q, %q", promise, r.Len(), r.First(), r.Last(), len(entries), first, last)
	}
	for _, key := range texts {
		checkSeq(t, promise, r.From(key), wantFrom(entries, key))
		for _, seq := range seqs {
			checkGet(t, r, key, seq, wantGet(entries, key, seq))
		}
	}
	for _, e := range entries {
		checkGet(t, r, e.Key, e.Seq, e)
		checkGet(t, r, e.Key, e.Seq-1, wantGet(entries, e.Key, e.Seq-1))
	}
}
