package sstable_test

import (
	"bytes"
	"fmt"
	"math"
	"math/rand"
	"slices"
	"strings"
	"testing"

	"convoy/api"
	"convoy/frame"
)

// P6.1: nothing that is too short for a footer, or has nothing but one, is a table.
func TestNoTable(t *testing.T) {
	for n := range 40 {
		rejected(t, "zeros", make([]byte, n))
		rejected(t, "ones", bytes.Repeat([]byte{255}, n))
		rejected(t, "a footer's end", []byte(strings.Repeat("\x00", n)+"cvt1"))
		rejected(t, "footers", []byte(strings.Repeat("\x00\x00\x00\x00\x00\x00\x00\x00cvt1", n)))
	}
	rejected(t, "nil", nil)
	rejected(t, "many zeros", make([]byte, 1<<20))
	rejected(t, "many frames", []byte(strings.Repeat("\x00\x00\x00\x00\x00", 100000)+"\x20\xa1\x07\x00\x20\xa1\x07\x00cvt1"))
}

// P6.1: a table with one byte changed, omitted or added is none.
func TestOneByte(t *testing.T) {
	for _, l := range [][]api.Entry{{set("a", 1, "x")}, {set("", 1, "")}, {del("", 300)}, sorted[:4], sorted} {
		b := built(t, l)
		for i := range b {
			for x := 1; x < 256; x++ {
				other := bytes.Clone(b)
				other[i] ^= byte(x)
				rejected(t, fmt.Sprintf("byte %d changed by %d", i, x), other)
			}
			rejected(t, fmt.Sprintf("byte %d omitted", i), slices.Delete(bytes.Clone(b), i, i+1))
		}
		for i := range len(b) + 1 {
			for _, x := range []byte{0, 1, 5, 'a', 'c', '1', 127, 128, 255, b[min(i, len(b)-1)]} {
				rejected(t, fmt.Sprintf("byte %d added at %d", x, i), slices.Insert(bytes.Clone(b), i, x))
			}
			rejected(t, "cut off behind", b[:min(i, len(b)-1)])
			rejected(t, "cut off ahead", b[max(i, 1):])
			rejected(t, "zeros ahead", append(make([]byte, i+1), b...))
			rejected(t, "zeros behind", append(bytes.Clone(b), make([]byte, i+1)...))
		}
		rejected(t, "twice", append(bytes.Clone(b), b...))
	}
}

// forgery changes a table's parts, such that they are no table's.
type forgery struct {
	what  string
	forge func(t *table)
}

// forgedRows are those of the index, whose frame is otherwise in order.
var forgedRows = []forgery{
	{"a lesser count", func(t *table) { t.blocks-- }},
	{"a greater count", func(t *table) { t.blocks++ }},
	{"no count", func(t *table) { t.blocks = 0 }},
	{"the greatest count", func(t *table) { t.blocks = math.MaxUint64 }},
	{"a row too few", func(t *table) { t.rows = t.rows[1:] }},
	{"a row and a count too few", func(t *table) { t.rows = t.rows[:len(t.rows)-1]; t.blocks-- }},
	{"no rows", func(t *table) { t.rows, t.blocks = nil, 0 }},
	{"a row too many", func(t *table) { t.rows = append(t.rows, t.rows[0]) }},
	{"a row and a count too many", func(t *table) { t.rows = append(t.rows, t.rows[0]); t.blocks++ }},
	{"rows out of order", func(t *table) { t.rows[0], t.rows[1] = t.rows[1], t.rows[0] }},
	{"another first key", func(t *table) { t.rows[1].first += "x" }},
	{"no first key", func(t *table) { t.rows[1].first = "" }},
	{"another last key", func(t *table) { t.rows[0].last += "\x00" }},
	{"the first key as the last", func(t *table) { t.rows[0].last = t.rows[0].first }},
	{"another offset", func(t *table) { t.rows[1].at++ }},
	{"the greatest offset", func(t *table) { t.rows[0].at = math.MaxUint64 }},
	{"another length", func(t *table) { t.rows[1].size-- }},
	{"a payload's length", func(t *table) { t.rows[0].size -= 5 }},
	{"the greatest length", func(t *table) { t.rows[0].size = math.MaxUint64 }},
}

// forgedFooters are those of the footer, and of the filter.
var forgedFooters = []forgery{
	{"the filter's offset 0", func(t *table) { t.filterAt = 0 }},
	{"the filter's offset ahead", func(t *table) { t.filterAt-- }},
	{"the filter's offset behind", func(t *table) { t.filterAt++ }},
	{"the filter's offset at the last block", func(t *table) { t.filterAt = uint32(t.rows[1].at) }},
	{"the filter's offset at the index", func(t *table) { t.filterAt = t.indexAt }},
	{"the filter's offset at the footer", func(t *table) { t.filterAt = uint32(len(t.bytes()) - 12) }},
	{"the filter's offset in the footer", func(t *table) { t.filterAt = uint32(len(t.bytes()) - 11) }},
	{"the filter's offset at the end", func(t *table) { t.filterAt = uint32(len(t.bytes())) }},
	{"the filter's offset behind the end", func(t *table) { t.filterAt = uint32(len(t.bytes()) + 1) }},
	{"the filter's greatest offset", func(t *table) { t.filterAt = math.MaxUint32 }},
	{"the filter's offset of 31 bits", func(t *table) { t.filterAt = 1 << 31 }},
	{"the index's offset 0", func(t *table) { t.indexAt = 0 }},
	{"the index's offset ahead", func(t *table) { t.indexAt-- }},
	{"the index's offset behind", func(t *table) { t.indexAt++ }},
	{"the index's greatest offset", func(t *table) { t.indexAt = math.MaxUint32 }},
	{"offsets of each other", func(t *table) { t.filterAt, t.indexAt = t.indexAt, t.filterAt }},
	{"another end", func(t *table) { t.magic = "cvt2" }},
	{"an end in capitals", func(t *table) { t.magic = "CVT1" }},
	{"no end", func(t *table) { t.magic = "" }},
	{"a filter without a key", func(t *table) { t.filter = strings.Repeat("\x00", 8) + "\x06" }},
	{"a filter with all keys", func(t *table) { t.filter = strings.Repeat("\xff", 8) + "\x06" }},
	{"a filter of another k", func(t *table) { t.filter = t.filter[:8] + "\x05" }},
	{"a filter that is longer", func(t *table) { t.filter = "\x00" + t.filter; t.settle() }},
	{"no filter", func(t *table) { t.filter = ""; t.settle() }},
}

// forgedBlocks are those of the blocks: the filter, the index and the footer fit them.
var forgedBlocks = []forgery{
	{"no block", func(t *table) { t.payloads, t.rows = nil, nil }},
	{"a block less", func(t *table) { t.payloads, t.rows = t.payloads[:1], t.rows[:1] }},
	{"a block twice", func(t *table) { t.payloads, t.rows = append(t.payloads, t.payloads[1]), append(t.rows, t.rows[1]) }},
	{"blocks out of order", func(t *table) {
		slices.Reverse(t.payloads)
		slices.Reverse(t.rows)
	}},
	{"a block without entries", func(t *table) { t.payloads[1] = "" }},
	{"a block without entries ahead", func(t *table) { t.payloads, t.rows = slices.Insert(t.payloads, 0, ""), slices.Insert(t.rows, 0, row{}) }},
	{"a block without entries behind", func(t *table) { t.payloads, t.rows = append(t.payloads, ""), append(t.rows, row{}) }},
	{"a block too long for a frame", func(t *table) { t.payloads[1] = strings.Repeat("\x00", 4097) }},
	{"a byte behind the entries", func(t *table) { t.payloads[1] += "\x00" }},
	{"a byte ahead of the entries", func(t *table) { t.payloads[1] = "\x00" + t.payloads[1] }},
	{"half an entry behind the entries", func(t *table) { t.payloads[1] += "\x01b\x01" }},
	{"a key alone behind the entries", func(t *table) { t.payloads[1] += "\x01z" }},
	{"a byte less", func(t *table) { t.payloads[1] = t.payloads[1][:len(t.payloads[1])-1] }},
}

// P6.1: parts that don't fit each other, and others than a table's, are no table, however right the checksums are.
func TestForgeries(t *testing.T) {
	entries := []api.Entry{set("a", 5, "x"), set("b", 7, "y"), set("b", 6, "why"), set("c", 1, "z")}
	if !bytes.Equal(laidOut(entries, 3).bytes(), built(t, entries)) {
		t.Fatal("P6.1: laid out otherwise")
	}
	for _, f := range slices.Concat(forgedRows, forgedFooters, forgedBlocks) {
		parts := laidOut(entries, 3)
		f.forge(parts)
		rejected(t, f.what, parts.bytes())
	}
	for _, f := range forgedBlocks {
		parts := laidOut(entries, 3)
		f.forge(parts)
		rejected(t, f.what+", and the rest to fit", parts.settle().bytes())
	}
}

// P6.1: entries that Build would reject are no table, with all else to fit.
func TestForgedEntries(t *testing.T) {
	for _, c := range wrong {
		if len(c.e.Key)+len(c.e.Value) < 4000 {
			rejected(t, fmt.Sprintf("of %.60v", c.e), laidOut([]api.Entry{c.e}, 3).bytes())
			rejected(t, fmt.Sprintf("of a and %.60v", c.e), laidOut([]api.Entry{set("a", 9, ""), c.e, set("z", 1, "")}, 3).bytes())
		}
	}
	for i := range sorted {
		rejected(t, fmt.Sprintf("with entry %d twice", i), laidOut(slices.Insert(slices.Clone(sorted), i, sorted[i]), 3).bytes())
		if i > 0 {
			swapped := slices.Clone(sorted)
			swapped[i-1], swapped[i] = swapped[i], swapped[i-1]
			rejected(t, fmt.Sprintf("with entries %d and %d swapped", i-1, i), laidOut(swapped, 3).bytes())
		}
	}
	for _, n := range []int{85, 86, 87, 200} {
		rejected(t, fmt.Sprintf("of %d entries", n), laidOut(numbered(n), 3).bytes())
		rejected(t, fmt.Sprintf("of %d versions", n), laidOut(versions("", n), 3).bytes())
	}
}

// P6.1: each block but the last has three entries, the last one as many as are left.
func TestForgedSizes(t *testing.T) {
	for n := 1; n <= len(sorted); n++ {
		for size := 1; size <= n; size++ {
			if size != 3 && !(n <= 3 && size >= n) {
				rejected(t, fmt.Sprintf("%d entries, %d in a block", n, size), laidOut(sorted[:n], size).bytes())
			}
		}
	}
	parts := laidOut(sorted, 3)
	first := entryText(sorted[0])
	parts.payloads = slices.Insert(parts.payloads, 0, first)
	parts.payloads[1] = strings.TrimPrefix(parts.payloads[1], first)
	parts.rows = slices.Insert(parts.rows, 0, row{first: sorted[0].Key, last: sorted[0].Key})
	rejected(t, "a first block of one entry", parts.settle().bytes())
}

// P6.1: a number that is not encoded as shortly as possible, and a deletion that is neither 1 nor 0, are none's.
func TestForgedEntryBytes(t *testing.T) {
	for _, payload := range []string{
		"\x01a\x81\x00\x00\x01x", "\x81\x00a\x01\x00\x01x", "\x01a\x01\x00\x81\x00x", "\x01a\x80\x00\x00\x01x",
		"\x01a\x01\x02\x00", "\x01a\x01\x02\x01x", "\x01a\x01\xff\x00", "\x01a\x01\x80\x00", "\x01a\x01\x81\x00\x01x", "\x01a\x01\x80\x00\x01x",
		"\x01a\x01\x01\x01x", "\x01a\x00\x00\x01x", "\x01a\x01\x00", "\x01a\x01", "\x01a", "\x01", "\x00", "\x02a", "\x01a\x01\x00\x02x",
		"\x01a\xff\xff\xff\xff\xff\xff\xff\xff\xff\x01\x00\x01x", "\x01a\x81\x80\x80\x80\x80\x80\x80\x80\xc0\x00\x00\x01x",
		"\x01a\x81\x80\x80\x80\x80\x80\x80\x80\x40\x00\x01x", "\x01a\x80\x80\x80\x80\x80\x80\x80\x80\x80\x01\x00\x01x",
		"\xff\xff\xff\xff\xff\xff\xff\xff\xff\x01a\x01\x00\x01x", "\x01a\x01\x00\xff\xff\xff\xff\xff\xff\xff\xff\xff\x01x",
	} {
		parts := laidOut([]api.Entry{set("a", 1, "x")}, 3)
		parts.payloads[0] = payload
		rejected(t, fmt.Sprintf("a block of %x", payload), parts.settle().bytes())
	}
}

// P6.1: the frames stand in their order, with nothing between them.
func TestForgedPlaces(t *testing.T) {
	parts := laidOut(sorted, 3)
	blocks, filter, index := parts.frames(), framed(parts.filter), framed(parts.index())
	at := func(filterAt, indexAt int) string {
		parts.filterAt, parts.indexAt = uint32(filterAt), uint32(indexAt)
		return parts.footer()
	}
	n := len(blocks)
	if string(built(t, sorted)) != blocks+filter+index+at(n, n+len(filter)) {
		t.Fatal("P6.1: laid out otherwise")
	}
	rejected(t, "the index ahead of the filter", []byte(blocks+index+filter+at(n+len(index), n)))
	rejected(t, "the index twice", []byte(blocks+filter+index+index+at(n, n+len(filter))))
	rejected(t, "the filter twice", []byte(blocks+filter+filter+index+at(n, n+2*len(filter))))
	rejected(t, "no index", []byte(blocks+filter+at(n, n+len(filter))))
	rejected(t, "no filter", []byte(blocks+index+at(n, n)))
	for _, gap := range []string{"\x00", "\x00\x00\x00\x00\x00", "x", filter, index} {
		rejected(t, "a gap ahead of the filter", []byte(blocks+gap+filter+index+at(n+len(gap), n+len(gap)+len(filter))))
		rejected(t, "a gap that no offset counts", []byte(blocks+gap+filter+index+at(n, n+len(gap)+len(filter))))
		rejected(t, "a gap ahead of the index", []byte(blocks+filter+gap+index+at(n, n+len(filter)+len(gap))))
		rejected(t, "a gap ahead of the footer", []byte(blocks+filter+index+gap+at(n, n+len(filter))))
	}
}

// resealed returns a table's bytes with one byte of one frame's payload changed, and its checksum to fit.
func resealed(b []byte, i int, x byte) []byte {
	for at := 0; ; {
		payload, size, code := frame.Take(b[at:])
		if code != api.OK {
			return nil
		}
		if start := at + size - len(payload); i < at+size && i >= start {
			payload[i-start] ^= x
			return slices.Concat(b[:at], []byte(framed(string(payload))), b[at+size:])
		}
		at += size
	}
}

// P6.1: of all tables that differ in one byte behind a checksum that fits, just those that Build writes are accepted.
func TestResealed(t *testing.T) {
	r := rand.New(rand.NewSource(6))
	taken := 0
	for _, l := range [][]api.Entry{{set("a", 1, "x")}, {set("abc", 300, "value"), del("b", 77), set("c", 5, "")}, sorted[:7]} {
		b := built(t, l)
		for i := range b {
			for range 60 {
				other := resealed(b, i, byte(1+r.Intn(255)))
				if other != nil && checkExact(t, other) {
					taken++
				}
			}
		}
	}
	if taken == 0 {
		t.Error("no table was accepted: the test is too narrow")
	}
}
