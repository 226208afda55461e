package sstable_test

import (
	"bytes"
	"slices"
	"testing"

	"convoy/api"
)

// P6.1: the chapter's example.
func TestExample(t *testing.T) {
	r := read(t, []api.Entry{set("a", 1, "x")})
	if r.Len() != 1 || r.First() != "a" || r.Last() != "a" {
		t.Errorf("P6.1: Len, First, Last: %d, %q, %q", r.Len(), r.First(), r.Last())
	}
	checkGet(t, r, "a", 5, set("a", 1, "x"))
	checkGet(t, r, "a", 0, api.Entry{})
	checkGet(t, r, "b", 5, api.Entry{})
}

// P6.2: tables are read back as they were built.
func TestReadBack(t *testing.T) {
	for _, l := range samples() {
		b := built(t, l)
		r := parsed(t, b)
		checkRead(t, "P6.2", r, l)
		if !bytes.Equal(built(t, r.All()), b) {
			t.Errorf("P6.2: the entries of %.200v have other bytes", l)
		}
	}
}

// P6.1: a key whose entries are in many blocks, from the middle of one on: each of its entries is found, and what is between them.
func TestManyVersions(t *testing.T) {
	for ahead := range 7 {
		l := slices.Concat(numbered(ahead), versions("v", 20), []api.Entry{set("w", 3, ""), del("x", 4)})
		r := read(t, l)
		checkRead(t, "P6.1", r, l)
		for seq := range 50 {
			for _, key := range []string{"u", "v", "v\x00", "w", "x", "y"} {
				checkGet(t, r, key, seq, wantGet(l, key, seq))
			}
		}
		checkSeq(t, "P6.1", r.From("v"), l[ahead:])
		checkSeq(t, "P6.1", r.From("v\x00"), l[ahead+20:])
	}
}

// P6.1: From begins with the first entry whose Key is not less, wherever in its block that stands.
func TestFrom(t *testing.T) {
	for n := 1; n <= 84; n++ {
		l := numbered(n)
		r := read(t, l)
		for i, e := range l {
			checkSeq(t, "P6.1", r.From(e.Key), l[i:])
			checkSeq(t, "P6.1", r.From(e.Key+"\x00"), l[i+1:])
			checkSeq(t, "P6.1", r.From(e.Key[:5]), wantFrom(l, e.Key[:5]))
		}
		checkSeq(t, "P6.1", r.From(""), l)
		checkSeq(t, "P6.1", r.From("l"), nil)
	}
}

// P6.1 (R9): an iterator may be traversed again, stopped early, and traversed while another traversal is under way.
func TestTraversals(t *testing.T) {
	r := read(t, sorted)
	from := r.From("a")
	want := sorted[3:]
	for most := range len(want) + 1 {
		var got []api.Entry
		for e := range from {
			if len(got) == most {
				break
			}
			got = append(got, e)
		}
		if !slices.Equal(got, want[:most]) {
			t.Errorf("P6.1: the first %d of an iterator: %v; want %v", most, got, want[:most])
		}
	}
	i := 0
	for e := range from {
		checkSeq(t, "P6.1", from, want)
		checkSeq(t, "P6.1", r.From("\xff"), sorted[18:])
		checkGet(t, r, "b", 99, sorted[13])
		if e != want[i] {
			t.Errorf("P6.1: entry %d of an iterator: %v; want %v", i, e, want[i])
		}
		i++
	}
	checkSeq(t, "P6.1", from, want)
}

// P6.1: once its caller says so, an iterator yields no more: another call of the caller would be one too many.
func TestStop(t *testing.T) {
	r := read(t, sorted)
	for start := range sorted {
		for most := range len(wantFrom(sorted, sorted[start].Key)) {
			calls := 0
			r.From(sorted[start].Key)(func(api.Entry) bool {
				calls++
				return calls <= most
			})
			if calls != most+1 {
				t.Errorf("P6.1: %d calls; want %d", calls, most+1)
			}
		}
	}
}

// P6.1: two readers have nothing in common, be they of one table or of two.
func TestReadersAreApart(t *testing.T) {
	b := built(t, sorted)
	r, same, other := parsed(t, b), parsed(t, b), read(t, numbered(9))
	r.Get("b", 99)
	if r.Blocks() == 0 || same.Blocks() != 0 || other.Blocks() != 0 {
		t.Errorf("P6.1: blocks: %d, %d, %d", r.Blocks(), same.Blocks(), other.Blocks())
	}
	checkRead(t, "P6.1", r, sorted)
	checkRead(t, "P6.1", same, sorted)
	checkRead(t, "P6.1", other, numbered(9))
}
