package sstable_test

import (
	"fmt"
	"slices"
	"testing"

	"convoy/api"
	"convoy/bloom"
	"convoy/sstable"
)

// fitting returns how many blocks of sorted entries have the key between their first and their last one, or as one of these.
func fitting(entries []api.Entry, key string) int {
	n := 0
	for block := range slices.Chunk(entries, 3) {
		if block[0].Key <= key && key <= block[len(block)-1].Key {
			n++
		}
	}
	return n
}

// examined returns how many blocks one Get examines, and whether it finds an entry.
func examined(r *sstable.Reader, key string, seq int) (int, bool) {
	before := r.Blocks()
	_, ok := r.Get(key, seq)
	return r.Blocks() - before, ok
}

// P6.3: a Get examines no block when the filter excludes its key; otherwise at most those that the key fits, and one at least where it finds an entry.
func TestWhatAGetReads(t *testing.T) {
	for _, l := range samples() {
		r := read(t, l)
		filter := []byte(laidOut(l, 3).filter)
		keys := slices.Clone(texts)
		for _, e := range l {
			keys = append(keys, e.Key, e.Key+"\x00", e.Key+"x")
		}
		for _, key := range keys {
			most := fitting(l, key)
			if !bloom.May(filter, key) {
				most = 0
			}
			for _, seq := range seqs {
				n, ok := examined(r, key, seq)
				if n < 0 || n > most || ok && n == 0 {
					t.Errorf("P6.3: Get(%.20q, %d): %d blocks of at most %d, found: %v", key, seq, n, most, ok)
				}
			}
		}
	}
}

// P6.3: keys that are not there, but may be according to the filter, are looked for in the one block that they fit, if there is one.
func TestFalsePositives(t *testing.T) {
	l := numbered(84)
	r := read(t, l)
	filter := []byte(laidOut(l, 3).filter)
	var counts [2]int
	for i := range 40000 {
		key := fmt.Sprintf("key%03d%d", i%170, i)
		if i%2 == 0 {
			key = fmt.Sprint("other", i)
		}
		n, ok := examined(r, key, 1000)
		want := 0
		if bloom.May(filter, key) {
			want = fitting(l, key)
			counts[want]++
		}
		if n != want || ok {
			t.Errorf("P6.3: Get(%q): %d blocks, found: %v; want %d", key, n, ok, want)
		}
	}
	if counts[0] < 20 || counts[1] < 20 {
		t.Errorf("P6.3: %d keys in no block and %d in one: the test is too narrow", counts[0], counts[1])
	}
}

// P6.1: Blocks adds up what all Gets have examined: of a key that is in one block alone, one each time, whether or not there is such an entry.
func TestBlocksAddUp(t *testing.T) {
	l := numbered(84)
	r := read(t, l)
	if r.Blocks() != 0 {
		t.Errorf("P6.1: Blocks of a new reader: %d", r.Blocks())
	}
	for i, e := range slices.Repeat(l, 3) {
		r.Get(e.Key, []int{e.Seq, e.Seq - 1, 1000}[i%3])
		if r.Blocks() != i+1 {
			t.Errorf("P6.1: Blocks behind %d Gets: %d", i+1, r.Blocks())
		}
	}
}

// P6.1: only a Get examines blocks.
func TestOnlyGetsCount(t *testing.T) {
	r := read(t, sorted)
	for range 3 {
		r.All()
		r.Len()
		r.First()
		r.Last()
		for _, key := range texts {
			for range r.From(key) {
			}
		}
	}
	if r.Blocks() != 0 {
		t.Errorf("P6.1: Blocks without a Get: %d", r.Blocks())
	}
}
