package memtable_test

import (
	"fmt"
	"iter"
	"math"
	"slices"
	"strings"
	"testing"

	"convoy/api"
	"convoy/memtable"
)

// set returns the entry of a value.
func set(key string, seq int, value string) api.Entry {
	return api.Entry{Key: key, Seq: seq, Value: value}
}

// del returns the entry of a deletion.
func del(key string, seq int) api.Entry { return api.Entry{Key: key, Seq: seq, Del: true} }

// put asks what Put returns.
func put(t *testing.T, m *memtable.Table, e api.Entry, height int, want api.Errno) {
	t.Helper()
	if code := m.Put(e, height); code != want {
		t.Errorf("P4.1: Put(%.40v, %d): %d; want %d", e, height, code, want)
	}
}

// filled returns a table with these entries, whose towers have many heights.
func filled(t *testing.T, entries ...api.Entry) *memtable.Table {
	t.Helper()
	m := memtable.New()
	for i, e := range entries {
		put(t, m, e, i*7%15-1, api.OK)
	}
	return m
}

// checkAll asks for all entries, their number and their bytes.
func checkAll(t *testing.T, m *memtable.Table, want ...api.Entry) {
	t.Helper()
	if got := m.All(); !slices.Equal(got, want) {
		t.Errorf("P4.1: All: %.200v; want %.200v", got, want)
	}
	size := 0
	for _, e := range want {
		size += len(e.Key + e.Value)
	}
	if m.Len() != len(want) || m.Bytes() != size {
		t.Errorf("P4.1: Len, Bytes: %d, %d; want %d, %d", m.Len(), m.Bytes(), len(want), size)
	}
}

// checkGet asks for the newest entry of a key that is not above seq.
func checkGet(t *testing.T, m *memtable.Table, key string, seq int, want api.Entry) {
	t.Helper()
	if got, ok := m.Get(key, seq); !ok || got != want {
		t.Errorf("P4.1: Get(%.20q, %d): %.40v, %v; want %.40v", key, seq, got, ok, want)
	}
}

// checkNone asks that there is no entry of a key that is not above seq.
func checkNone(t *testing.T, m *memtable.Table, key string, seq int) {
	t.Helper()
	if got, ok := m.Get(key, seq); ok || got != (api.Entry{}) {
		t.Errorf("P4.1: Get(%.20q, %d): %.40v, %v; want none", key, seq, got, ok)
	}
}

// checkSeq asks what an iterator yields.
func checkSeq(t *testing.T, promise string, entries iter.Seq[api.Entry], want ...api.Entry) {
	t.Helper()
	if got := slices.Collect(entries); !slices.Equal(got, want) {
		t.Errorf("%s: an iterator: %.200v; want %.200v", promise, got, want)
	}
}

// keys that meet in tests: prefixes of each other, all bytes' ends, texts that are no UTF-8 or sort otherwise as runes.
var keys = []string{"", "\x00", "\x00\x00", "a", "a\x00", "a\x00b", "aa", "ab", "a\xff", "b", "ba", "\x7f", "\x80", "é", "\xff", "\xff\x00", "\xff\xff", strings.Repeat("k", 63), strings.Repeat("k", 64)}

// seqs that are asked for, inside their range and outside.
var seqs = []int{math.MinInt, -1, 0, 1, 2, 3, 4, 5, 6, 7, 1 << 31, 1<<62 - 1, 1 << 62, 1<<62 + 1, math.MaxInt}

// picture tells everything that a table answers without being changed.
func picture(m *memtable.Table) string {
	var s strings.Builder
	fmt.Fprintln(&s, m.Len(), m.Bytes(), m.All())
	for _, key := range append(slices.Clone(keys), strings.Repeat("k", 65), strings.Repeat("z", 1000)) {
		fmt.Fprintln(&s, slices.Collect(m.From(key)))
		for _, seq := range seqs {
			e, ok := m.Get(key, seq)
			fmt.Fprintln(&s, e, ok)
		}
	}
	return s.String()
}

// unchanged runs calls, and asks that the table answers as before.
func unchanged(t *testing.T, promise string, m *memtable.Table, calls func()) {
	t.Helper()
	before := picture(m)
	calls()
	if picture(m) != before {
		t.Errorf("%s: a table has changed: %.200s; before %.200s", promise, picture(m), before)
	}
}
