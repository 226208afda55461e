package memtable_test

import (
	"math"
	"slices"
	"strings"
	"testing"

	"convoy/api"
	"convoy/memtable"
)

// sorted are entries in their order: keys byte by byte, a prefix before what continues it, and of each key the newest first.
var sorted = []api.Entry{
	set("", 9, "e"), del("", 2), set("\x00", 4, ""), set("a", 1<<62, "last"), del("a", 1<<62-1), set("a", 10, "ten"), set("a", 9, "nine"), set("a", 1, "one"),
	del("a\x00", 8), set("aa", 1<<62, "x"), set("aa", 1, "y"), set("ab", 5, "z"), set("b", 100, ""), del("b", 20), set("b", 3, "w"),
	set("z", 1, ""), set("\x80", 1, "no UTF-8"), set("é", 1, ""), set("\xff", 2, ""), set("\xff", 1, ""), set("\xff\xff", 7, ""),
}

// P4.1: All has the order of entries, in whichever order they came.
func TestOrder(t *testing.T) {
	checkAll(t, filled(t, sorted...), sorted...)
	back := slices.Clone(sorted)
	slices.Reverse(back)
	checkAll(t, filled(t, back...), sorted...)
	for step := 2; step < len(sorted); step++ {
		m := memtable.New()
		var here []api.Entry
		for i := range sorted {
			e := sorted[i*step%len(sorted)]
			if slices.Contains(here, e) {
				continue
			}
			put(t, m, e, i, api.OK)
			i, _ := slices.BinarySearchFunc(here, e, func(x, y api.Entry) int {
				return slices.Index(sorted, x) - slices.Index(sorted, y)
			})
			here = slices.Insert(here, i, e)
			checkAll(t, m, here...)
		}
	}
}

// P4.1: From begins with the first entry whose Key is not less, whether or not the key is there.
func TestFrom(t *testing.T) {
	m := filled(t, sorted...)
	for _, key := range append(slices.Clone(keys), "a\x00\x00", "a\x01", "aaa", "b\x00", "c", "z\x00", "\xc3", "\xff\xff\x00", strings.Repeat("a", 1000), strings.Repeat("\xff", 1000)) {
		i := slices.IndexFunc(sorted, func(e api.Entry) bool { return e.Key >= key })
		if i < 0 {
			i = len(sorted)
		}
		checkSeq(t, "P4.1", m.From(key), sorted[i:]...)
	}
	checkSeq(t, "P4.1", m.From("a"), sorted[3:]...)
	checkSeq(t, "P4.1", m.From("\xff\xff"), sorted[20])
	checkSeq(t, "P4.1", m.From("\xff\xff\x00"))
}

// P4.1: Get finds the newest entry of its key that is not above seq, deletions too, and no entry of another key.
func TestGet(t *testing.T) {
	m := filled(t, sorted...)
	for _, key := range append(slices.Clone(keys), "c", "aaa", strings.Repeat("k", 65)) {
		for _, seq := range append(slices.Clone(seqs), 8, 9, 10, 11, 19, 20, 21, 99, 100, 101) {
			i := slices.IndexFunc(sorted, func(e api.Entry) bool { return e.Key == key && e.Seq <= seq })
			if i < 0 {
				checkNone(t, m, key, seq)
			} else {
				checkGet(t, m, key, seq, sorted[i])
			}
		}
	}
	checkGet(t, m, "b", 99, del("b", 20))
	checkGet(t, m, "b", 19, set("b", 3, "w"))
	checkNone(t, m, "b", 2)
	checkNone(t, m, "b", math.MinInt)
	checkGet(t, m, "b", math.MaxInt, set("b", 100, ""))
}

// P4.1: an iterator may be traversed again, stopped early, and traversed while another traversal is under way.
func TestTraversals(t *testing.T) {
	m := filled(t, sorted...)
	from := m.From("a")
	want := sorted[3:]
	for most := range len(want) + 1 {
		var got []api.Entry
		for e := range from {
			if len(got) == most {
				break
			}
			got = append(got, e)
		}
		if !slices.Equal(got, want[:most]) {
			t.Errorf("P4.1: the first %d of an iterator: %v; want %v", most, got, want[:most])
		}
	}
	i := 0
	for e := range from {
		checkSeq(t, "P4.1", from, want...)
		checkSeq(t, "P4.1", m.From("\xff"), sorted[18:]...)
		if e != want[i] {
			t.Errorf("P4.1: entry %d of an iterator: %v; want %v", i, e, want[i])
		}
		i++
	}
	checkSeq(t, "P4.1", from, want...)
}

// P4.1: once its caller says so, an iterator yields no more: another call of the caller would be one too many.
func TestStop(t *testing.T) {
	m := filled(t, sorted...)
	for most := range len(sorted) {
		calls := 0
		m.From("")(func(api.Entry) bool {
			calls++
			return calls <= most
		})
		if calls != most+1 {
			t.Errorf("P4.1: %d calls; want %d", calls, most+1)
		}
	}
}

// P4.1: Bytes counts keys and values, of deletions too, and nothing that was rejected.
func TestBytes(t *testing.T) {
	m := memtable.New()
	size := 0
	for i, e := range []api.Entry{set("", 1, ""), set("abc", 1, "de"), set("abc", 2, ""), del("abcd", 3), set("", 2, "xyz"), set(strings.Repeat("k", 64), 1, strings.Repeat("v", 1024)), set("é", 1, "é")} {
		put(t, m, e, 3, api.OK)
		put(t, m, e, 3, api.ErrTwice)
		put(t, m, set(e.Key, 0, "x"), 3, api.ErrRange)
		put(t, m, set(e.Key, 9, strings.Repeat("v", 1025)), 3, api.ErrLong)
		size += []int{0, 5, 3, 4, 3, 1088, 4}[i]
		if m.Bytes() != size || m.Len() != i+1 {
			t.Errorf("P4.1: Len, Bytes behind %.40v: %d, %d; want %d, %d", e, m.Len(), m.Bytes(), i+1, size)
		}
	}
}
