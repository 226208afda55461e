package memtable_test

import (
	"iter"
	"runtime"
	"slices"
	"strings"
	"testing"
	"unsafe"
	"weak"

	"convoy/api"
	"convoy/memtable"
)

// P4.3: a list of All is new memory: neither the table nor another list changes with it, nor it with the table.
func TestListsAreNewMemory(t *testing.T) {
	for size := range len(sorted) + 1 {
		m := filled(t, sorted[:size]...)
		first, second := m.All(), m.All()
		unchanged(t, "P4.3", m, func() { clear(first[:cap(first)]) })
		put(t, m, set("a\x00\x00", 1, ""), 2, api.OK) // into the spare capacity, if it were shared
		put(t, m, set("\xff\xff\xff", 1, ""), 2, api.OK)
		if !slices.Equal(second, sorted[:size]) {
			t.Errorf("P4.3: a list of %d entries has changed to %v", size, second)
		}
		if len(m.All()) != size+2 {
			t.Errorf("P4.3: %d entries; want %d", len(m.All()), size+2)
		}
	}
}

// view is an iterator with what it must yield.
type view struct {
	entries iter.Seq[api.Entry]
	want    []api.Entry
}

// P4.3: an iterator has the entries of its time: none that came later, before it, in it or behind it, whatever their towers.
func TestPutLeavesIterators(t *testing.T) {
	for _, back := range []bool{false, true} {
		order := slices.Clone(sorted)
		if back {
			slices.Reverse(order)
		}
		m := memtable.New()
		var views []view
		for i, e := range order {
			for _, key := range []string{"", "a", "aaa", "b", "\xff", "\xff\xff\xff"} {
				var want []api.Entry
				for _, x := range m.All() {
					if x.Key >= key {
						want = append(want, x)
					}
				}
				views = append(views, view{m.From(key), want})
			}
			put(t, m, e, i*5%14, api.OK)
			for _, v := range views {
				checkSeq(t, "P4.3", v.entries, v.want...)
			}
		}
	}
}

// P4.3: entries that are put while an iterator is traversed do not come up in it.
func TestPutWhileTraversing(t *testing.T) {
	m := filled(t, sorted...)
	from := m.From("a")
	var got []api.Entry
	for e := range from {
		got = append(got, e)
		put(t, m, set(e.Key+"\x00new", e.Seq, "new"), len(got), api.OK) // behind this one
		put(t, m, set(e.Key, 1000+len(got), "new"), 12, api.OK)         // ahead of it, or of one that was ahead
		put(t, m, set("\xff\xff\xff", len(got), "new"), 1, api.OK)
		put(t, m, set("", 1000+len(got), "new"), 1, api.OK)
	}
	if !slices.Equal(got, sorted[3:]) {
		t.Errorf("P4.3: an iterator yielded %v; want %v", got, sorted[3:])
	}
	checkSeq(t, "P4.3", from, sorted[3:]...)
	if m.Len() != len(sorted)+4*len(got) {
		t.Errorf("P4.3: Len: %d; want %d", m.Len(), len(sorted)+4*len(got))
	}
}

// P4.3: an iterator that was stopped goes on, traversed again, with the entries of its time.
func TestPutBehindAStop(t *testing.T) {
	m := filled(t, sorted...)
	from := m.From("")
	for range from {
		break
	}
	put(t, m, set("", 100, "new"), 3, api.OK)
	put(t, m, del("a", 5), 3, api.OK)
	checkSeq(t, "P4.3", from, sorted...)
}

// P4.1 (R6): what a table holds and returns are copies of the texts that Put was given.
func TestTextsAreCopies(t *testing.T) {
	key, value := string([]byte("a key")), string([]byte("a value"))
	m := filled(t, set(key, 1, value))
	e, _ := m.Get(key, 1)
	for _, e := range append(append(m.All(), slices.Collect(m.From(key))...), e) {
		if e != set(key, 1, value) || unsafe.StringData(e.Key) == unsafe.StringData(key) || unsafe.StringData(e.Value) == unsafe.StringData(value) {
			t.Errorf("P4.1: Put keeps the texts that it was given: %v", e)
		}
	}
}

// forgotten runs calls with a long text, and asks that nothing of it is kept behind them.
func forgotten(t *testing.T, what string, m *memtable.Table, calls func(long string) any) {
	t.Helper()
	long := strings.Repeat("k", 1<<16)
	text := weak.Make(unsafe.StringData(long))
	result := calls(long)
	long = ""
	runtime.GC()
	if text.Value() != nil {
		t.Errorf("P4.1: %s keeps the text that it was given", what)
	}
	runtime.KeepAlive(result)
	runtime.KeepAlive(m)
}

// P4.1 (R6): no call keeps the texts that it was given, nor the longer ones that they were cut out of.
func TestTextsAreNotKept(t *testing.T) {
	m := filled(t, sorted...)
	forgotten(t, "Put", m, func(long string) any { return m.Put(set(long[1:20], 1, ""), 12) })
	forgotten(t, "Put", m, func(long string) any { return m.Put(set("a", 77, long[1:20]), 12) })
	forgotten(t, "Put", m, func(long string) any { return m.Put(set(long[:65], 1, ""), 12) })
	forgotten(t, "Get", m, func(long string) any { e, _ := m.Get(long[1:20], 1); return e })
	forgotten(t, "From", m, func(long string) any { return m.From(long[1:20]) })
}
