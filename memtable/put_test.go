package memtable_test

import (
	"math"
	"strings"
	"testing"

	"convoy/api"
	"convoy/memtable"
)

// P4.1: the chapter's example.
func TestExample(t *testing.T) {
	a1, b2, a3, b4 := set("a", 1, "x"), set("b", 2, "y"), set("a", 3, "z"), del("b", 4)
	m := filled(t, a1, b2, a3, b4)
	checkGet(t, m, "a", 2, a1)
	checkGet(t, m, "a", 9, a3)
	checkGet(t, m, "b", 4, b4)
	checkNone(t, m, "b", 1)
	checkAll(t, m, a3, a1, b4, b2)
	if m.Len() != 4 || m.Bytes() != 7 {
		t.Errorf("P4.1: Len, Bytes: %d, %d; want 4, 7", m.Len(), m.Bytes())
	}
	put(t, m, set("a", 3, "q"), 1, api.ErrTwice)
	checkAll(t, m, a3, a1, b4, b2)
}

// P4.1: a new table has no entries.
func TestNew(t *testing.T) {
	m := memtable.New()
	checkAll(t, m)
	for _, key := range keys {
		checkSeq(t, "P4.1", m.From(key))
		for _, seq := range seqs {
			checkNone(t, m, key, seq)
		}
	}
}

// P4.1: two tables have nothing in common.
func TestTablesAreApart(t *testing.T) {
	m, other := memtable.New(), memtable.New()
	put(t, m, set("a", 1, "x"), 12, api.OK)
	checkAll(t, other)
	put(t, other, set("a", 1, "y"), 12, api.OK)
	put(t, other, set("b", 1, "y"), 1, api.OK)
	checkAll(t, m, set("a", 1, "x"))
	checkAll(t, other, set("a", 1, "y"), set("b", 1, "y"))
}

// P4.1: texts and numbers at the ends of their ranges are taken.
func TestLimits(t *testing.T) {
	long, value := strings.Repeat("k", 64), strings.Repeat("v", 1024)
	for _, e := range []api.Entry{
		set("", 1, ""), set("", 1<<62, ""), set("a", 1, ""), set("a", 1<<62, "x"), set("a", 1<<62-1, "x"),
		set(long, 1, value), set(long, 1<<62, value), set("", 2, value), del("", 1), del(long, 1<<62), set("\xff\x00", 7, "\x00\xff"),
	} {
		m := memtable.New()
		put(t, m, e, 1, api.OK)
		checkAll(t, m, e)
		checkGet(t, m, e.Key, e.Seq, e)
		checkGet(t, m, e.Key, math.MaxInt, e)
		checkNone(t, m, e.Key, e.Seq-1)
		checkSeq(t, "P4.1", m.From(e.Key), e)
		checkSeq(t, "P4.1", m.From(e.Key+"\x00"))
	}
}

// P4.1: an entry that is none is rejected with the first error that it has, and nothing has changed.
func TestRejected(t *testing.T) {
	key, value := strings.Repeat("k", 65), strings.Repeat("v", 1025)
	for _, c := range []struct {
		e    api.Entry
		want api.Errno
	}{
		{set(key, 9, ""), api.ErrLong},
		{set("a", 9, value), api.ErrLong},
		{set(key, 9, value), api.ErrLong},
		{set(strings.Repeat("k", 1<<20), 9, ""), api.ErrLong},
		{set("a", 9, strings.Repeat("v", 1<<20)), api.ErrLong},
		{del(key, 9), api.ErrLong},
		{set(key, 0, ""), api.ErrLong},
		{set("a", 1<<62+1, value), api.ErrLong},
		{api.Entry{Key: "a", Seq: 9, Del: true, Value: value}, api.ErrLong},
		{set("a", 0, ""), api.ErrRange},
		{set("a", -1, "x"), api.ErrRange},
		{set("a", math.MinInt, "x"), api.ErrRange},
		{set("a", 1<<62+1, "x"), api.ErrRange},
		{set("a", math.MaxInt, "x"), api.ErrRange},
		{del("a", 0), api.ErrRange},
		{del("a", 1<<62+1), api.ErrRange},
		{api.Entry{}, api.ErrRange},
		{api.Entry{Key: "a", Seq: 9, Del: true, Value: "x"}, api.ErrRange},
		{api.Entry{Key: "a", Seq: 9, Del: true, Value: "\x00"}, api.ErrRange},
		{api.Entry{Key: "a", Seq: 1, Del: true, Value: "x"}, api.ErrRange}, // not ErrTwice
		{set("a", 1, "x"), api.ErrTwice},
		{set("a", 1, "y"), api.ErrTwice},
		{set("a", 1, ""), api.ErrTwice},
		{del("a", 1), api.ErrTwice},
		{set("a", 1<<62, ""), api.ErrTwice},
		{set("b", 1, ""), api.ErrTwice},
		{set("b", 2, "x"), api.ErrTwice},
		{del("b", 2), api.ErrTwice},
		{set("", 3, "x"), api.ErrTwice},
	} {
		m := filled(t, set("a", 1, "x"), del("b", 2), set("b", 1, "z"), set("", 3, ""), set("a", 1<<62, "last"))
		for _, height := range []int{math.MinInt, 0, 1, 6, 12, math.MaxInt} {
			unchanged(t, "P4.1", m, func() { put(t, m, c.e, height, c.want) })
		}
		put(t, m, set("a", 9, "x"), 1, api.OK)
		checkAll(t, m, set("", 3, ""), set("a", 1<<62, "last"), set("a", 9, "x"), set("a", 1, "x"), del("b", 2), set("b", 1, "z"))
	}
}

// P4.1: what was rejected may be put later, at another number or under another key.
func TestTwiceIsOfKeyAndSeq(t *testing.T) {
	m := memtable.New()
	for _, key := range keys {
		for _, seq := range []int{5, 1, 1 << 62, 3} {
			put(t, m, set(key, seq, "x"), seq%13, api.OK)
		}
		put(t, m, set(key, 3, "y"), 12, api.ErrTwice)
		put(t, m, del(key, 1), 12, api.ErrTwice)
		put(t, m, del(key, 2), 12, api.OK)
		put(t, m, del(key, 2), 1, api.ErrTwice)
	}
	if m.Len() != 5*len(keys) {
		t.Errorf("P4.1: Len: %d; want %d", m.Len(), 5*len(keys))
	}
}
