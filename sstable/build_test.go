package sstable_test

import (
	"bytes"
	"encoding/hex"
	"math"
	"slices"
	"strings"
	"testing"

	"convoy/api"
	"convoy/sstable"
)

// P6.1: the bytes of the chapter's example, each of them.
func TestKnownBytes(t *testing.T) {
	b := built(t, []api.Entry{set("a", 1, "x")})
	// The hash of a is e40c292c, its rotation 14967206: so its places among 64 bits are 44, 50, 56, 62, 4 and 10.
	want := "06" + "d183b521" + "016101000178" +
		"09" + "177c9299" + "100400000010044106" +
		"07" + "68466e32" + "0101610161000b" +
		"0b000000" + "19000000" + "63767431"
	if hex.EncodeToString(b) != want {
		t.Errorf("P6.1: Build: %x; want %s", b, want)
	}
}

// P6.1: tables have the bytes that the chapter tells.
func TestBytes(t *testing.T) {
	for _, l := range samples() {
		if b, want := built(t, l), laidOut(l, 3).bytes(); !bytes.Equal(b, want) {
			t.Errorf("P6.1: Build(%.200v): %d bytes, %.60x; want %d, %.60x", l, len(b), b, len(want), want)
		}
	}
}

// P6.2: two tables with the same entries have the same bytes, and tables with others have others.
func TestSameBytes(t *testing.T) {
	var all [][]byte
	for _, l := range samples() {
		b := built(t, l)
		if !bytes.Equal(built(t, slices.Clone(l)), b) {
			t.Errorf("P6.2: Build(%.200v) has other bytes a second time", l)
		}
		all = append(all, b)
	}
	for i, b := range all {
		for _, other := range all[:i] {
			if bytes.Equal(b, other) {
				t.Errorf("P6.2: two tables have the same %d bytes", len(b))
			}
		}
	}
}

// checkBuild asks what Build returns.
func checkBuild(t *testing.T, entries []api.Entry, want api.Errno) {
	t.Helper()
	if b, code := sstable.Build(entries); code != want || (len(b) == 0) != (want != api.OK) {
		t.Errorf("P6.1: Build(%.100v): %d bytes, %d; want %d", entries, len(b), code, want)
	}
}

// P6.1: a table has 1 to 84 entries; their number counts ahead of what they are.
func TestCount(t *testing.T) {
	checkBuild(t, nil, api.ErrNone)
	checkBuild(t, []api.Entry{}, api.ErrNone)
	checkBuild(t, sorted[:0], api.ErrNone)
	for _, l := range [][]api.Entry{numbered(84), versions("a", 84), longest(84)} {
		checkBuild(t, l, api.OK)
	}
	for _, n := range []int{85, 86, 87, 100, 1000} {
		checkBuild(t, numbered(n), api.ErrFull)
		checkBuild(t, make([]api.Entry, n), api.ErrFull)
		checkBuild(t, slices.Repeat(longest(1), n), api.ErrFull)
		checkBuild(t, slices.Repeat([]api.Entry{set("a", 1, strings.Repeat("v", 1025))}, n), api.ErrFull)
	}
}

// wrong are entries that no table has, with the first error that each has.
var wrong = []struct {
	e    api.Entry
	want api.Errno
}{
	{set(strings.Repeat("k", 65), 9, ""), api.ErrLong},
	{set("k", 9, strings.Repeat("v", 1025)), api.ErrLong},
	{set(strings.Repeat("k", 65), 9, strings.Repeat("v", 1025)), api.ErrLong},
	{set(strings.Repeat("k", 1<<20), 9, ""), api.ErrLong},
	{set("k", 9, strings.Repeat("v", 1<<20)), api.ErrLong},
	{del(strings.Repeat("k", 65), 9), api.ErrLong},
	{set(strings.Repeat("k", 65), 0, ""), api.ErrLong},
	{set("k", 1<<62+1, strings.Repeat("v", 1025)), api.ErrLong},
	{api.Entry{Key: "k", Seq: 9, Del: true, Value: strings.Repeat("v", 1025)}, api.ErrLong},
	{set("k", 0, ""), api.ErrRange},
	{set("k", -1, "x"), api.ErrRange},
	{set("k", math.MinInt, "x"), api.ErrRange},
	{set("k", 1<<62+1, "x"), api.ErrRange},
	{set("k", math.MaxInt, "x"), api.ErrRange},
	{del("k", 0), api.ErrRange},
	{del("k", 1<<62+1), api.ErrRange},
	{api.Entry{}, api.ErrRange},
	{api.Entry{Key: "k", Seq: 9, Del: true, Value: "x"}, api.ErrRange},
	{api.Entry{Key: "k", Seq: 9, Del: true, Value: "\x00"}, api.ErrRange},
}

// P6.1: an entry that no table has is told with its first error, wherever it stands; its place in the order counts behind that.
func TestWrongEntries(t *testing.T) {
	for _, c := range wrong {
		checkBuild(t, []api.Entry{c.e}, c.want)
		for _, before := range [][]api.Entry{{set("a", 1, "x")}, {set("z", 1, "x")}, {set(c.e.Key[:min(len(c.e.Key), 64)], 5, "")}, sorted[:9], sorted, numbered(83)} {
			checkBuild(t, append(slices.Clone(before), c.e), c.want)
			checkBuild(t, append(slices.Clone(before[:1]), c.e, set("a", 0, ""), set("b", 1, strings.Repeat("v", 1025))), c.want)
		}
	}
}

// P6.1: the first entry that is wrong is told, be it by itself or by its place.
func TestFirstWrongEntry(t *testing.T) {
	long, none := set("b", 1, strings.Repeat("v", 1025)), set("b", 0, "")
	a, b, c := set("a", 1, ""), set("b", 1, ""), set("c", 1, "")
	checkBuild(t, []api.Entry{long, none}, api.ErrLong)
	checkBuild(t, []api.Entry{none, long}, api.ErrRange)
	checkBuild(t, []api.Entry{b, a, long}, api.ErrOrder)
	checkBuild(t, []api.Entry{b, a, none}, api.ErrOrder)
	checkBuild(t, []api.Entry{a, none, a}, api.ErrRange)
	checkBuild(t, []api.Entry{a, long, a}, api.ErrLong)
	checkBuild(t, []api.Entry{c, long}, api.ErrLong)
	checkBuild(t, []api.Entry{c, none}, api.ErrRange)
}

// P6.1: each entry is after the previous one: of a greater Key, or of the same and a lesser Seq.
func TestOrder(t *testing.T) {
	for i, e := range sorted {
		for j, other := range sorted {
			want := api.ErrOrder
			if i < j {
				want = api.OK
			}
			checkBuild(t, []api.Entry{e, other}, want)
		}
		twice := slices.Insert(slices.Clone(sorted), i, e)
		checkBuild(t, twice, api.ErrOrder)
		twice[i].Del, twice[i].Value = !e.Del, ""
		checkBuild(t, twice, api.ErrOrder)
		twice[i] = set(e.Key, e.Seq, "other")
		checkBuild(t, twice, api.ErrOrder)
		if i > 0 {
			swapped := slices.Clone(sorted)
			swapped[i-1], swapped[i] = e, sorted[i-1]
			checkBuild(t, swapped, api.ErrOrder)
		}
	}
	checkBuild(t, []api.Entry{set("a", 1, ""), set("a", 2, "")}, api.ErrOrder)
	checkBuild(t, []api.Entry{set("a", 2, ""), set("a", 1, "")}, api.OK)
	checkBuild(t, []api.Entry{set("é", 1, ""), set("\x80", 1, "")}, api.ErrOrder)
}

// P6.1: texts and numbers at the ends of their ranges are in tables.
func TestLimits(t *testing.T) {
	key, value := strings.Repeat("k", 64), strings.Repeat("v", 1024)
	for _, e := range []api.Entry{
		set("", 1, ""), set("", 1<<62, ""), set("a", 1<<62-1, "x"), set(key, 1, value), set(key, 1<<62, value), set("", 2, value),
		del("", 1), del(key, 1<<62), set("\xff\x00", 7, "\x00\xff"),
	} {
		checkRead(t, "P6.2", read(t, []api.Entry{e}), []api.Entry{e})
	}
}
