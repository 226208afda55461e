package merge_test

import (
	"math"
	"slices"
	"testing"

	"convoy/api"
	"convoy/merge"
)

// set returns the entry of a value.
func set(key string, seq int, value string) api.Entry {
	return api.Entry{Key: key, Seq: seq, Value: value}
}

// del returns the entry of a deletion.
func del(key string, seq int) api.Entry { return api.Entry{Key: key, Seq: seq, Del: true} }

// sorted are entries in order: keys byte by byte, a prefix before what continues it, and of each key the newest first. Some are entries of no store.
var sorted = []api.Entry{
	set("", math.MaxInt, "first"), set("", 9, "e"), del("", 2), set("", 0, "zero"), del("", -1), set("", math.MinInt, "least"),
	set("\x00", 4, ""), set("a", 1<<62, "last"), del("a", 1<<62-1), set("a", 10, "ten"), set("a", 9, "nine"), set("a", 1, "one"),
	del("a\x00", 8), set("aa", 1<<62, "x"), set("aa", 1, "y"), set("ab", 5, "z"), set("b", 100, ""), del("b", 20), set("b", 3, "w"),
	{Key: "c", Seq: 7, Del: true, Value: "deleted, with a value"}, set("c", 6, "c"), del("d", 5), del("d", 4), del("d", 3),
	set("z", 1, ""), set("\x7f", 5, ""), set("\x80", 1, "no UTF-8"), set("é", 1, ""), set("\xff", 2, ""), set("\xff", 1, ""), set("\xff\xff", 7, ""),
}

// seqs that lists are read at: those of sorted, and their neighbours.
var seqs = []int{math.MinInt, math.MinInt + 1, -2, -1, 0, 1, 2, 3, 4, 5, 6, 7, 8, 9, 10, 11, 19, 20, 21, 99, 100, 101, 1<<62 - 2, 1<<62 - 1, 1 << 62, 1<<62 + 1, math.MaxInt - 1, math.MaxInt}

// checkMerge asks what Merge returns, and what First returns of it.
func checkMerge(t *testing.T, lists [][]api.Entry, want []api.Entry) {
	t.Helper()
	if got, code := merge.Merge(lists); code != api.OK || !slices.Equal(got, want) {
		t.Errorf("P7.1: Merge(%.200v): %.300v, %d; want %.300v", lists, got, code, want)
	}
	checkFirst(t, lists, len(want)-1, want)
	checkFirst(t, lists, len(want)/2, want)
}

// checkFirst asks what First returns, of what Merge must.
func checkFirst(t *testing.T, lists [][]api.Entry, n int, merged []api.Entry) {
	t.Helper()
	want := merged[:max(0, min(n, len(merged)))]
	if got, code := merge.First(lists, n); code != api.OK || !slices.Equal(got, want) {
		t.Errorf("P7.1: First(%.200v, %d): %.200v, %d; want %.200v", lists, n, got, code, want)
	}
}

// checkVisible asks what Visible returns.
func checkVisible(t *testing.T, list []api.Entry, seq int, want ...api.Pair) {
	t.Helper()
	if got, code := merge.Visible(list, seq); code != api.OK || !slices.Equal(got, want) {
		t.Errorf("P7.1: Visible(%.200v, %d): %.200v, %d; want %.200v", list, seq, got, code, want)
	}
}

// checkCompact asks what Compact returns.
func checkCompact(t *testing.T, list []api.Entry, floor int, bottom bool, want ...api.Entry) {
	t.Helper()
	if got, code := merge.Compact(list, floor, bottom); code != api.OK || !slices.Equal(got, want) {
		t.Errorf("P7.1: Compact(%.200v, %d, %v): %.200v, %d; want %.200v", list, floor, bottom, got, code, want)
	}
}

// checkOrder asks that no call accepts lists, one of which is not in order.
func checkOrder(t *testing.T, lists ...[]api.Entry) {
	t.Helper()
	if got, code := merge.Merge(lists); got != nil || code != api.ErrOrder {
		t.Errorf("P7.1: Merge(%.200v): %.200v, %d", lists, got, code)
	}
	for _, n := range []int{math.MinInt, -1, 0, 1, 2, 3, 10, 1000, math.MaxInt} {
		if got, code := merge.First(lists, n); got != nil || code != api.ErrOrder {
			t.Errorf("P7.1: First(%.200v, %d): %.200v, %d", lists, n, got, code)
		}
	}
}

// checkListOrder asks that no call accepts a list, alone or among others.
func checkListOrder(t *testing.T, list []api.Entry) {
	t.Helper()
	checkOrder(t, list)
	checkOrder(t, list, sorted)
	checkOrder(t, sorted, list, nil)
	checkOrder(t, sorted, nil, sorted, list)
	for _, seq := range seqs {
		if got, code := merge.Visible(list, seq); got != nil || code != api.ErrOrder {
			t.Errorf("P7.1: Visible(%.200v, %d): %.200v, %d", list, seq, got, code)
		}
		for _, bottom := range []bool{false, true} {
			if got, code := merge.Compact(list, seq, bottom); got != nil || code != api.ErrOrder {
				t.Errorf("P7.1: Compact(%.200v, %d, %v): %.200v, %d", list, seq, bottom, got, code)
			}
		}
	}
}
