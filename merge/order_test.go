package merge_test

import (
	"math"
	"slices"
	"testing"

	"convoy/api"
)

// P7.1: a list is not in order if an entry comes up twice, anywhere: whatever its value, and whether or not it is a deletion.
func TestSameEntryTwice(t *testing.T) {
	for i, e := range sorted {
		for _, twin := range []api.Entry{e, set(e.Key, e.Seq, "other"), del(e.Key, e.Seq), set(e.Key, e.Seq, "")} {
			checkListOrder(t, slices.Insert(slices.Clone(sorted), i, twin))
			checkListOrder(t, slices.Insert(slices.Clone(sorted), i+1, twin))
			checkListOrder(t, []api.Entry{e, twin})
		}
	}
}

// P7.1: a list is not in order if two entries stand the other way round, next to each other or far apart.
func TestEntriesSwapped(t *testing.T) {
	for i := range sorted {
		for j := range i {
			l := slices.Clone(sorted)
			l[i], l[j] = l[j], l[i]
			checkListOrder(t, l)
			checkListOrder(t, []api.Entry{sorted[i], sorted[j]})
		}
	}
}

// P7.1: an entry out of order is found wherever it stands, the first and the last place included.
func TestEntryAtWrongPlace(t *testing.T) {
	for i := range sorted {
		for _, j := range []int{0, i / 2, len(sorted) - 1} {
			if j != i {
				checkListOrder(t, slices.Insert(slices.Delete(slices.Clone(sorted), i, i+1), j, sorted[i]))
			}
		}
	}
}

// P7.1: of one key older entries come behind newer ones, also where the difference of two numbers is none of 64 bits.
func TestSeqsOutOfOrder(t *testing.T) {
	for i, newer := range seqs {
		for _, older := range seqs[:i] {
			checkListOrder(t, []api.Entry{set("k", older, ""), set("k", newer, "")})
			good := []api.Entry{set("k", newer, ""), set("k", older, "")}
			checkMerge(t, [][]api.Entry{good}, good)
			checkMerge(t, [][]api.Entry{good[1:], good[:1]}, good)
		}
	}
}

// P7.1: the error goes ahead of a number of entries that excludes the fault, or all.
func TestOrderIsCheckedBehindN(t *testing.T) {
	bad := append(slices.Clone(sorted), sorted[0])
	checkListOrder(t, bad)
	checkOrder(t, sorted, sorted, bad)
	checkOrder(t, bad, bad)
}

// P7.1: lists that are in order alone need not be so one behind the other.
func TestOrderIsThatOfEachList(t *testing.T) {
	checkMerge(t, [][]api.Entry{sorted[20:], sorted[10:20], sorted[:10]}, sorted)
	checkMerge(t, [][]api.Entry{{set("a", 1, "x")}, {set("a", 1, "y")}, {set("a", 2, "z")}}, []api.Entry{set("a", 2, "z"), set("a", 1, "x")})
}

// P7.1: any numbers, and texts of any length, are a list's as long as they are in order.
func TestEntriesOfNoStore(t *testing.T) {
	long := string(make([]byte, 5000))
	l := []api.Entry{set("", math.MaxInt, long), set("", math.MinInt, ""), {Key: long, Seq: 0, Del: true, Value: long}, set(long+"\x00", -1, "")}
	checkMerge(t, [][]api.Entry{l[2:], l[:2]}, l)
	checkVisible(t, l, 0, api.Pair{Value: ""}, api.Pair{Key: long + "\x00"})
	checkVisible(t, l, math.MaxInt, api.Pair{Value: long}, api.Pair{Key: long + "\x00"})
	checkCompact(t, l, math.MaxInt, false, l[0], l[2], l[3])
	checkCompact(t, l, math.MaxInt, true, l[0], l[3])
	checkCompact(t, l, math.MinInt, true, l...)
}
