package merge_test

import (
	"fmt"
	"math"
	"slices"
	"testing"

	"convoy/api"
)

// P7.1: the chapter's example.
func TestExample(t *testing.T) {
	lists := [][]api.Entry{{set("a", 3, "new"), set("c", 1, "c")}, {set("a", 2, "old"), set("b", 5, "b")}}
	all := []api.Entry{set("a", 3, "new"), set("a", 2, "old"), set("b", 5, "b"), set("c", 1, "c")}
	checkMerge(t, lists, all)
	checkFirst(t, lists, 2, all)
	checkVisible(t, all, 2, api.Pair{Key: "a", Value: "old"}, api.Pair{Key: "c", Value: "c"})
	checkCompact(t, all, 9, false, all[0], all[2], all[3])
	checkCompact(t, all, 9, true, all[0], all[2], all[3])
	checkCompact(t, all, 2, false, all...)
	checkCompact(t, all, 2, true, all...)
	all[0] = del("a", 3)
	checkCompact(t, all, 9, true, all[2], all[3])
	checkCompact(t, all, 9, false, all[0], all[2], all[3])
}

// P7.1: of no entries nothing is left.
func TestNothing(t *testing.T) {
	for _, lists := range [][][]api.Entry{nil, {}, {nil}, {{}}, {nil, {}, sorted[:0], nil}} {
		checkMerge(t, lists, nil)
		for _, n := range []int{math.MinInt, -1, 0, 1, math.MaxInt} {
			checkFirst(t, lists, n, nil)
		}
	}
	for _, seq := range seqs {
		checkVisible(t, nil, seq)
		checkVisible(t, sorted[:0], seq)
		checkCompact(t, nil, seq, false)
		checkCompact(t, sorted[:0], seq, true)
	}
}

// P7.1: entries are merged in order, however they are dealt out to lists, and wherever empty lists stand between those.
func TestMergeDealtOut(t *testing.T) {
	for count := 1; count <= 8; count++ {
		for step := range count {
			lists := make([][]api.Entry, count+2)
			for i, e := range sorted {
				at := i * (step + 1) % count
				lists[at] = append(lists[at], e)
			}
			checkMerge(t, lists, sorted)
			slices.Reverse(lists)
			checkMerge(t, lists, sorted)
		}
	}
	for i := range sorted {
		checkMerge(t, [][]api.Entry{sorted[:i], sorted[i:]}, sorted)
		checkMerge(t, [][]api.Entry{sorted[i:], nil, sorted[:i]}, sorted)
		checkMerge(t, [][]api.Entry{sorted[i : i+1], sorted[:i], sorted[i+1:]}, sorted)
	}
}

// named returns the entries with a name of their list in their values; every second one of some lists is a deletion.
func named(l []api.Entry, list int) []api.Entry {
	l = slices.Clone(l)
	for i := range l {
		l[i].Value = fmt.Sprint("of list ", list)
		l[i].Del = (i+list)%2 == 0
	}
	return l
}

// P7.1: of several entries with the same Key and Seq the first list's remains, a deletion or not, wherever the list stands.
func TestFirstListWins(t *testing.T) {
	for count := 2; count <= 9; count++ {
		var lists [][]api.Entry
		for i := range count {
			lists = append(lists, named(sorted, i))
		}
		checkMerge(t, lists, named(sorted, 0))
		checkMerge(t, lists[1:], named(sorted, 1))
		slices.Reverse(lists)
		checkMerge(t, lists, named(sorted, count-1))
		checkMerge(t, append([][]api.Entry{nil}, lists...), named(sorted, count-1))
	}
}

// P7.1: an entry that the first list lacks is the next list's that has it.
func TestFirstListThatHasOne(t *testing.T) {
	first, second, third := named(sorted, 1), named(sorted, 2), named(sorted, 3)
	want := slices.Clone(third)
	var some, others []api.Entry
	for i := range sorted {
		if i%3 == 0 {
			some = append(some, first[i])
			want[i] = first[i]
		}
		if i%2 == 0 {
			others = append(others, second[i])
		}
		if i%2 == 0 && i%3 != 0 {
			want[i] = second[i]
		}
	}
	checkMerge(t, [][]api.Entry{some, others, third}, want)
	checkMerge(t, [][]api.Entry{some, nil, others, third, third, first}, want)
}

// P7.1: one list may be passed several times; it is merged with itself.
func TestSameListAgain(t *testing.T) {
	checkMerge(t, [][]api.Entry{sorted}, sorted)
	checkMerge(t, slices.Repeat([][]api.Entry{sorted}, 5), sorted)
	checkMerge(t, [][]api.Entry{sorted[5:], sorted, sorted[:7]}, sorted)
}

// P7.1: First returns as many entries as it is asked for: none below 1, and all if there are no more.
func TestFirst(t *testing.T) {
	for _, lists := range [][][]api.Entry{{sorted}, {sorted[10:], sorted[:10]}, {sorted[5:], sorted, nil, named(sorted, 3)}, slices.Repeat([][]api.Entry{sorted}, 4)} {
		for n := -2; n < len(sorted)+3; n++ {
			checkFirst(t, lists, n, sorted)
		}
		for _, n := range []int{math.MinInt, math.MinInt + 1, -1 << 32, 1 << 32, math.MaxInt - 1, math.MaxInt} {
			checkFirst(t, lists, n, sorted)
		}
	}
}

// P7.1: First counts entries that several lists have once.
func TestFirstCountsOnce(t *testing.T) {
	lists := [][]api.Entry{{set("a", 2, "x"), set("b", 1, "x")}, {set("a", 2, "y"), set("a", 1, "y")}, {set("a", 2, "z"), set("a", 1, "z"), set("c", 1, "z")}}
	all := []api.Entry{set("a", 2, "x"), set("a", 1, "y"), set("b", 1, "x"), set("c", 1, "z")}
	for n := range 6 {
		checkFirst(t, lists, n, all)
	}
}

// P7.1: also very many lists are merged, and very long ones.
func TestManyLists(t *testing.T) {
	var lists [][]api.Entry
	var want []api.Entry
	for i := range 20000 {
		want = append(want, set(fmt.Sprintf("%05d", i), i, "x"))
		lists = append(lists, want[i:i+1])
	}
	slices.Reverse(lists)
	checkMerge(t, lists, want)
	checkFirst(t, lists, 3, want)
	checkMerge(t, [][]api.Entry{want[15000:], want, want[:100]}, want)
}
