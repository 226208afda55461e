package merge_test

import (
	"cmp"
	"math"
	"math/rand"
	"slices"
	"strings"
	"testing"

	"convoy/api"
	"convoy/merge"
)

// at is a key at a sequence number.
type at struct {
	key string
	seq int
}

// sortEntries puts entries in order.
func sortEntries(l []api.Entry) {
	slices.SortFunc(l, func(x, y api.Entry) int {
		return cmp.Or(strings.Compare(x.Key, y.Key), cmp.Compare(y.Seq, x.Seq))
	})
}

// wantMerge returns what the chapter tells of Merge: each entry that is the first of its Key and Seq, sorted.
func wantMerge(lists [][]api.Entry) []api.Entry {
	first := map[at]api.Entry{}
	for _, l := range slices.Backward(lists) {
		for _, e := range l {
			first[at{e.Key, e.Seq}] = e
		}
	}
	var all []api.Entry
	for _, e := range first {
		all = append(all, e)
	}
	sortEntries(all)
	return all
}

// wantNewest returns of each Key the newest entry whose Seq is not above seq.
func wantNewest(list []api.Entry, seq int) map[string]api.Entry {
	newest := map[string]api.Entry{}
	for _, e := range list {
		if old, there := newest[e.Key]; e.Seq <= seq && (!there || e.Seq > old.Seq) {
			newest[e.Key] = e
		}
	}
	return newest
}

// wantVisible returns what the chapter tells of Visible.
func wantVisible(list []api.Entry, seq int) []api.Pair {
	var pairs []api.Pair
	for key, e := range wantNewest(list, seq) {
		if !e.Del {
			pairs = append(pairs, api.Pair{Key: key, Value: e.Value})
		}
	}
	slices.SortFunc(pairs, func(x, y api.Pair) int { return strings.Compare(x.Key, y.Key) })
	return pairs
}

// wantCompact returns what the chapter tells of Compact.
func wantCompact(list []api.Entry, floor int, bottom bool) []api.Entry {
	var kept []api.Entry
	for _, e := range list {
		if e.Seq > floor {
			kept = append(kept, e)
		}
	}
	for _, e := range wantNewest(list, floor) {
		if !bottom || !e.Del {
			kept = append(kept, e)
		}
	}
	sortEntries(kept)
	return kept
}

// wantInOrder tells whether a list is in order.
func wantInOrder(list []api.Entry) bool {
	return slices.Equal(wantMerge([][]api.Entry{list}), list)
}

// anyEntries returns entries of few keys and few numbers, in order.
func anyEntries(r *rand.Rand, most int) []api.Entry {
	keys := []string{"", "\x00", "a", "a\x00", "ab", "b", "\x7f", "\x80", "\xff", "\xff\xff"}
	var l []api.Entry
	for range r.Intn(most + 1) {
		e := set(keys[r.Intn(len(keys))], r.Intn(12)-1, strings.Repeat("v", r.Intn(4)))
		if r.Intn(3) == 0 {
			e = del(e.Key, e.Seq)
		}
		l = append(l, e)
	}
	return wantMerge([][]api.Entry{l})
}

// anyLists returns lists that share many entries' Keys and Seqs; those of each list have its name as their values.
func anyLists(r *rand.Rand) [][]api.Entry {
	lists := make([][]api.Entry, r.Intn(8))
	for i := range lists {
		lists[i] = anyEntries(r, r.Intn(40))
		for j := range lists[i] {
			lists[i][j].Value = string(rune('A' + i))
		}
	}
	return lists
}

// P7.1: random lists are merged as the model does, to any number of entries.
func TestMergeAgainstModel(t *testing.T) {
	r := rand.New(rand.NewSource(1))
	for range 3000 {
		lists := anyLists(r)
		want := wantMerge(lists)
		checkMerge(t, lists, want)
		checkFirst(t, lists, r.Intn(len(want)+2), want)
		if t.Failed() {
			return
		}
	}
}

// P7.1: random lists are seen and compacted as the model does, at any number.
func TestListsAgainstModel(t *testing.T) {
	r := rand.New(rand.NewSource(2))
	for range 3000 {
		l := anyEntries(r, 60)
		for seq := -3; seq < 13; seq++ {
			checkVisible(t, l, seq, wantVisible(l, seq)...)
			checkCompact(t, l, seq, false, wantCompact(l, seq, false)...)
			checkCompact(t, l, seq, true, wantCompact(l, seq, true)...)
		}
		if t.Failed() {
			return
		}
	}
	for _, seq := range seqs {
		checkVisible(t, sorted, seq, wantVisible(sorted, seq)...)
		checkCompact(t, sorted, seq, false, wantCompact(sorted, seq, false)...)
		checkCompact(t, sorted, seq, true, wantCompact(sorted, seq, true)...)
	}
}

// P7.1: random lists that are not in order are rejected, and no others.
func TestOrderAgainstModel(t *testing.T) {
	r := rand.New(rand.NewSource(3))
	bad := 0
	for range 4000 {
		l := anyEntries(r, 10)
		for range min(len(l), r.Intn(3)) {
			i, j := r.Intn(len(l)), r.Intn(len(l))
			switch r.Intn(3) {
			case 0:
				l[i], l[j] = l[j], l[i]
			case 1:
				l[i].Seq = l[j].Seq
			case 2:
				l[i].Key = l[j].Key
			}
		}
		if wantInOrder(l) {
			checkMerge(t, [][]api.Entry{l}, l)
			continue
		}
		bad++
		checkListOrder(t, l)
	}
	if bad < 1000 {
		t.Errorf("%d of 4000 lists are not in order: the test is too narrow", bad)
	}
}

// P7.2: who reads at floor or later sees of a compacted list what he saw of the list itself.
func TestCompactionIsNotObservable(t *testing.T) {
	r := rand.New(rand.NewSource(4))
	lists := [][]api.Entry{sorted, nil}
	for range 1000 {
		lists = append(lists, anyEntries(r, 60))
	}
	for _, l := range lists {
		for floor := -3; floor < 13; floor++ {
			for _, bottom := range []bool{false, true} {
				compacted, code := merge.Compact(l, floor, bottom)
				if code != api.OK || !wantInOrder(compacted) {
					t.Fatalf("P7.2: Compact(%.200v, %d, %v): %.200v, %d", l, floor, bottom, compacted, code)
				}
				for _, seq := range []int{floor, floor + 1, floor + 2, floor + 5, 13, 1 << 62, math.MaxInt} {
					checkSeenAlike(t, l, compacted, seq)
				}
			}
		}
	}
}

// checkSeenAlike asks that two lists have the same pairs at a sequence number.
func checkSeenAlike(t *testing.T, list, compacted []api.Entry, seq int) {
	t.Helper()
	before, code := merge.Visible(list, seq)
	after, afterCode := merge.Visible(compacted, seq)
	if code != api.OK || afterCode != api.OK || !slices.Equal(before, after) {
		t.Errorf("P7.2: of %.200v, compacted to %.200v, are visible at %d: %.200v; want %.200v", list, compacted, seq, after, before)
	}
}

// P7.2: without bottom a compacted part of a list may still be merged with other parts of it, and nobody sees it.
func TestCompactedParts(t *testing.T) {
	r := rand.New(rand.NewSource(5))
	for range 1000 {
		l := anyEntries(r, 60)
		var parts [3][]api.Entry
		for _, e := range l {
			i := r.Intn(3)
			parts[i] = append(parts[i], e)
		}
		floor := r.Intn(14) - 2
		compacted, code := merge.Compact(parts[0], floor, false)
		merged, mergeCode := merge.Merge([][]api.Entry{compacted, parts[1], parts[2]})
		if code != api.OK || mergeCode != api.OK {
			t.Fatalf("P7.1: Compact, Merge: %d, %d", code, mergeCode)
		}
		for seq := floor; seq < 14; seq++ {
			checkSeenAlike(t, l, merged, seq)
		}
	}
}
