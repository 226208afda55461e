package merge_test

import (
	"runtime"
	"slices"
	"strings"
	"testing"
	"unsafe"
	"weak"

	"convoy/api"
	"convoy/merge"
)

// spare are the entries that a list's spare capacity has.
var spare = []api.Entry{set("spare", 3, "capacity"), del("spare", 2), {}}

// roomy returns a list with spare capacity, and all of its memory.
func roomy(list []api.Entry) (part, memory []api.Entry) {
	memory = slices.Concat(list, spare)
	return memory[:len(list)], memory
}

// samples returns lists that are in order, and some that are not.
func samples() [][]api.Entry {
	back := slices.Clone(sorted)
	slices.Reverse(back)
	l := [][]api.Entry{nil, back, {set("a", 1, ""), set("a", 1, "")}}
	for n := range len(sorted) + 1 {
		l = append(l, sorted[:n], sorted[n:])
	}
	return l
}

// P7.3: no call changes a list, its spare capacity included, nor the list of lists; also if one is not in order.
func TestListsAreNotChanged(t *testing.T) {
	for _, l := range samples() {
		list, memory := roomy(l)
		other, otherMemory := roomy(sorted)
		all := [][]api.Entry{other, list, other, spare}
		merge.Merge(all[:3])
		merge.First(all[:3], len(l)/2)
		merge.First(all[1:2], 1)
		for _, seq := range seqs {
			merge.Visible(list, seq)
			merge.Compact(list, seq, true)
			merge.Compact(list, seq, false)
		}
		if !slices.Equal(memory, slices.Concat(l, spare)) || !slices.Equal(otherMemory, slices.Concat(sorted, spare)) {
			t.Errorf("P7.3: a list of %d entries has changed to %.200v", len(l), memory)
		}
		if !slices.EqualFunc(all, [][]api.Entry{sorted, l, sorted, spare}, slices.Equal) {
			t.Errorf("P7.3: the list of lists has changed to %.200v", all)
		}
	}
}

// entryCalls are calls that return entries of a list, with what they must return of sorted.
var entryCalls = []struct {
	name string
	call func(list []api.Entry) ([]api.Entry, api.Errno)
	want []api.Entry
}{
	{"Merge", func(l []api.Entry) ([]api.Entry, api.Errno) { return merge.Merge([][]api.Entry{l}) }, sorted},
	{"Merge of two", func(l []api.Entry) ([]api.Entry, api.Errno) { return merge.Merge([][]api.Entry{l[7:], l}) }, sorted},
	{"First", func(l []api.Entry) ([]api.Entry, api.Errno) { return merge.First([][]api.Entry{l}, 20) }, sorted[:20]},
	{"Compact", func(l []api.Entry) ([]api.Entry, api.Errno) { return merge.Compact(l, 4, true) }, wantCompact(sorted, 4, true)},
	{"Compact with nothing to do", func(l []api.Entry) ([]api.Entry, api.Errno) { return merge.Compact(l[6:], 0, true) }, sorted[6:]},
}

// P7.3: what is done to a result, or to the lists, shows in neither the other nor in another result.
func TestResultsAreNewMemory(t *testing.T) {
	for _, c := range entryCalls {
		list, memory := roomy(sorted)
		first, _ := c.call(list)
		second, code := c.call(list)
		clear(first[:cap(first)])
		if code != api.OK || !slices.Equal(second, c.want) || !slices.Equal(memory, slices.Concat(sorted, spare)) {
			t.Errorf("P7.3: %s: a result shares memory: %.200v, %d", c.name, second, code)
		}
		clear(memory)
		if !slices.Equal(second, c.want) {
			t.Errorf("P7.3: %s: a result has changed to %.200v", c.name, second)
		}
	}
	list, memory := roomy(sorted)
	first, _ := merge.Visible(list, 5)
	second, _ := merge.Visible(list, 5)
	clear(first[:cap(first)])
	clear(memory)
	if !slices.Equal(second, wantVisible(sorted, 5)) {
		t.Errorf("P7.3: Visible: a result has changed to %.200v", second)
	}
}

// same tells whether two texts are the same memory.
func same(text, other string) bool {
	return len(text) > 0 && unsafe.StringData(text) == unsafe.StringData(other)
}

// P7.3: the texts of a result are new memory too.
func TestTextsAreNewMemory(t *testing.T) {
	of := map[at]api.Entry{}
	for _, e := range sorted {
		of[at{e.Key, e.Seq}] = e
	}
	for _, c := range entryCalls {
		l, _ := c.call(sorted)
		for _, e := range l {
			if old := of[at{e.Key, e.Seq}]; same(e.Key, old.Key) || same(e.Value, old.Value) {
				t.Errorf("P7.3: %s returns the texts that it was given: %v", c.name, e)
			}
		}
	}
	pairs, _ := merge.Visible(sorted, 5)
	for _, p := range pairs {
		for _, e := range sorted {
			if same(p.Key, e.Key) || same(p.Value, e.Value) {
				t.Errorf("P7.3: Visible returns the texts that it was given: %v", p)
			}
		}
	}
}

// forgotten runs calls with a long text, and asks that nothing of it is kept behind them.
func forgotten(t *testing.T, what string, calls func(long string) any) {
	t.Helper()
	long := strings.Repeat("k", 1<<16)
	text := weak.Make(unsafe.StringData(long))
	result := calls(long)
	long = ""
	runtime.GC()
	if text.Value() != nil {
		t.Errorf("P7.3: %s keeps what it was given", what)
	}
	runtime.KeepAlive(result)
}

// P7.3: neither a call nor its result keeps the longer texts that those of the entries were cut out of.
func TestTextsAreNotKept(t *testing.T) {
	entries := func(long string) []api.Entry { return []api.Entry{set("a", 1, long[:20]), set(long[1:20], 1, "")} }
	for _, l := range [][]api.Entry{nil, {set("a", 1, "")}, {set("b", 2, "")}} {
		forgotten(t, "Merge", func(long string) any { r, _ := merge.Merge([][]api.Entry{l, entries(long)}); return r })
		forgotten(t, "First", func(long string) any { r, _ := merge.First([][]api.Entry{l, entries(long)}, 1); return r })
	}
	forgotten(t, "Merge", func(long string) any {
		l := entries(long)
		r, code := merge.Merge([][]api.Entry{{l[1], l[0]}})
		return []any{r, code}
	})
	forgotten(t, "Visible", func(long string) any { r, _ := merge.Visible(entries(long), 1); return r })
	forgotten(t, "Compact", func(long string) any { r, _ := merge.Compact(entries(long), 1, false); return r })
}
