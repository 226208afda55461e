package memtable_test

import (
	"math"
	"math/rand"
	"slices"
	"strings"
	"testing"

	"convoy/api"
	"convoy/memtable"
)

// model is a table as the chapter tells it: its entries in the order in which they came.
type model []api.Entry

func (m *model) put(e api.Entry) api.Errno {
	if len(e.Key) > 64 || len(e.Value) > 1024 {
		return api.ErrLong
	}
	if e.Seq < 1 || e.Seq > 1<<62 || e.Del && e.Value != "" {
		return api.ErrRange
	}
	for _, x := range *m {
		if x.Key == e.Key && x.Seq == e.Seq {
			return api.ErrTwice
		}
	}
	*m = append(*m, e)
	return api.OK
}

func (m model) get(key string, seq int) (best api.Entry) {
	for _, e := range m {
		if e.Key == key && e.Seq <= seq && e.Seq > best.Seq {
			best = e
		}
	}
	return best
}

func (m model) from(key string) []api.Entry {
	var l []api.Entry
	for _, e := range m {
		if strings.Compare(e.Key, key) >= 0 {
			l = append(l, e)
		}
	}
	slices.SortFunc(l, func(x, y api.Entry) int {
		if c := strings.Compare(x.Key, y.Key); c != 0 {
			return c
		}
		if x.Seq > y.Seq {
			return -1
		}
		return 1
	})
	return l
}

// anyHeight returns a height, inside the range of towers or outside.
func anyHeight(r *rand.Rand) int {
	switch r.Intn(4) {
	case 0:
		return 1
	case 1:
		return []int{math.MinInt, -1, 0, 12, 13, 64, math.MaxInt}[r.Intn(7)]
	}
	return r.Intn(16) - 1
}

// anyEntry returns an entry, now and then one that is none; the keys and the numbers are few, so that they meet.
func anyEntry(r *rand.Rand) api.Entry {
	e := set(keys[r.Intn(len(keys))], 1+r.Intn(12), "")
	switch r.Intn(12) {
	case 0:
		e.Seq = seqs[r.Intn(len(seqs))]
	case 1:
		e.Key = strings.Repeat("k", 60+r.Intn(8))
	case 2:
		e.Value = strings.Repeat("v", 1020+r.Intn(8))
	case 3, 4, 5:
		e.Value = keys[r.Intn(len(keys))]
	}
	e.Del = r.Intn(4) == 0
	return e
}

// same asks that a table answers as its model.
func same(t *testing.T, r *rand.Rand, m *memtable.Table, all model) {
	t.Helper()
	checkAll(t, m, all.from("")...)
	for range 10 {
		key, seq := keys[r.Intn(len(keys))], r.Intn(14)
		if r.Intn(4) == 0 {
			seq = seqs[r.Intn(len(seqs))]
		}
		if want := all.get(key, seq); want.Seq > 0 {
			checkGet(t, m, key, seq, want)
		} else {
			checkNone(t, m, key, seq)
		}
		checkSeq(t, "P4.1", m.From(key), all.from(key)...)
	}
}

// P4.1 to P4.3: tables in random calls answer as the model does, and iterators of any time yield what they had then.
func TestAgainstModel(t *testing.T) {
	r := rand.New(rand.NewSource(4))
	for range 60 {
		m, all := memtable.New(), model{}
		var views []view
		for range 120 {
			e := anyEntry(r)
			put(t, m, e, anyHeight(r), all.put(e))
			if r.Intn(8) > 0 {
				continue
			}
			same(t, r, m, all)
			key := keys[r.Intn(len(keys))]
			views = append(views, view{m.From(key), all.from(key)})
			for _, v := range views {
				checkSeq(t, "P4.3", v.entries, v.want...)
			}
		}
		if t.Failed() {
			return
		}
	}
}

// heights of towers that are tried on the same calls.
var heights = []func(r *rand.Rand, i int) int{
	func(*rand.Rand, int) int { return 1 },
	func(*rand.Rand, int) int { return 12 },
	func(*rand.Rand, int) int { return math.MinInt },
	func(*rand.Rand, int) int { return math.MaxInt },
	func(_ *rand.Rand, i int) int { return i },
	func(_ *rand.Rand, i int) int { return 40 - i },
	func(_ *rand.Rand, i int) int { return -i },
	func(_ *rand.Rand, i int) int { return i % 2 * 12 },
	func(r *rand.Rand, _ int) int { return anyHeight(r) },
}

// P4.2: the same calls with other heights have the same results.
func TestHeights(t *testing.T) {
	r := rand.New(rand.NewSource(5))
	for range 10 {
		var entries []api.Entry
		for range 80 {
			entries = append(entries, anyEntry(r))
		}
		want := ""
		for k, height := range heights {
			m, all := memtable.New(), model{}
			for i, e := range entries {
				put(t, m, e, height(r, i), all.put(e))
			}
			if k == 0 {
				want = picture(m)
			}
			if got := picture(m); got != want {
				t.Errorf("P4.2: heights %d: %.300s; want %.300s", k, got, want)
			}
		}
	}
}

// P4.2: no height spoils a table of many entries, whichever order they come in.
func TestManyEntries(t *testing.T) {
	r := rand.New(rand.NewSource(6))
	for _, order := range []func(i int) int{func(i int) int { return i }, func(i int) int { return 1999 - i }, func(i int) int { return i * 7 % 2000 }} {
		m := memtable.New()
		var want []api.Entry
		for i := range 2000 {
			want = append(want, set(string([]byte{byte(i >> 8), byte(i)}), 1+i, ""))
		}
		for i := range 2000 {
			put(t, m, want[order(i)], anyHeight(r), api.OK)
		}
		checkAll(t, m, want...)
		for _, e := range want {
			checkGet(t, m, e.Key, e.Seq, e)
			checkNone(t, m, e.Key, e.Seq-1)
		}
	}
}
