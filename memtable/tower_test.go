package memtable

import (
	"math"
	"testing"

	"convoy/api"
)

// towers returns the height of each node's tower, in the order of the entries, and asks that each level is in that order too.
func towers(t *testing.T, m *Table) []int {
	t.Helper()
	place := map[*node]int{}
	var heights []int
	for n := m.head.next[0]; n != nil; n = n.next[0] {
		place[n] = len(heights)
		heights = append(heights, 0)
	}
	for level := range m.head.next {
		last := -1
		for n := m.head.next[level]; n != nil; n = n.next[level] {
			i, there := place[n]
			if !there || i <= last || heights[i] != level {
				t.Fatalf("P4.1: level %d has entry %v at place %d behind %d", level, n.entry, i, last)
			}
			last = i
			heights[i]++
		}
	}
	return heights
}

// P4.1: a tower has the height that Put was given; below 1 it counts as 1, above 12 as 12.
func TestTowers(t *testing.T) {
	for _, c := range []struct{ height, want int }{
		{math.MinInt, 1}, {-1, 1}, {0, 1}, {1, 1}, {2, 2}, {6, 6}, {11, 11}, {12, 12}, {13, 12}, {64, 12}, {math.MaxInt, 12},
	} {
		for place, key := range []string{"a", "c", "e"} { // ahead of the others, between them, behind them
			m := New()
			for i, e := range []api.Entry{{Key: "d", Seq: 1}, {Key: "b", Seq: 1}, {Key: key, Seq: 1}} {
				if code := m.Put(e, []int{12, 5, c.height}[i]); code != api.OK {
					t.Fatalf("P4.1: Put: %d", code)
				}
			}
			if got := towers(t, m); len(got) != 3 || got[place] != c.want || got[0]+got[1]+got[2] != 17+c.want {
				t.Errorf("P4.1: heights behind a Put with %d: %v; want %d", c.height, got, c.want)
			}
		}
	}
}

// P4.1: a Put that is rejected leaves no tower.
func TestNoTower(t *testing.T) {
	m := New()
	m.Put(api.Entry{Key: "a", Seq: 1}, 3)
	for _, e := range []api.Entry{{Key: "a", Seq: 1}, {Key: "a"}, {Key: string(make([]byte, 65)), Seq: 1}} {
		if code := m.Put(e, 12); code == api.OK {
			t.Errorf("P4.1: Put(%v): OK", e)
		}
	}
	if got := towers(t, m); len(got) != 1 || got[0] != 3 {
		t.Errorf("P4.1: heights: %v; want 3 alone", got)
	}
}
