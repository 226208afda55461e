package manifest_test

import (
	"math"
	"slices"
	"strings"
	"testing"

	"convoy/api"
	"convoy/manifest"
)

// key returns a key of so many bytes.
func key(size int) string { return strings.Repeat("k", size) }

// later is an edit that fits each version; in a log it must not count behind one that does not fit.
var later = api.Edit{Seq: api.MaxSeq}

// checkFits asks that an edit fits a version with this result: for Fit, for Change, and in a log.
func checkFits(t *testing.T, v api.Version, e api.Edit, result api.Version) {
	t.Helper()
	got, code := manifest.Fit(v, e)
	if code != api.OK || !same(got, result) {
		t.Errorf("P8.1: Fit(%s, %s): %s, %d; want %s", brief(v), brief(e), brief(got), code, brief(result))
	}
	m, d := began(t, v)
	change(t, m, e, api.OK)
	checkVersion(t, "P8.1: the version behind a change", m.Version(), result)
	opened(t, "P8.1", d, result)
	opened(t, "P8.1", with(t, snapshot(v)+edits(e)), result)
	last := result
	last.Seq = later.Seq
	opened(t, "P8.1", with(t, edits(all(v), e, later)), last)
}

// checkFitsNot asks that an edit does not fit a version: for Fit, for Change, and in a log.
func checkFitsNot(t *testing.T, v api.Version, e api.Edit) {
	t.Helper()
	if got, code := manifest.Fit(v, e); code != api.ErrManifest || got.Tables != nil || !same(got, api.Version{}) {
		t.Errorf("P8.1: Fit(%s, %s): %s, %d", brief(v), brief(e), brief(got), code)
	}
	m, d := began(t, v)
	refused(t, m, d, e, api.ErrManifest)
	change(t, m, api.Edit{}, api.OK)
	opened(t, "P8.1", with(t, snapshot(v)+edits(e)), v)
	opened(t, "P8.1", with(t, snapshot(v)+edits(e, later)), v)
}

// version returns a version with base's numbers.
func version(tables ...api.Table) api.Version {
	return api.Version{Tables: tables, Next: base.Next, Log: base.Log, Seq: base.Seq}
}

// P8.1: tables that come and go; those of a result are in increasing order by Level, then by Number, in whatever order an edit has them.
func TestTablesFit(t *testing.T) {
	l := base.Tables
	checkFits(t, base, api.Edit{}, base)
	checkFits(t, base, drop(3), version(l[1:]...))
	checkFits(t, base, drop(5), version(l[:3]...))
	checkFits(t, base, drop(2, 7), version(l[0], l[3]))
	checkFits(t, base, drop(5, 2, 7, 3), version())
	for _, new := range []api.Table{table(1, 0, "", ""), table(1, 0, "x", "x"), table(1, 0, key(64), key(64)), table(1, 0, "", "\xff\xff"), table(1, 0, "a", "a\x00")} {
		checkFits(t, base, api.Edit{Add: []api.Table{new}}, version(new, l[0], l[1], l[2], l[3]))
	}
	four, six := table(4, 0, "a", "c"), table(6, 1, "a", "c")
	checkFits(t, base, api.Edit{Add: []api.Table{six, four}}, version(l[0], four, l[1], l[2], l[3], six))
	checkFits(t, base, api.Edit{Add: []api.Table{six, four}, Drop: []int{7, 3}}, version(four, l[2], l[3], six))
	checkFits(t, version(), api.Edit{Add: []api.Table{six, l[3], four, l[2], l[1], l[0]}}, version(l[0], four, l[1], l[2], l[3], six))
}

// P8.1: a number that an edit drops may come again with it, as another table.
func TestSameNumberAgain(t *testing.T) {
	l := base.Tables
	checkFits(t, base, api.Edit{Drop: []int{3}, Add: []api.Table{l[0]}}, base)
	other := table(3, 0, "b", "y")
	checkFits(t, base, api.Edit{Drop: []int{3}, Add: []api.Table{other}}, version(other, l[1], l[2], l[3]))
	lower := table(3, 1, "b", "y")
	checkFits(t, base, api.Edit{Drop: []int{7, 3}, Add: []api.Table{lower}}, version(l[2], lower, l[3]))
	checkFitsNot(t, base, api.Edit{Drop: []int{3}, Add: []api.Table{other, other}})
	checkFitsNot(t, base, api.Edit{Drop: []int{3}, Add: []api.Table{other, lower}})
	checkFitsNot(t, base, api.Edit{Drop: []int{3, 3}, Add: []api.Table{other}})
	checkFitsNot(t, base, api.Edit{Drop: []int{7}, Add: []api.Table{other}})
}

// P8.1: only live tables are dropped, each once; one that comes with the edit isn't live yet.
func TestDropsFitNot(t *testing.T) {
	for _, n := range []int{1, 4, 6, 8, 9, 0, -1, -3, 999999, 1000000, math.MaxInt, math.MinInt} {
		checkFitsNot(t, base, drop(n))
		checkFitsNot(t, base, drop(3, n))
		checkFitsNot(t, base, drop(n, 3))
		checkFitsNot(t, version(), drop(n))
	}
	checkFitsNot(t, base, drop(3, 3))
	checkFitsNot(t, base, drop(2, 3, 5, 2))
	checkFitsNot(t, base, api.Edit{Drop: []int{8}, Add: []api.Table{table(8, 0, "a", "b")}, Next: 9})
	checkFitsNot(t, base, api.Edit{Drop: []int{4}, Add: []api.Table{table(4, 0, "a", "b")}})
}

// wrongTables are tables that base can't have.
var wrongTables = []api.Table{
	table(8, 0, "a", "b"), table(9, 0, "a", "b"), table(0, 0, "a", "b"), table(-1, 0, "a", "b"), table(math.MinInt, 0, "a", "b"),
	table(999999, 0, "a", "b"), table(1000000, 0, "a", "b"), table(math.MaxInt, 0, "a", "b"),
	table(1, 2, "a", "b"), table(1, -1, "a", "b"), table(1, math.MaxInt, "a", "b"), table(1, math.MinInt, "a", "b"),
	table(1, 0, "b", "a"), table(1, 0, "a", ""), table(1, 0, "aa", "a"), table(1, 0, "\x80", "a"), table(1, 0, key(64), key(63)),
	table(1, 0, key(65), key(65)), table(1, 0, key(64), key(65)), table(1, 0, key(65), "z"), table(1, 1, "", key(65)),
}

// P8.1: a table that comes has a level, a number that no other live one has, below Next, and two keys in order, not too long.
func TestAddsFitNot(t *testing.T) {
	good := table(6, 1, "a", "b")
	for _, w := range wrongTables {
		checkFitsNot(t, base, api.Edit{Add: []api.Table{w}})
		checkFitsNot(t, base, api.Edit{Add: []api.Table{good, w}})
		checkFitsNot(t, base, api.Edit{Add: []api.Table{w, good}})
	}
	checkFitsNot(t, base, api.Edit{Add: []api.Table{good, good}})
	checkFitsNot(t, base, api.Edit{Add: []api.Table{good, table(6, 0, "a", "b")}})
	for _, live := range base.Tables {
		checkFitsNot(t, base, api.Edit{Add: []api.Table{live}})
		checkFitsNot(t, base, api.Edit{Add: []api.Table{table(live.Number, 1-live.Level, "a", "b")}})
	}
}

// P8.1: Next, Log and Seq of an edit are 0, or from the version's own up to the limits.
func TestNumbersFit(t *testing.T) {
	v := func(next, log, seq int) api.Version {
		return api.Version{Tables: base.Tables, Next: next, Log: log, Seq: seq}
	}
	for _, n := range []int{8, 9, 999999, 1000000} {
		checkFits(t, base, api.Edit{Next: n}, v(n, 4, 100))
	}
	for _, n := range []int{4, 5, 999998, 999999} {
		checkFits(t, base, api.Edit{Log: n}, v(8, n, 100))
	}
	for _, n := range []int{100, 101, 1<<62 - 1, 1 << 62} {
		checkFits(t, base, api.Edit{Seq: n}, v(8, 4, n))
	}
	checkFits(t, base, api.Edit{Next: 12, Log: 8, Seq: 200}, v(12, 8, 200))
	for _, n := range []int{7, 1, -1, -8, 1000001, math.MaxInt, math.MinInt} {
		checkFitsNot(t, base, api.Edit{Next: n})
	}
	for _, n := range []int{3, 1, -1, -4, 1000000, 1000001, math.MaxInt, math.MinInt} {
		checkFitsNot(t, base, api.Edit{Log: n})
	}
	for _, n := range []int{99, 1, -1, -100, 1<<62 + 1, math.MaxInt, math.MinInt} {
		checkFitsNot(t, base, api.Edit{Seq: n})
	}
}

// P8.1: numbers of tables are below Next, that of the edit if it has one.
func TestNext(t *testing.T) {
	eight, most := table(8, 0, "a", "b"), table(999999, 1, "a", "b")
	l := base.Tables
	checkFits(t, base, add(9, eight), api.Version{Tables: []api.Table{l[0], l[1], eight, l[2], l[3]}, Next: 9, Log: 4, Seq: 100})
	checkFits(t, base, add(1000000, most), api.Version{Tables: append(slices.Clone(l), most), Next: 1000000, Log: 4, Seq: 100})
	checkFitsNot(t, base, add(8, eight))
	checkFitsNot(t, base, add(999999, most))
	checkFitsNot(t, base, add(1000000, table(1000000, 0, "a", "b")))
	checkFitsNot(t, base, add(1000001, table(1000000, 0, "a", "b")))
	checkFitsNot(t, firstVersion, add(0, table(1, 0, "a", "c")))
	checkFits(t, firstVersion, add(2, table(1, 0, "a", "c")), api.Version{Tables: []api.Table{table(1, 0, "a", "c")}, Next: 2, Log: 1})
}

// P8.1: the first and the last version that there can be.
func TestVersionsAtTheEdges(t *testing.T) {
	checkFits(t, firstVersion, api.Edit{}, firstVersion)
	checkFits(t, firstVersion, all(firstVersion), firstVersion)
	last := api.Version{Tables: []api.Table{table(999999, 0, key(64), key(64)), table(1, 1, "", "")}, Next: 1000000, Log: 999999, Seq: 1 << 62}
	checkFits(t, firstVersion, all(last), last)
	checkFits(t, last, api.Edit{}, last)
	checkFits(t, last, api.Edit{Next: 1000000, Log: 999999, Seq: 1 << 62}, last)
	checkFitsNot(t, last, api.Edit{Next: 999999})
	checkFitsNot(t, last, api.Edit{Log: 999998})
	checkFitsNot(t, last, api.Edit{Seq: 1<<62 - 1})
}

// noVersions returns what is no version, each by one fault.
func noVersions() []api.Version {
	var list []api.Version
	numbers := func(next, log, seq int) {
		list = append(list, api.Version{Next: next, Log: log, Seq: seq})
	}
	for _, n := range []int{0, -1, 1000001, math.MaxInt, math.MinInt} {
		numbers(n, 1, 0)
		numbers(1, n, 0)
	}
	numbers(1, 1000000, 0)
	for _, n := range []int{-1, 1<<62 + 1, math.MaxInt, math.MinInt} {
		numbers(1, 1, n)
	}
	for _, w := range wrongTables {
		list = append(list, version(w), version(w, table(6, 1, "a", "b")), version(table(1, 0, "a", "b"), w))
	}
	l := base.Tables
	return append(list, api.Version{},
		version(l[1], l[0]), version(l[2], l[0]), version(l[0], l[1], l[3], l[2]), version(l[3], l[1]),
		version(l[0], l[0]), version(l[3], l[3]), version(l[0], table(3, 0, "", "")), version(l[0], table(3, 1, "a", "c")), version(l[0], l[1], table(3, 1, "", "")))
}

// P8.1: to what is no version no edit fits, not even one that would mend it.
func TestNoVersion(t *testing.T) {
	for _, v := range noVersions() {
		var numbers []int
		for _, x := range v.Tables {
			numbers = append(numbers, x.Number)
		}
		for _, e := range []api.Edit{{}, {Next: 1}, {Log: 1}, {Next: 1000000, Log: 999999, Seq: 1 << 62}, {Drop: numbers}, {Drop: numbers, Next: 1000000}} {
			if got, code := manifest.Fit(v, e); code != api.ErrManifest || got.Tables != nil || !same(got, api.Version{}) {
				t.Errorf("P8.1: Fit(%s, %v): %s, %d", brief(v), e, brief(got), code)
			}
		}
	}
}
