package manifest

import (
	"cmp"
	"maps"
	"slices"
	"strings"

	"convoy/api"
)

const (
	lastFile  = 999999 // the greatest number of a table's file, and of a log
	lastLevel = 1
)

// state is a version with its tables by their numbers, so that what an edit takes does not grow with the version.
type state struct {
	tables         map[int]api.Table
	next, log, seq int
}

// firstState returns the first version.
func firstState() *state {
	return &state{tables: map[int]api.Table{}, next: 1, log: 1}
}

// stateOf returns the state of a version; false if it isn't a version.
func stateOf(v api.Version) (*state, bool) {
	// Each version comes of the first one by a single edit. In an edit 0 would be valid, and leave the number.
	s, all := firstState(), api.Edit{Add: v.Tables, Next: v.Next, Log: v.Log, Seq: v.Seq}
	if v.Next == 0 || v.Log == 0 || !slices.IsSortedFunc(v.Tables, order) || !s.fits(all) {
		return nil, false
	}
	s.apply(all)
	return s, true
}

// version returns the version.
func (s *state) version() api.Version {
	tables := slices.SortedFunc(maps.Values(s.tables), order)
	for i, t := range tables {
		tables[i] = copied(t)
	}
	return api.Version{Tables: tables, Next: s.next, Log: s.log, Seq: s.seq}
}

// has reports whether a table is live.
func (s *state) has(number int) bool {
	_, live := s.tables[number]
	return live
}

// fits reports whether an edit fits.
func (s *state) fits(e api.Edit) bool {
	return mayFollow(s.next, e.Next, lastFile+1) &&
		mayFollow(s.log, e.Log, lastFile) &&
		mayFollow(s.seq, e.Seq, api.MaxSeq) &&
		s.fitTables(e)
}

// fitTables reports whether the tables of an edit fit, those that go and those that come.
func (s *state) fitTables(e api.Edit) bool {
	gone, come := map[int]struct{}{}, map[int]struct{}{}
	for _, n := range e.Drop {
		if !s.has(n) {
			return false
		}
		gone[n] = struct{}{}
	}
	next := max(s.next, e.Next)
	for _, t := range e.Add {
		if _, goes := gone[t.Number]; s.has(t.Number) && !goes || !isTable(t, next) {
			return false
		}
		come[t.Number] = struct{}{}
	}
	// Where a number stands twice, there are fewer numbers.
	return len(gone) == len(e.Drop) && len(come) == len(e.Add)
}

// apply makes of the version what an edit that fits makes of it.
func (s *state) apply(e api.Edit) {
	for _, n := range e.Drop {
		delete(s.tables, n)
	}
	for _, t := range e.Add {
		s.tables[t.Number] = copied(t)
	}
	s.next, s.log, s.seq = max(s.next, e.Next), max(s.log, e.Log), max(s.seq, e.Seq)
}

// mayFollow reports whether an edit may have a number that, unless it is 0, replaces an old one.
func mayFollow(old, number, most int) bool {
	return number == 0 || old <= number && number <= most
}

// isTable reports whether a version with this Next may have a table.
func isTable(t api.Table, next int) bool {
	return 0 <= t.Level && t.Level <= lastLevel &&
		1 <= t.Number && t.Number < next &&
		t.First <= t.Last && len(t.First) <= api.MaxKey && len(t.Last) <= api.MaxKey
}

// order compares tables by their places in a version.
func order(t, other api.Table) int {
	return cmp.Or(cmp.Compare(t.Level, other.Level), cmp.Compare(t.Number, other.Number))
}

// copied returns a table with texts of its own: else the longer texts that these were cut out of would be kept with them.
func copied(t api.Table) api.Table {
	t.First, t.Last = strings.Clone(t.First), strings.Clone(t.Last)
	return t
}
