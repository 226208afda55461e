package wal_test

import (
	"math"
	"slices"
	"testing"

	"convoy/api"
	"convoy/drive"
	"convoy/wal"
)

// P3.1: Sync is one step if the segment has loose bytes, and none otherwise.
func TestSync(t *testing.T) {
	d := drive.New()
	l := open(t, d, 1)
	takes(t, d, 0, func() { ok(t, l.Sync()) })
	checkLog(t, l, 1)
	add(t, l, "one", "two")
	takes(t, d, 1, func() { ok(t, l.Sync()) })
	checkFile(t, d, file(1), framed("one", "two"), 0)
	takes(t, d, 0, func() { ok(t, l.Sync()) })
	add(t, l, "three")
	takes(t, d, 1, func() { ok(t, l.Sync()); ok(t, l.Sync()) })
	open(t, d.Crash(nil), 1, "one", "two", "three")
}

// P3.1: Sync and Roll sync the log's segment, and no other file.
func TestSyncTouchesItsSegment(t *testing.T) {
	for _, name := range []string{file(1), "wal-000000", "wal-00002", "other"} {
		d := loaded(t, file(1), framed("one"))
		l := open(t, d, 1, "one")
		ok(t, d.Append(name, []byte("loose")))
		n := d.Loose(name)
		add(t, l, "two")
		ok(t, l.Sync())
		add(t, l, "three")
		roll(t, l, 3, api.OK)
		ok(t, l.Sync())
		if d.Loose(name) != n || d.Loose(file(2)) != 0 {
			t.Errorf("P3.1: loose bytes of %s: %d; of the segment: %d", name, d.Loose(name), d.Loose(file(2)))
		}
	}
}

// P3.1: Roll syncs, and goes on to the next number, whether or not the segment exists.
func TestRoll(t *testing.T) {
	d := drive.New()
	l := open(t, d, 5)
	takes(t, d, 0, func() { roll(t, l, 6, api.OK); roll(t, l, 7, api.OK) })
	checkLog(t, l, 7)
	add(t, l, "seven")
	takes(t, d, 1, func() { roll(t, l, 8, api.OK) })
	checkFile(t, d, file(7), framed("seven"), 0)
	takes(t, d, 0, func() { roll(t, l, 9, api.OK) })
	add(t, l, "nine")
	checkLog(t, l, 9, 7, 9)
	checkFile(t, d, file(9), framed("nine"), 9)
	open(t, d, 1, "seven", "nine")
	open(t, d, 8, "nine")
}

// P3.1: Drop deletes the segments below a number, but not the log's, one step each; other files remain.
func TestDrop(t *testing.T) {
	for _, c := range []struct {
		before int
		remain []int
	}{
		{math.MinInt, []int{1, 3, 4, 6}},
		{-1, []int{1, 3, 4, 6}},
		{0, []int{1, 3, 4, 6}},
		{1, []int{1, 3, 4, 6}},
		{2, []int{3, 4, 6}},
		{3, []int{3, 4, 6}},
		{4, []int{4, 6}},
		{5, []int{6}},
		{6, []int{6}},
		{7, []int{6}},
		{1000000, []int{6}},
		{math.MaxInt, []int{6}},
	} {
		d := loaded(t, file(1), framed("one"), file(3), "", file(4), "no frame", "wal-000000", "x", "wal-0000001", "x", "other", "x")
		l := open(t, d, 3)
		checkLog(t, l, 5, 1, 3, 4)
		roll(t, l, 6, api.OK)
		add(t, l, "six")
		takes(t, d, 4-len(c.remain), func() { ok(t, l.Drop(c.before)) })
		checkLog(t, l, 6, c.remain...)
		if n := len(d.Names()); n != len(c.remain)+3 {
			t.Errorf("P3.1: Drop(%d): %v", c.before, d.Names())
		}
		checkFile(t, d, file(6), framed("six"), 8)
		takes(t, d, 0, func() { ok(t, l.Drop(c.before)) })
		add(t, l, "more")
		checkFile(t, d, file(6), framed("six", "more"), 17)
	}
}

// P3.1: a log's segment that isn't created yet is no segment that could be dropped.
func TestDropAheadOfAppend(t *testing.T) {
	d := loaded(t, file(1), framed("one"))
	l := open(t, d, 1, "one")
	takes(t, d, 1, func() { ok(t, l.Drop(math.MaxInt)) })
	checkLog(t, l, 2)
	add(t, l, "two")
	open(t, d, 1, "two")
}

// P3.1: segments are deleted in increasing order, up to the step that is rejected.
func TestDropInOrder(t *testing.T) {
	numbers := []int{7, 10, 99, 100, 12345, 999999}
	for steps := range numbers {
		d := drive.New()
		for _, n := range []int{100, 7, 999999, 99, 12345, 10} {
			ok(t, d.Append(file(n), nil))
		}
		l := open(t, d, 1)
		ok(t, d.Arm(steps))
		want(t, "Drop", l.Drop(math.MaxInt), api.ErrDead)
		checkLog(t, l, 1000000, numbers[steps:]...)
		want(t, "Drop of nothing", l.Drop(1), api.ErrDead)
	}
}

// P3.1: Segments has all that exist, from the number on that Open was given or below, and nothing else.
func TestSegments(t *testing.T) {
	d := drive.New()
	l := open(t, d, 50)
	checkLog(t, l, 50)
	add(t, l, "x")
	checkLog(t, l, 50, 50)
	d = loaded(t, file(999998), "", file(1), "", file(20), "", file(3), "", "wal-000000", "", "wal-1000000", "", "wal-00020", "", "sst-000005", "")
	checkLog(t, open(t, d, 10), 999999, 1, 3, 20, 999998)
}

// P3.1: more segments than one, in each number of digits, have the names that the chapter tells.
func TestNamesOfSegments(t *testing.T) {
	names := map[int]string{1: "wal-000001", 9: "wal-000009", 10: "wal-000010", 305: "wal-000305", 7777: "wal-007777", 65536: "wal-065536", 100000: "wal-100000", 999999: "wal-999999"}
	for n, name := range names {
		d := drive.New()
		l := open(t, d, n)
		add(t, l, "x")
		if l := d.Names(); !slices.Equal(l, []string{name}) {
			t.Errorf("P3.1: segment %d: %q", n, l)
		}
		open(t, d, 1, "x")
		checkLog(t, open(t, d, n, "x"), n+1, n)
	}
}

// dying lists calls that a drive without steps rejects, on a log with a full segment that has loose bytes, behind a segment 1.
var dying = map[string]func(l *wal.Log) api.Errno{
	"Append":            func(l *wal.Log) api.Errno { return l.Append(nil) },
	"Append that rolls": func(l *wal.Log) api.Errno { return l.Append([]byte(fill(500))) },
	"Sync":              func(l *wal.Log) api.Errno { return l.Sync() },
	"Roll":              func(l *wal.Log) api.Errno { _, e := l.Roll(); return e },
	"Drop":              func(l *wal.Log) api.Errno { return l.Drop(2) },
}

// P3.1: a rejected step is ErrDead and makes the log dead: every later call is ErrDead and does nothing, but for ErrLong, Segment and Segments.
func TestDeadLog(t *testing.T) {
	for name, call := range dying {
		d := loaded(t, file(1), framed("one"))
		l := open(t, d, 1, "one")
		add(t, l, fill(600))
		ok(t, d.Arm(0))
		unchanged(t, "P3.1", d, func() {
			want(t, name, call(l), api.ErrDead)
			checkLog(t, l, 2, 1, 2)
			checkDead(t, l)
			checkLog(t, l, 2, 1, 2)
		})
	}
}

// checkDead asks that a log is dead: also the calls for which it needs no step are ErrDead.
func checkDead(t *testing.T, l *wal.Log) {
	t.Helper()
	want(t, "Append to a dead log", l.Append(nil), api.ErrDead)
	want(t, "Append of 4096 bytes to a dead log", l.Append(make([]byte, 4096)), api.ErrDead)
	want(t, "Append of 4097 bytes to a dead log", l.Append(make([]byte, 4097)), api.ErrLong)
	want(t, "Sync of a dead log", l.Sync(), api.ErrDead)
	roll(t, l, 0, api.ErrDead)
	want(t, "Drop of nothing of a dead log", l.Drop(0), api.ErrDead)
	want(t, "Drop of a dead log", l.Drop(math.MaxInt), api.ErrDead)
}

// P3.1: a log is dead also where nothing is loose, when the step that is rejected is an Append; a roll without a step has been executed then.
func TestDeadByAppend(t *testing.T) {
	d := drive.New()
	l := open(t, d, 1)
	add(t, l, fill(1000))
	ok(t, l.Sync())
	ok(t, d.Arm(0))
	ok(t, l.Sync()) // no step, so none is rejected
	ok(t, l.Drop(1))
	unchanged(t, "P3.1", d, func() {
		want(t, "Append", l.Append([]byte(fill(200))), api.ErrDead)
		checkLog(t, l, 2, 1)
		checkDead(t, l)
		checkLog(t, l, 2, 1)
	})
}

// P3.1: a roll whose Sync was the last step is executed; the Append behind it is rejected.
func TestDeadBehindRoll(t *testing.T) {
	d := drive.New()
	l := open(t, d, 1)
	add(t, l, fill(1000))
	ok(t, d.Arm(1))
	takes(t, d, 1, func() { want(t, "Append", l.Append([]byte(fill(200))), api.ErrDead) })
	checkFile(t, d, file(1), framed(fill(1000)), 0)
	checkLog(t, l, 2, 1)
	checkDead(t, l)
}

// P3.1: the last step of an armed drive is executed, and its call is OK; the log isn't dead until a step is rejected.
func TestLastStep(t *testing.T) {
	d := drive.New()
	l := open(t, d, 1)
	ok(t, d.Arm(2))
	add(t, l, "one")
	ok(t, l.Sync())
	ok(t, l.Sync())
	roll(t, l, 2, api.OK)
	ok(t, l.Drop(1))
	want(t, "a long payload", l.Append(make([]byte, 4097)), api.ErrLong)
	want(t, "Append", l.Append(nil), api.ErrDead)
	checkDead(t, l)
}
