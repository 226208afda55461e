package wal_test

import (
	"math"
	"strings"
	"testing"

	"convoy/api"
	"convoy/drive"
	"convoy/wal"
)

// P3.1: the chapter's examples.
func TestExamples(t *testing.T) {
	d := drive.New()
	l := open(t, d, 1)
	checkLog(t, l, 1)
	add(t, l, "\x01\x02\x03")
	checkFile(t, d, "wal-000001", framed("\x01\x02\x03"), 8)
	checkLog(t, open(t, d.Crash(nil), 1), 2, 1)

	d = drive.New()
	l = open(t, d, 1)
	big := sample(600)
	add(t, l, big, big)
	checkFile(t, d, "wal-000001", framed(big), 0)
	checkFile(t, d, "wal-000002", framed(big), 606)
	ok(t, l.Drop(2))
	checkLog(t, l, 2, 2)
	if l, p, e := wal.Open(d, 0); l != nil || len(p) != 0 || e != api.ErrRange {
		t.Errorf("P3.1: Open(0): %v, %v, %d", l, p, e)
	}
}

// P3.1: no segment has a number that isn't from 1 to 999999: then there is no log, and no payload.
func TestOpenRejects(t *testing.T) {
	d := loaded(t, file(1), framed("one"), file(999999), framed("last"))
	for _, from := range []int{0, -1, 1000000, 1000001, 1 << 32, math.MinInt, math.MaxInt} {
		unchanged(t, "P3.1", d, func() {
			if l, p, e := wal.Open(d, from); l != nil || len(p) != 0 || e != api.ErrRange {
				t.Errorf("P3.1: Open(%d): %v, %v, %d", from, l, p, e)
			}
		})
	}
}

// P3.1: the payloads from a number on, in the order of the numbers; the log's segment is behind all that exist, and not below from.
func TestOpenFrom(t *testing.T) {
	d := loaded(t, file(10), framed("d", "e"), file(2), framed("a", "b"), file(9), framed("c"))
	for _, c := range []struct {
		from, segment int
		payloads      string
	}{
		{1, 11, "a b c d e"},
		{2, 11, "a b c d e"},
		{3, 11, "c d e"},
		{9, 11, "c d e"},
		{10, 11, "d e"},
		{11, 11, ""},
		{12, 12, ""},
		{999999, 999999, ""},
	} {
		unchanged(t, "P3.1", d, func() {
			l := open(t, d, c.from, strings.Fields(c.payloads)...)
			checkLog(t, l, c.segment, 2, 9, 10)
		})
	}
}

// P3.1: on a drive without segments the log's segment is from; behind the last number there is none left.
func TestOpenAtTheEnds(t *testing.T) {
	checkLog(t, open(t, drive.New(), 1), 1)
	checkLog(t, open(t, drive.New(), 7), 7)
	checkLog(t, open(t, drive.New(), 999999), 999999)
	d := loaded(t, file(999999), framed("last"), file(1), framed("first"))
	checkLog(t, open(t, d, 1, "first", "last"), 1000000, 1, 999999)
	checkLog(t, open(t, d, 999999, "last"), 1000000, 1, 999999)
	d = loaded(t, file(999998), "")
	checkLog(t, open(t, d, 1), 999999, 999998)
}

// P3.1: of each segment those payloads are read that frame.Scan finds; a segment that is broken hides nothing of the next one.
func TestOpenBroken(t *testing.T) {
	whole := framed("one", "", "two")
	for i := range len(whole) + 1 {
		want := []string{"one", "", "two", "next"}
		switch {
		case i < len(framed("one")):
			want = want[3:]
		case i < len(framed("one", "")):
			want = []string{"one", "next"}
		case i < len(whole):
			want = []string{"one", "", "next"}
		}
		open(t, loaded(t, file(3), whole[:i], file(5), framed("next")), 1, want...)
		open(t, loaded(t, file(3), whole[:i]+"\xff", file(4), "", file(5), framed("next")), 1, want...)
	}
	bad := []byte(framed("bad"))
	bad[len(bad)-1] ^= 1
	d := loaded(t, file(1), framed("one")+string(bad)+framed("behind"), file(2), string(bad)+framed("behind"), file(3), framed("three"))
	open(t, d, 1, "one", "three")
	// Two halves of a frame in two segments are none.
	two := framed("halved")
	open(t, loaded(t, file(1), framed("one")+two[:7], file(2), two[7:]), 1, "one")
}

// P3.1: also longer payloads than a log would put one behind the other, and many in one segment, are read.
func TestOpenLongSegments(t *testing.T) {
	var many []string
	for range 5000 {
		many = append(many, "x")
	}
	long := []string{sample(4096), sample(4095), ""}
	d := loaded(t, file(1), framed(many...), file(2), framed(long...))
	open(t, d, 1, append(many, long...)...)
}

// P3.1: Open executes no step: it works on a dead drive, loose bytes are read and remain loose, and a segment isn't created.
func TestOpenTakesNoStep(t *testing.T) {
	d := loaded(t, file(1), framed("one"))
	ok(t, d.Append(file(2), []byte(framed("two"))))
	ok(t, d.Append(file(1), []byte(framed("three"))))
	ok(t, d.Arm(0))
	unchanged(t, "P3.1", d, func() {
		l := open(t, d, 1, "one", "three", "two")
		checkLog(t, l, 3, 1, 2)
		ok(t, l.Sync()) // the log isn't dead: its own segment has nothing that is loose
		roll(t, l, 4, api.OK)
	})
	checkFile(t, d, file(2), framed("two"), 8)
}

// P3.1: a log never appends to what a previous one wrote, be it empty or broken.
func TestOpenGoesOnBehind(t *testing.T) {
	d := drive.New()
	add(t, open(t, d, 1), "one")
	d = d.Crash([]int{3})
	l := open(t, d, 1)
	add(t, l, "two")
	checkFile(t, d, file(1), framed("one")[:3], 0)
	checkFile(t, d, file(2), framed("two"), 8)
	d = d.Crash(nil)
	l = open(t, d, 1)
	checkLog(t, l, 3, 1, 2)
	add(t, l, "three")
	ok(t, l.Sync())
	checkFile(t, d, file(2), "", 0)
	checkFile(t, d, file(3), framed("three"), 0)
	open(t, d.Crash(nil), 1, "three")
}

// P3.1: two logs on two drives have nothing in common.
func TestLogsAreApart(t *testing.T) {
	d, x := drive.New(), drive.New()
	l, m := open(t, d, 1), open(t, x, 5)
	add(t, l, "one")
	ok(t, d.Arm(0))
	want(t, "Sync", l.Sync(), api.ErrDead)
	checkLog(t, m, 5)
	add(t, m, "five")
	ok(t, m.Sync())
	checkLog(t, m, 5, 5)
	checkLog(t, l, 1, 1)
	checkFile(t, d, file(1), framed("one"), 8)
}
