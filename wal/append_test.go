package wal_test

import (
	"testing"

	"convoy/api"
	"convoy/drive"
)

// P3.1: each payload's frame is appended to the segment by one step, and is loose.
func TestAppend(t *testing.T) {
	d := drive.New()
	l := open(t, d, 7)
	var all []string
	for _, p := range []string{"one", "", "two", sample(127), sample(128), "\x00\xff"} {
		takes(t, d, 1, func() { add(t, l, p) })
		all = append(all, p)
		checkFile(t, d, file(7), framed(all...), len(framed(all...)))
	}
	checkLog(t, l, 7, 7)
	open(t, d, 1, all...)
}

// P3.1: an empty payload creates the segment too.
func TestAppendNothing(t *testing.T) {
	d := drive.New()
	l := open(t, d, 1)
	takes(t, d, 1, func() { ok(t, l.Append(nil)) })
	checkFile(t, d, file(1), "\x00\x00\x00\x00\x00", 5)
	open(t, d, 1, "")
}

// P3.1: a payload of more than MaxPayload bytes is rejected, and nothing has changed; one of MaxPayload is not.
func TestAppendTooLong(t *testing.T) {
	d := drive.New()
	l := open(t, d, 1)
	for _, before := range []string{"", "one"} {
		if before != "" {
			add(t, l, before)
		}
		for _, size := range []int{4097, 4098, 100000} {
			unchanged(t, "P3.1", d, func() { want(t, "a long payload", l.Append(make([]byte, size)), api.ErrLong) })
		}
		checkLog(t, l, 1, l.Segments()...)
	}
	add(t, l, sample(4096))
	checkFile(t, d, file(2), framed(sample(4096)), 4102)
	open(t, d, 1, "one", sample(4096))
}

// P3.1: a segment takes up to MaxSegment bytes; one byte more goes to the next one, and the first one is synced.
func TestSegmentIsFull(t *testing.T) {
	for _, first := range []int{200, 512, 1000, 1019, 1023, 1024} {
		for _, size := range []int{5, 6, 132, 134, 512, 824, 825, 1024, 1025} {
			d := drive.New()
			l := open(t, d, 1)
			one, two := fill(first), fill(size)
			add(t, l, one)
			if first+size <= 1024 {
				takes(t, d, 1, func() { add(t, l, two) })
				checkFile(t, d, file(1), framed(one, two), first+size)
				checkLog(t, l, 1, 1)
				continue
			}
			takes(t, d, 2, func() { add(t, l, two) })
			checkFile(t, d, file(1), framed(one), 0)
			checkFile(t, d, file(2), framed(two), size)
			checkLog(t, l, 2, 1, 2)
		}
	}
}

// P3.1: a payload that is longer than a segment goes into an empty one, without a roll, and alone.
func TestLongPayloads(t *testing.T) {
	d := drive.New()
	l := open(t, d, 1)
	long := sample(2000)
	takes(t, d, 1, func() { add(t, l, long) })
	checkLog(t, l, 1, 1)
	takes(t, d, 2, func() { add(t, l, "") })
	checkLog(t, l, 2, 1, 2)
	takes(t, d, 2, func() { add(t, l, long) })
	takes(t, d, 2, func() { add(t, l, long) })
	checkLog(t, l, 4, 1, 2, 3, 4)
	roll(t, l, 5, api.OK)
	takes(t, d, 1, func() { add(t, l, long) })
	checkLog(t, l, 5, 1, 2, 3, 4, 5)
	open(t, d, 1, long, "", long, long, long)
}

// P3.1: the bytes of the segment count, not what of them is loose; a synced one is rolled without a step.
func TestAppendAfterSync(t *testing.T) {
	d := drive.New()
	l := open(t, d, 1)
	add(t, l, fill(600))
	ok(t, l.Sync())
	takes(t, d, 1, func() { add(t, l, fill(424)) })
	checkFile(t, d, file(1), framed(fill(600), fill(424)), 424)
	ok(t, l.Sync())
	takes(t, d, 1, func() { add(t, l, "") })
	checkLog(t, l, 2, 1, 2)
	checkFile(t, d, file(2), framed(""), 5)
}

// P3.1: behind the last number there is no segment: Append is ErrFull; a full last segment has been rolled then.
func TestNumbersExhausted(t *testing.T) {
	d := drive.New()
	l := open(t, d, 999999)
	add(t, l, fill(600), fill(424))
	takes(t, d, 1, func() { want(t, "Append", l.Append(nil), api.ErrFull) })
	checkFile(t, d, file(999999), framed(fill(600), fill(424)), 0)
	checkLog(t, l, 1000000, 999999)
	unchanged(t, "P3.1", d, func() {
		want(t, "Append", l.Append([]byte("x")), api.ErrFull)
		want(t, "Append", l.Append(make([]byte, 4096)), api.ErrFull)
		want(t, "Append", l.Append(make([]byte, 4097)), api.ErrLong)
		ok(t, l.Sync())
		roll(t, l, 1000000, api.OK)
		roll(t, l, 1000000, api.OK)
		ok(t, l.Drop(999999))
	})
	checkLog(t, l, 1000000, 999999)
	ok(t, l.Drop(1000000))
	checkLog(t, l, 1000000)
	want(t, "Append", l.Append(nil), api.ErrFull)
	checkLog(t, open(t, d, 1), 1)
}

// P3.1: a last segment that has room is rolled only by Roll; then ErrFull is told ahead of a dead drive, which no step has met.
func TestNumbersExhaustedByRoll(t *testing.T) {
	d := drive.New()
	l := open(t, d, 999999)
	add(t, l, "one")
	roll(t, l, 1000000, api.OK)
	checkFile(t, d, file(999999), framed("one"), 0)
	ok(t, d.Arm(0))
	want(t, "Append", l.Append(nil), api.ErrFull)
	ok(t, l.Sync())
	roll(t, l, 1000000, api.OK)
	want(t, "Drop", l.Drop(1000000), api.ErrDead)
	want(t, "Append to a dead log", l.Append(nil), api.ErrDead)
	checkLog(t, l, 1000000, 999999)
}

// P3.1: the drive's ErrFull is returned, and the log isn't dead: it goes on when there is room.
func TestDriveIsFull(t *testing.T) {
	d := drive.New()
	l := open(t, d, 1)
	crowd(t, d, 256)
	unchanged(t, "P3.1", d, func() { want(t, "Append", l.Append(nil), api.ErrFull) })
	checkLog(t, l, 1)
	ok(t, d.Delete("crowd-0"))
	add(t, l, "one", fill(1000))
	checkFile(t, d, file(1), framed("one", fill(1000)), 1008)
	takes(t, d, 1, func() { want(t, "Append", l.Append([]byte(fill(200))), api.ErrFull) })
	checkFile(t, d, file(1), framed("one", fill(1000)), 0)
	checkLog(t, l, 2, 1) // the roll has been executed
	unchanged(t, "P3.1", d, func() {
		want(t, "Append", l.Append(nil), api.ErrFull)
		ok(t, l.Sync())
		roll(t, l, 3, api.OK)
		ok(t, l.Drop(1))
	})
	ok(t, l.Drop(2))
	add(t, l, "three")
	checkFile(t, d, file(3), framed("three"), 10)
	checkLog(t, l, 3, 3)
}

// P3.1: a drive that is full and dead tells ErrFull; the log is not dead by that.
func TestDriveIsFullAndDead(t *testing.T) {
	d := drive.New()
	l := open(t, d, 1)
	crowd(t, d, 256)
	ok(t, d.Arm(0))
	want(t, "Append", l.Append(nil), api.ErrFull)
	ok(t, l.Sync())
	roll(t, l, 2, api.OK)
	ok(t, l.Drop(9))
}
