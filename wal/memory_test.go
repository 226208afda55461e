package wal_test

import (
	"bytes"
	"slices"
	"testing"

	"convoy/api"
	"convoy/drive"
	"convoy/wal"
)

// P3.4: Append neither changes nor keeps its payload, nor the spare capacity behind it.
func TestPayloadsAreNotKept(t *testing.T) {
	for _, size := range []int{0, 1, 9, 127, 128, 600, 4096} {
		d := drive.New()
		l := open(t, d, 1)
		arg, memory := guarded(sample(size))
		before := bytes.Clone(memory)
		ok(t, l.Append(arg))
		ok(t, l.Append(arg))
		ok(t, l.Sync())
		if !bytes.Equal(memory, before) {
			t.Errorf("P3.4: Append of %d bytes has changed them", size)
		}
		unchanged(t, "P3.4", d, func() { spoil(memory) })
		spoiled := bytes.Clone(memory)
		add(t, l, "more")
		if !bytes.Equal(memory, spoiled) {
			t.Errorf("P3.4: a later Append writes into the %d bytes of an earlier one", size)
		}
		open(t, d, 1, sample(size), sample(size), "more")
	}
}

// P3.4: also a payload that is rejected is left alone.
func TestRejectedPayloads(t *testing.T) {
	d := drive.New()
	l := open(t, d, 1)
	ok(t, d.Arm(0))
	for _, size := range []int{3, 4097} {
		arg, memory := guarded(sample(size))
		before := bytes.Clone(memory)
		if e := l.Append(arg); e == api.OK || !bytes.Equal(memory, before) {
			t.Errorf("P3.4: Append of %d bytes: %d, or has changed them", size, e)
		}
	}
}

// P3.4: the payloads of Open share memory with nothing: not with the drive, with each other, nor with those of another Open.
func TestOpenedPayloadsAreNewMemory(t *testing.T) {
	d := loaded(t, file(1), framed("one", "", "two", sample(500)), file(2), framed("three", "four"))
	_, p, e := wal.Open(d, 1)
	ok(t, e)
	_, second, e := wal.Open(d, 1)
	ok(t, e)
	before := clones(second)
	for i := range p {
		others := clones(p)
		unchanged(t, "P3.4", d, func() { spoil(p[i]) })
		for j := range p {
			if j != i && !bytes.Equal(p[j], others[j]) {
				t.Errorf("P3.4: payloads %d and %d share memory", i, j)
			}
		}
	}
	clear(p[:cap(p)])
	if !slices.EqualFunc(second, before, bytes.Equal) {
		t.Error("P3.4: the payloads of two openings share memory")
	}
	open(t, d, 1, texts(before)...)
}

// P3.4: a list of segments is new memory.
func TestSegmentsAreNewMemory(t *testing.T) {
	d := loaded(t, file(1), "", file(2), "", file(3), "")
	l := open(t, d, 1)
	first, second := l.Segments(), l.Segments()
	clear(first[:cap(first)])
	checkLog(t, l, 4, 1, 2, 3)
	add(t, l, "x")
	clear(first[:cap(first)])
	if !slices.Equal(second, []int{1, 2, 3}) {
		t.Error("P3.4: two results of Segments share memory, or one has changed later")
	}
	ok(t, l.Drop(3))
	checkLog(t, l, 4, 3, 4)
}
