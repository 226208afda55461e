package wal_test

import (
	"fmt"
	"math/rand"
	"slices"
	"testing"

	"convoy/api"
	"convoy/drive"
	"convoy/wal"
)

// others are names that files may have, but no segment: some as near to one as can be.
var others = []string{
	"wal-000000", "wal-1000000", "wal-0000001", "wal-00001", "wal-1", "wal-", "wal", "wal-00000a", "wal-a00001", "wal-000001.",
	"wal-000001-", "wal--00001", "wal--0001", "wal-0.0001", "wal-1e0005", "wal-0x0001", "wal-.00001", "wal000001", "wal.000001",
	"-000001", "000001", "1", "awal-000001", "wal-wal-000001", "wal-000001.tmp", "sst-000001", "manifest-000001", "current",
}

// P3.3: files that do not have the name of a segment are neither read nor touched, whatever a log does.
func TestOtherFiles(t *testing.T) {
	d := loaded(t, file(3), framed("three"))
	for i, name := range others {
		ok(t, d.Append(name, []byte(framed("other"))))
		if i%2 == 0 {
			ok(t, d.Sync(name))
		}
		ok(t, d.Append(name, []byte(framed("loose"))))
	}
	want := map[string]string{}
	for _, name := range others {
		b, _ := d.Read(name)
		want[name] = fmt.Sprint(b, d.Loose(name))
	}
	for _, from := range []int{1, 4, 999998, 999999} {
		l := open(t, d, from, map[int][]string{1: {"three"}}[from]...)
		for range 3 {
			l.Append([]byte(fill(900)))
			l.Append([]byte(fill(900)))
			ok(t, l.Sync())
			_, e := l.Roll()
			ok(t, e)
			ok(t, l.Drop(1000001))
		}
		if n := len(l.Segments()); n != 0 {
			t.Errorf("P3.3: %d segments", n)
		}
	}
	for _, name := range others {
		b, e := d.Read(name)
		if got := fmt.Sprint(b, d.Loose(name)); e != api.OK || got != want[name] {
			t.Errorf("P3.3: %s has changed from %s to %s, %d", name, want[name], got, e)
		}
	}
	if n := len(d.Names()); n != len(others) {
		t.Errorf("P3.3: %d files; want %d", n, len(others))
	}
}

// P3.3: a drive that has only other files has no segment.
func TestNoSegments(t *testing.T) {
	for _, name := range others {
		checkLog(t, open(t, loaded(t, name, framed("x")), 1), 1)
		checkLog(t, open(t, loaded(t, name, framed("x")), 999999), 999999)
	}
}

// randomBytes returns the contents of a file: frames, frames of which something has changed, or any bytes.
func randomBytes(r *rand.Rand) []byte {
	b := make([]byte, r.Intn(40))
	r.Read(b)
	switch r.Intn(4) {
	case 0:
		return b
	case 1:
		return []byte(framed(string(b), "x"))
	case 2:
		return append([]byte(framed("x", string(b))), b...)
	}
	s := []byte(framed("x", string(b), "y"))
	s[r.Intn(len(s))] ^= byte(1 << r.Intn(8))
	return s
}

// P3.3: Open terminates for any files, with the payloads of those that are segments, and changes nothing.
func TestAnyBytes(t *testing.T) {
	r := rand.New(rand.NewSource(5))
	for range 3000 {
		d := drive.New()
		files := map[int]string{}
		for range r.Intn(5) {
			n := 1 + r.Intn(12)
			b := randomBytes(r)
			files[n] += string(b)
			ok(t, d.Append(file(n), b))
			ok(t, d.Append(others[r.Intn(len(others))], randomBytes(r)))
		}
		from := 1 + r.Intn(12)
		var want []string
		next := from
		for n := range 13 {
			if b, there := files[n]; there {
				next = max(next, n+1)
				if n >= from {
					want = append(want, scanned(b)...)
				}
			}
		}
		unchanged(t, "P3.3", d, func() {
			if l := open(t, d, from, want...); l.Segment() != next {
				t.Errorf("P3.3: Open(%d) of %v: segment %d; want %d", from, files, l.Segment(), next)
			}
		})
	}
}

// P3.3: also a drive that is as full as it can be is opened.
func TestFullDrive(t *testing.T) {
	d := drive.New()
	zeros := make([]byte, api.MaxFile)
	for i := range api.MaxFiles {
		ok(t, d.Append(file(1+i), zeros[:1+i*1000]))
	}
	l, p, e := wal.Open(d, 200)
	if e != api.OK || l.Segment() != 257 || len(l.Segments()) != 256 {
		t.Fatalf("P3.3: Open: %d, segment %d", e, l.Segment())
	}
	n := 0
	for i := 199; i < 256; i++ {
		n += (1 + i*1000) / 5
	}
	if len(p) != n || slices.ContainsFunc(p, func(b []byte) bool { return len(b) > 0 }) {
		t.Errorf("P3.3: %d payloads; want %d empty ones", len(p), n)
	}
}
