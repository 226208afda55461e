package drive_test

import (
	"bytes"
	"hash/crc32"
	"math/rand"
	"slices"
	"strconv"
	"strings"
	"testing"

	"convoy/api"
	"convoy/drive"
)

// sampleBytes returns size bytes that look random, and are the same each time.
func sampleBytes(size int) []byte {
	b := make([]byte, size)
	rand.New(rand.NewSource(int64(size))).Read(b)
	return b
}

// want asks for an error's number.
func want(t *testing.T, what string, got, want api.Errno) {
	t.Helper()
	if got != want {
		t.Errorf("P2.1: %s: %d; want %d", what, got, want)
	}
}

// ok asks that a call was executed.
func ok(t *testing.T, e api.Errno) {
	t.Helper()
	want(t, "a call", e, api.OK)
}

// checkFile asks of a file for its bytes, and how many of them are loose.
func checkFile(t *testing.T, d *drive.Drive, name, bytes string, loose int) {
	t.Helper()
	b, e := d.Read(name)
	if e != api.OK || string(b) != bytes {
		t.Errorf("P2.1: Read(%s): %.40q, %d; want %.40q, OK", name, b, e, bytes)
	}
	if n := d.Size(name); n != len(bytes) {
		t.Errorf("P2.1: Size(%s): %d; want %d", name, n, len(bytes))
	}
	if n := d.Loose(name); n != loose {
		t.Errorf("P2.1: Loose(%s): %d; want %d", name, n, loose)
	}
}

// checkNoFile asks that there is no file of that name, which may be an invalid one.
func checkNoFile(t *testing.T, d *drive.Drive, name string, code api.Errno) {
	t.Helper()
	if b, e := d.Read(name); len(b) != 0 || e != code {
		t.Errorf("P2.1: Read(%q): %.40q, %d; want none, %d", name, b, e, code)
	}
	if n, m := d.Size(name), d.Loose(name); n != 0 || m != 0 {
		t.Errorf("P2.1: Size, Loose(%q): %d, %d; want 0, 0", name, n, m)
	}
}

// checkNames asks for the names of all files.
func checkNames(t *testing.T, d *drive.Drive, names ...string) {
	t.Helper()
	if l := d.Names(); !slices.Equal(l, names) {
		t.Errorf("P2.1: Names: %.60q; want %.60q", l, names)
	}
}

// checkSteps asks for how many steps have been executed, and whether the drive is dead.
func checkSteps(t *testing.T, d *drive.Drive, steps int, dead bool) {
	t.Helper()
	if d.Steps() != steps || d.Dead() != dead {
		t.Errorf("P2.1: Steps, Dead: %d, %v; want %d, %v", d.Steps(), d.Dead(), steps, dead)
	}
}

// brief tells bytes in few: long ones by their number and checksum.
func brief(b string) string {
	if len(b) <= 100 {
		return strconv.Quote(b)
	}
	return strconv.Itoa(len(b)) + ":" + strconv.Itoa(int(crc32.ChecksumIEEE([]byte(b))))
}

// picture tells everything that a drive answers without being changed.
func picture(d *drive.Drive) string {
	var s strings.Builder
	for _, name := range d.Names() {
		b, e := d.Read(name)
		s.WriteString(name + " " + brief(string(b)))
		for _, n := range []int{int(e), d.Size(name), d.Loose(name)} {
			s.WriteString(" " + strconv.Itoa(n))
		}
		s.WriteString("; ")
	}
	return s.String() + strconv.Itoa(d.Steps()) + " " + strconv.FormatBool(d.Dead())
}

// unchanged runs calls, and asks that the drive answers as before.
func unchanged(t *testing.T, promise string, d *drive.Drive, calls func()) {
	t.Helper()
	before := picture(d)
	calls()
	if after := picture(d); after != before {
		t.Errorf("%s: a drive has changed from %.200s to %.200s", promise, before, after)
	}
}

// rejected runs a call, and asks that it returned this error and changed nothing.
func rejected(t *testing.T, what string, d *drive.Drive, call func() api.Errno, code api.Errno) {
	t.Helper()
	unchanged(t, "P2.1", d, func() { want(t, what, call(), code) })
}

// full returns a drive with MaxFiles empty files, named 0, 1, ...
func full(t *testing.T) *drive.Drive {
	t.Helper()
	d := drive.New()
	for i := range api.MaxFiles {
		ok(t, d.Append(strconv.Itoa(i), nil))
	}
	return d
}

// guarded returns the bytes with spare capacity behind them, and all of that memory.
func guarded(b []byte) (arg, memory []byte) {
	memory = append(bytes.Clone(b), "spare capacity"...)
	return memory[:len(b)], memory
}

// spoil overwrites a slice, and its spare capacity.
func spoil(b []byte) {
	for i := range b[:cap(b)] {
		b[:cap(b)][i] ^= 0x5a
	}
}
