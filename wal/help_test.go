package wal_test

import (
	"bytes"
	"encoding/binary"
	"fmt"
	"hash/crc32"
	"math/rand"
	"slices"
	"strings"
	"testing"

	"convoy/api"
	"convoy/drive"
	"convoy/wal"
)

// sample returns a payload of size bytes that look random, and are the same each time.
func sample(size int) string {
	b := make([]byte, size)
	rand.New(rand.NewSource(int64(size))).Read(b)
	return string(b)
}

// framed returns the frames of payloads, one behind the other, with the library's checksum.
func framed(payloads ...string) string {
	var b []byte
	for _, p := range payloads {
		b = binary.AppendUvarint(b, uint64(len(p)))
		b = binary.LittleEndian.AppendUint32(b, crc32.ChecksumIEEE([]byte(p)))
		b = append(b, p...)
	}
	return string(b)
}

// scanned returns the payloads of the frames with which b begins: those that framed would write.
func scanned(b string) []string {
	var l []string
	for {
		size, n := binary.Uvarint([]byte(b))
		if n <= 0 || size > 4096 || n+4+int(size) > len(b) {
			return l
		}
		p := b[n+4 : n+4+int(size)]
		if !strings.HasPrefix(b, framed(p)) {
			return l
		}
		l = append(l, p)
		b = b[len(framed(p)):]
	}
}

// fill returns a payload whose frame has so many bytes, at least 5 (none has 133).
func fill(size int) string {
	if size < 133 {
		return sample(size - 5)
	}
	return sample(size - 6)
}

// file returns the name of a segment.
func file(n int) string { return fmt.Sprintf("wal-%06d", n) }

// loaded returns a drive with files, given as names and bytes in turn, all synced.
func loaded(t *testing.T, files ...string) *drive.Drive {
	t.Helper()
	var names []string
	var all [][]byte
	for i := 0; i < len(files); i += 2 {
		names = append(names, files[i])
		all = append(all, []byte(files[i+1]))
	}
	d, e := drive.Load(names, all)
	if e != api.OK {
		t.Fatalf("Load: %d", e)
	}
	return d
}

// crowd appends to the drive empty files, until it has n.
func crowd(t *testing.T, d *drive.Drive, n int) {
	t.Helper()
	for i := 0; len(d.Names()) < n; i++ {
		if e := d.Append(fmt.Sprintf("crowd-%d", i), nil); e != api.OK {
			t.Fatalf("crowd: %d", e)
		}
	}
}

// texts returns payloads as texts.
func texts(payloads [][]byte) []string {
	var l []string
	for _, p := range payloads {
		l = append(l, string(p))
	}
	return l
}

// open opens a log, and asks for the payloads.
func open(t *testing.T, d *drive.Drive, from int, payloads ...string) *wal.Log {
	t.Helper()
	l, p, e := wal.Open(d, from)
	if e != api.OK || l == nil {
		t.Fatalf("P3.1: Open(%d): %v, %d", from, l, e)
	}
	if !slices.Equal(texts(p), payloads) {
		t.Errorf("P3.1: Open(%d): %.100q; want %.100q", from, p, payloads)
	}
	return l
}

// want asks for an error's number.
func want(t *testing.T, what string, got, want api.Errno) {
	t.Helper()
	if got != want {
		t.Errorf("P3.1: %s: %d; want %d", what, got, want)
	}
}

// ok asks that a call was executed.
func ok(t *testing.T, e api.Errno) {
	t.Helper()
	want(t, "a call", e, api.OK)
}

// add appends payloads.
func add(t *testing.T, l *wal.Log, payloads ...string) {
	t.Helper()
	for _, p := range payloads {
		ok(t, l.Append([]byte(p)))
	}
}

// roll asks what Roll returns.
func roll(t *testing.T, l *wal.Log, n int, code api.Errno) {
	t.Helper()
	if m, e := l.Roll(); m != n || e != code {
		t.Errorf("P3.1: Roll: %d, %d; want %d, %d", m, e, n, code)
	}
}

// checkFile asks of a file for its bytes, and how many of them are loose.
func checkFile(t *testing.T, d *drive.Drive, name, bytes string, loose int) {
	t.Helper()
	b, e := d.Read(name)
	if e != api.OK || string(b) != bytes || d.Loose(name) != loose {
		t.Errorf("P3.1: %s: %.60q (%d bytes, %d loose), %d; want %.60q (%d bytes, %d loose)", name, b, len(b), d.Loose(name), e, bytes, len(bytes), loose)
	}
}

// checkLog asks for the number of the log's segment, and those of all that exist.
func checkLog(t *testing.T, l *wal.Log, segment int, segments ...int) {
	t.Helper()
	if n, all := l.Segment(), l.Segments(); n != segment || !slices.Equal(all, segments) {
		t.Errorf("P3.1: Segment, Segments: %d, %v; want %d, %v", n, all, segment, segments)
	}
}

// takes runs calls, and asks how many steps they executed on the drive.
func takes(t *testing.T, d *drive.Drive, steps int, calls func()) {
	t.Helper()
	before := d.Steps()
	calls()
	if n := d.Steps() - before; n != steps {
		t.Errorf("P3.1: %d steps; want %d", n, steps)
	}
}

// picture tells everything that a drive answers without being changed.
func picture(d *drive.Drive) string {
	var s strings.Builder
	for _, name := range d.Names() {
		b, _ := d.Read(name)
		fmt.Fprintf(&s, "%s %d:%x %d; ", name, len(b), crc32.ChecksumIEEE(b), d.Loose(name))
	}
	return s.String() + fmt.Sprint(d.Steps(), d.Dead())
}

// unchanged runs calls, and asks that the drive answers as before.
func unchanged(t *testing.T, promise string, d *drive.Drive, calls func()) {
	t.Helper()
	before := picture(d)
	calls()
	if after := picture(d); after != before {
		t.Errorf("%s: a drive has changed from %.200s to %.200s", promise, before, after)
	}
}

// guarded returns the bytes with spare capacity behind them, and all of that memory.
func guarded(s string) (arg, memory []byte) {
	memory = []byte(s + "spare capacity")
	return memory[:len(s)], memory
}

// spoil overwrites a slice, and its spare capacity.
func spoil(b []byte) {
	for i := range b[:cap(b)] {
		b[:cap(b)][i] ^= 0x5a
	}
}

// clones returns payloads in memory of their own.
func clones(payloads [][]byte) [][]byte {
	var l [][]byte
	for _, p := range payloads {
		l = append(l, bytes.Clone(p))
	}
	return l
}
