package manifest_test

import (
	"encoding/binary"
	"fmt"
	"hash/crc32"
	"slices"
	"strings"
	"testing"

	"convoy/api"
	"convoy/drive"
	"convoy/manifest"
)

// table returns a table.
func table(number, level int, first, last string) api.Table {
	return api.Table{Number: number, Level: level, First: first, Last: last}
}

// add returns the edit that adds tables, and says which number is the next one.
func add(next int, tables ...api.Table) api.Edit { return api.Edit{Add: tables, Next: next} }

// drop returns the edit that drops tables.
func drop(numbers ...int) api.Edit { return api.Edit{Drop: numbers} }

// firstVersion is the first version.
var firstVersion = api.Version{Next: 1, Log: 1}

// base is a version with tables in both levels.
var base = api.Version{
	Tables: []api.Table{table(3, 0, "a", "c"), table(7, 0, "", "z"), table(2, 1, "a", "b"), table(5, 1, "\x00", "\xff")},
	Next:   8, Log: 4, Seq: 100,
}

// all returns the edit that makes a version of the first one.
func all(v api.Version) api.Edit {
	return api.Edit{Add: v.Tables, Next: v.Next, Log: v.Log, Seq: v.Seq}
}

// payload returns the payload of an edit, made with the library. A negative number becomes one that no edit has.
func payload(e api.Edit) string {
	var b []byte
	number := func(n int) { b = binary.AppendUvarint(b, uint64(n)) }
	number(len(e.Add))
	for _, t := range e.Add {
		number(t.Number)
		number(t.Level)
		for _, s := range []string{t.First, t.Last} {
			number(len(s))
			b = append(b, s...)
		}
	}
	number(len(e.Drop))
	for _, n := range append(slices.Clone(e.Drop), e.Next, e.Log, e.Seq) {
		number(n)
	}
	return string(b)
}

// framed returns the frames of payloads, one behind the other, with the library's checksum.
func framed(payloads ...string) string {
	var b []byte
	for _, p := range payloads {
		b = binary.AppendUvarint(b, uint64(len(p)))
		b = binary.LittleEndian.AppendUint32(b, crc32.ChecksumIEEE([]byte(p)))
		b = append(b, p...)
	}
	return string(b)
}

// edits returns the frames of edits.
func edits(list ...api.Edit) string {
	s := ""
	for _, e := range list {
		s += framed(payload(e))
	}
	return s
}

// parts returns the edits of a version's snapshot.
func parts(v api.Version) []api.Edit {
	list := []api.Edit{{Next: v.Next, Log: v.Log, Seq: v.Seq}}
	for _, t := range v.Tables {
		list = append(list, api.Edit{Add: []api.Table{t}})
	}
	return list
}

// snapshot returns the frames of a version's snapshot.
func snapshot(v api.Version) string { return edits(parts(v)...) }

// logFile returns the name of a log.
func logFile(n int) string { return fmt.Sprintf("manifest-%06d", n) }

// loaded returns a drive with files, given as names and bytes in turn, all synced.
func loaded(t *testing.T, files ...string) *drive.Drive {
	t.Helper()
	var names []string
	var list [][]byte
	for i := 0; i < len(files); i += 2 {
		names = append(names, files[i])
		list = append(list, []byte(files[i+1]))
	}
	d, e := drive.Load(names, list)
	if e != api.OK {
		t.Fatalf("Load: %d", e)
	}
	return d
}

// crowd appends to the drive empty files, until it has n.
func crowd(t *testing.T, d *drive.Drive, n int) {
	t.Helper()
	for i := 0; len(d.Names()) < n; i++ {
		if e := d.Append(fmt.Sprintf("crowd-%d", i), nil); e != api.OK {
			t.Fatalf("crowd: %d", e)
		}
	}
}

// with returns a drive whose current log, number 1, has these bytes.
func with(t *testing.T, log string) *drive.Drive {
	t.Helper()
	return loaded(t, "current", logFile(1), logFile(1), log)
}

// arm leaves a drive n steps.
func arm(t *testing.T, d *drive.Drive, n int) {
	t.Helper()
	if e := d.Arm(n); e != api.OK {
		t.Fatalf("Arm(%d): %d", n, e)
	}
}

// brief tells a value in few bytes.
func brief(x any) string { return fmt.Sprintf("%.300s", fmt.Sprint(x)) }

// same tells whether two versions are.
func same(v, w api.Version) bool {
	return slices.Equal(v.Tables, w.Tables) && v.Next == w.Next && v.Log == w.Log && v.Seq == w.Seq
}

// checkVersion asks for a version.
func checkVersion(t *testing.T, what string, got, want api.Version) {
	t.Helper()
	if !same(got, want) {
		t.Errorf("%s: %s; want %s", what, brief(got), brief(want))
	}
}

// opened returns the manifest of a drive, and asks for its version; no step may be executed.
func opened(t *testing.T, promise string, d *drive.Drive, want api.Version) *manifest.Manifest {
	t.Helper()
	var m *manifest.Manifest
	unchanged(t, promise, d, func() { m = manifest.Open(d) })
	checkVersion(t, promise+": Open", m.Version(), want)
	return m
}

// began returns a manifest that has a version, its log number 1 begun, and its drive.
func began(t *testing.T, v api.Version) (*manifest.Manifest, *drive.Drive) {
	t.Helper()
	d := drive.New()
	m := manifest.Open(d)
	change(t, m, all(v), api.OK)
	checkVersion(t, "P8.1: Version", m.Version(), v)
	return m, d
}

// want asks for an error's number.
func want(t *testing.T, what string, got, want api.Errno) {
	t.Helper()
	if got != want {
		t.Errorf("P8.1: %s: %d; want %d", what, got, want)
	}
}

// change changes a manifest, and asks for the error's number.
func change(t *testing.T, m *manifest.Manifest, e api.Edit, code api.Errno) {
	t.Helper()
	if got := m.Change(e); got != code {
		t.Errorf("P8.1: Change(%s): %d; want %d", brief(e), got, code)
	}
}

// refused asks that a change returns an error, and changes neither the version nor the drive.
func refused(t *testing.T, m *manifest.Manifest, d *drive.Drive, e api.Edit, code api.Errno) {
	t.Helper()
	before := m.Version()
	unchanged(t, "P8.1", d, func() { change(t, m, e, code) })
	checkVersion(t, "P8.1: Version behind an error", m.Version(), before)
}

// takes runs a call, and asks how many steps it executed on the drive.
func takes(t *testing.T, d *drive.Drive, steps int, call func()) {
	t.Helper()
	before := d.Steps()
	call()
	if n := d.Steps() - before; n != steps {
		t.Errorf("P8.1: %d steps; want %d", n, steps)
	}
}

// checkFile asks of a file for its bytes, all synced.
func checkFile(t *testing.T, d *drive.Drive, name, bytes string) {
	t.Helper()
	b, e := d.Read(name)
	if e != api.OK || string(b) != bytes || d.Loose(name) != 0 {
		t.Errorf("P8.1: %s: %.60q (%d bytes, %d loose), %d; want %.60q (%d bytes)", name, b, len(b), d.Loose(name), e, bytes, len(bytes))
	}
}

// checkNames asks for the names of all files.
func checkNames(t *testing.T, d *drive.Drive, names ...string) {
	t.Helper()
	if l := d.Names(); !slices.Equal(l, names) {
		t.Errorf("P8.1: files %q; want %q", l, names)
	}
}

// checkOrphans asks for the files that are left over.
func checkOrphans(t *testing.T, m *manifest.Manifest, names ...string) {
	t.Helper()
	if l := m.Orphans(); !slices.Equal(l, names) {
		t.Errorf("P8.1: Orphans: %q; want %q", l, names)
	}
}

// files tells the files of a drive: their names, how many bytes they have, which, and how many of them are loose.
func files(d *drive.Drive) string {
	var s strings.Builder
	for _, name := range d.Names() {
		b, _ := d.Read(name)
		fmt.Fprintf(&s, "%s %d:%x %d; ", name, len(b), crc32.ChecksumIEEE(b), d.Loose(name))
	}
	return s.String()
}

// picture tells everything that a drive answers without being changed.
func picture(d *drive.Drive) string { return files(d) + fmt.Sprint(d.Steps(), d.Dead()) }

// unchanged runs calls, and asks that the drive answers as before.
func unchanged(t *testing.T, promise string, d *drive.Drive, calls func()) {
	t.Helper()
	before := picture(d)
	calls()
	if after := picture(d); after != before {
		t.Errorf("%s: a drive has changed from %.200s to %.200s", promise, before, after)
	}
}
