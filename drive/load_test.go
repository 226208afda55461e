package drive_test

import (
	"slices"
	"strconv"
	"strings"
	"testing"

	"convoy/api"
	"convoy/drive"
)

// manyNames returns n different names, the greatest first.
func manyNames(n int) []string {
	var names []string
	for i := range n {
		names = append(names, "f"+strconv.Itoa(1000000-i))
	}
	return names
}

// P2.1: a loaded drive has the files, all bytes synced, and no step executed.
func TestLoad(t *testing.T) {
	whole := string(sampleBytes(api.MaxFile))
	d, e := drive.Load([]string{"c", "a", "b"}, [][]byte{[]byte("12"), []byte(whole), nil})
	ok(t, e)
	checkNames(t, d, "a", "b", "c")
	checkFile(t, d, "a", whole, 0)
	checkFile(t, d, "b", "", 0)
	checkFile(t, d, "c", "12", 0)
	checkSteps(t, d, 0, false)
	ok(t, d.Append("c", []byte("3")))
	checkFile(t, d, "c", "123", 1)
	checkFile(t, d.Crash(nil), "c", "12", 0)
	checkSteps(t, d, 1, false)
}

// P2.1: no file at all, and as many as there may be.
func TestLoadManyFiles(t *testing.T) {
	d, e := drive.Load(nil, nil)
	ok(t, e)
	checkNames(t, d)
	d, e = drive.Load([]string{}, nil)
	ok(t, e)
	checkNames(t, d)
	ok(t, d.Append("a", nil))
	names := manyNames(api.MaxFiles)
	d, e = drive.Load(names, make([][]byte, api.MaxFiles))
	ok(t, e)
	checkNames(t, d, slices.Sorted(slices.Values(names))...)
	rejected(t, "Append", d, func() api.Errno { return d.Append("a", nil) }, api.ErrFull)
}

// P2.1: what can't be loaded is told in the order ErrRange, ErrName, ErrTwice, ErrFull, and there is no drive.
func TestLoadRejects(t *testing.T) {
	long := make([]byte, api.MaxFile+1)
	twice := slices.Repeat([]string{"a"}, 257)
	for _, c := range []struct {
		names []string
		files [][]byte
		code  api.Errno
	}{
		{[]string{"a"}, nil, api.ErrRange},
		{nil, [][]byte{nil}, api.ErrRange},
		{[]string{"a", "b"}, [][]byte{nil}, api.ErrRange},
		{[]string{"A", "A"}, [][]byte{long}, api.ErrRange},
		{twice, [][]byte{long}, api.ErrRange},
		{[]string{"A"}, [][]byte{nil}, api.ErrName},
		{[]string{""}, [][]byte{nil}, api.ErrName},
		{[]string{strings.Repeat("a", 33)}, [][]byte{nil}, api.ErrName},
		{[]string{"a", "b", "c_"}, make([][]byte, 3), api.ErrName},
		{[]string{"a", "a", "A"}, [][]byte{long, long, long}, api.ErrName},
		{append(manyNames(257), "A"), make([][]byte, 258), api.ErrName},
		{[]string{"a", "a"}, make([][]byte, 2), api.ErrTwice},
		{[]string{"b", "a", "c", "b"}, make([][]byte, 4), api.ErrTwice},
		{[]string{"a", "b", "a"}, [][]byte{long, nil, nil}, api.ErrTwice},
		{twice, make([][]byte, 257), api.ErrTwice},
		{append(manyNames(256), manyNames(1)...), make([][]byte, 257), api.ErrTwice},
		{manyNames(257), make([][]byte, 257), api.ErrFull},
		{manyNames(2000), make([][]byte, 2000), api.ErrFull},
		{[]string{"a"}, [][]byte{long}, api.ErrFull},
		{[]string{"a", "b", "c"}, [][]byte{nil, {1}, long}, api.ErrFull},
	} {
		d, e := drive.Load(c.names, c.files)
		want(t, "Load of "+strings.Join(c.names[:min(4, len(c.names))], " "), e, c.code)
		if d != nil {
			t.Errorf("P2.1: Load(%.40q) returned a drive with an error", c.names)
		}
	}
}
