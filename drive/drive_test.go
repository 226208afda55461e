package drive_test

import (
	"strconv"
	"strings"
	"testing"

	"convoy/api"
	"convoy/drive"
)

// P2.1: the examples of the chapter, to the last one.
func TestChapterExample(t *testing.T) {
	d := drive.New()
	ok(t, d.Append("a", []byte{1, 2, 3}))
	ok(t, d.Sync("a"))
	ok(t, d.Append("a", []byte{4, 5}))
	ok(t, d.Append("b", []byte{6}))
	for _, c := range []struct {
		keeps []int
		a, b  string
	}{
		{nil, "\x01\x02\x03", ""},
		{[]int{1}, "\x01\x02\x03\x04", ""},
		{[]int{9, 9}, "\x01\x02\x03\x04\x05", "\x06"},
		{[]int{0, 1}, "\x01\x02\x03", "\x06"},
	} {
		x := d.Crash(c.keeps)
		checkFile(t, x, "a", c.a, 0)
		checkFile(t, x, "b", c.b, 0)
		checkNames(t, x, "a", "b")
	}
	ok(t, d.Rename("a", "b"))
	checkFile(t, d, "b", "\x01\x02\x03\x04\x05", 2)
	rejected(t, "Delete", d, func() api.Errno { return d.Delete("a") }, api.ErrNone)
	rejected(t, "Append", d, func() api.Errno { return d.Append("A", []byte{1}) }, api.ErrName)
	ok(t, d.Arm(1))
	ok(t, d.Sync("b"))
	checkSteps(t, d, 6, true)
	rejected(t, "Append", d, func() api.Errno { return d.Append("b", []byte{1}) }, api.ErrDead)
}

// P2.1: a new drive has nothing.
func TestNew(t *testing.T) {
	d := drive.New()
	checkNames(t, d)
	checkSteps(t, d, 0, false)
	checkNoFile(t, d, "a", api.ErrNone)
	checkNames(t, d.Crash([]int{1, 2}))
}

// names that a file may have, and names that none may.
var (
	goodNames = []string{"a", "z", "0", "9", "-", ".", "..", "wal-000001", "current.tmp", "--.0z", strings.Repeat("x", 31), strings.Repeat("x", 32)}
	badNames  = []string{"", "A", "Z", "_", " ", "a ", " a", "a/b", "a\x00", "\x00a", "a\n", "\xff", "\xe1", "é", "aé", "ａ", "٣", "a_b", "aBc", strings.Repeat("x", 33), strings.Repeat("x", 64), strings.Repeat("-", 1<<16)}
)

// P2.1: every function that takes a name takes each good one.
func TestGoodNames(t *testing.T) {
	for _, name := range goodNames {
		d := drive.New()
		checkNoFile(t, d, name, api.ErrNone)
		ok(t, d.Append(name, []byte("1")))
		ok(t, d.Sync(name))
		checkFile(t, d, name, "1", 0)
		ok(t, d.Rename(name, "other"))
		ok(t, d.Rename("other", name))
		checkNames(t, d, name)
		checkFile(t, d.Crash(nil), name, "1", 0)
		ok(t, d.Delete(name))
		checkNames(t, d)
		x, e := drive.Load([]string{name}, [][]byte{{'1'}})
		ok(t, e)
		checkFile(t, x, name, "1", 0)
	}
}

// checkBadName asks of every function that takes a name to reject this one, also on a full drive or a dead one.
func checkBadName(t *testing.T, d *drive.Drive, name string) {
	t.Helper()
	what := strconv.Quote(name[:min(40, len(name))])
	rejected(t, "Append of "+what, d, func() api.Errno { return d.Append(name, []byte("1")) }, api.ErrName)
	rejected(t, "Append of "+what, d, func() api.Errno { return d.Append(name, make([]byte, api.MaxFile+1)) }, api.ErrName)
	rejected(t, "Sync of "+what, d, func() api.Errno { return d.Sync(name) }, api.ErrName)
	rejected(t, "Delete of "+what, d, func() api.Errno { return d.Delete(name) }, api.ErrName)
	rejected(t, "Rename of "+what, d, func() api.Errno { return d.Rename(name, "x") }, api.ErrName)
	rejected(t, "Rename of none to "+what, d, func() api.Errno { return d.Rename("x", name) }, api.ErrName)
	rejected(t, "Rename of 0 to "+what, d, func() api.Errno { return d.Rename("0", name) }, api.ErrName)
	rejected(t, "Rename to itself of "+what, d, func() api.Errno { return d.Rename(name, name) }, api.ErrName)
	checkNoFile(t, d, name, api.ErrName)
}

// P2.1: an invalid name is ErrName everywhere, ahead of all other errors.
func TestBadNames(t *testing.T) {
	few, many, dead := drive.New(), full(t), full(t)
	ok(t, few.Append("0", []byte("1")))
	ok(t, dead.Arm(0))
	for _, name := range badNames {
		checkBadName(t, few, name)
		checkBadName(t, many, name)
		checkBadName(t, dead, name)
	}
}

// P2.1: of all 256 bytes, those from a to z, 0 to 9, - and a dot make a name, at its start as at its end.
func TestBytesOfNames(t *testing.T) {
	for x := range 256 {
		c := string([]byte{byte(x)})
		code := api.ErrName
		if strings.Contains("abcdefghijklmnopqrstuvwxyz0123456789-.", c) {
			code = api.OK
		}
		for _, name := range []string{c, c + "a", "a" + c, "a" + c + "a", strings.Repeat("a", 31) + c} {
			want(t, "Append of "+strconv.Quote(name), drive.New().Append(name, nil), code)
		}
	}
}

// P2.1: bytes are appended to a file, which is created by that, also with no bytes.
func TestAppend(t *testing.T) {
	d := drive.New()
	ok(t, d.Append("b", []byte("1")))
	checkFile(t, d, "b", "1", 1)
	ok(t, d.Append("a", nil))
	checkFile(t, d, "a", "", 0)
	ok(t, d.Append("c", []byte{}))
	checkNames(t, d, "a", "b", "c")
	ok(t, d.Append("b", []byte("23")))
	ok(t, d.Append("b", nil))
	checkFile(t, d, "b", "123", 3)
	ok(t, d.Append("a", []byte("4")))
	checkFile(t, d, "a", "4", 1)
	checkSteps(t, d, 6, false)
}

// P2.1: a file has at most MaxFile bytes, synced and loose together; what is rejected leaves no bytes, and no file.
func TestAppendUpToMaxFile(t *testing.T) {
	d := drive.New()
	whole := string(sampleBytes(api.MaxFile))
	tooMuch := func(name string, size int) {
		t.Helper()
		rejected(t, "Append", d, func() api.Errno { return d.Append(name, make([]byte, size)) }, api.ErrFull)
	}
	tooMuch("a", api.MaxFile+1)
	tooMuch("a", 4*api.MaxFile)
	checkNames(t, d)
	ok(t, d.Append("a", []byte(whole)))
	checkFile(t, d, "a", whole, api.MaxFile)
	tooMuch("a", 1)
	ok(t, d.Append("a", nil))
	ok(t, d.Append("b", []byte(whole[:10])))
	ok(t, d.Sync("b"))
	tooMuch("b", api.MaxFile-9)
	ok(t, d.Append("b", []byte(whole[10:api.MaxFile-1])))
	tooMuch("b", 2)
	ok(t, d.Append("b", []byte(whole[api.MaxFile-1:])))
	tooMuch("b", 1)
	checkFile(t, d, "b", whole, api.MaxFile-10)
	ok(t, d.Delete("a"))
	ok(t, d.Append("a", []byte(whole)))
	checkFile(t, d.Crash([]int{api.MaxFile - 1}), "a", whole[:api.MaxFile-1], 0)
}

// P2.1: there are at most MaxFiles files; those that there are take more bytes nevertheless.
func TestAppendUpToMaxFiles(t *testing.T) {
	d := full(t)
	next := func() api.Errno { return d.Append("next", nil) }
	rejected(t, "Append", d, next, api.ErrFull)
	rejected(t, "Append", d, func() api.Errno { return d.Append("next", []byte("1")) }, api.ErrFull)
	ok(t, d.Append("7", []byte("1")))
	checkFile(t, d, "7", "1", 1)
	ok(t, d.Rename("7", "seven"))
	rejected(t, "Append", d, next, api.ErrFull)
	ok(t, d.Rename("seven", "8")) // one file less
	ok(t, next())
	rejected(t, "Append", d, func() api.Errno { return d.Append("more", nil) }, api.ErrFull)
	ok(t, d.Delete("next"))
	ok(t, next())
	rejected(t, "Append", d.Crash(nil), func() api.Errno { return d.Crash(nil).Append("more", nil) }, api.ErrFull)
	if n := len(d.Names()); n != api.MaxFiles {
		t.Errorf("P2.1: %d files; want %d", n, api.MaxFiles)
	}
}

// P2.1: a sync makes all bytes of its file synced, and of no other one.
func TestSync(t *testing.T) {
	d := drive.New()
	ok(t, d.Append("a", []byte("12")))
	ok(t, d.Append("b", []byte("34")))
	ok(t, d.Sync("a"))
	checkFile(t, d, "a", "12", 0)
	checkFile(t, d, "b", "34", 2)
	ok(t, d.Append("a", []byte("5")))
	checkFile(t, d, "a", "125", 1)
	ok(t, d.Append("a", []byte("67")))
	ok(t, d.Sync("a"))
	ok(t, d.Sync("a"))
	checkFile(t, d, "a", "12567", 0)
	checkSteps(t, d, 7, false)
	checkFile(t, d.Crash(nil), "a", "12567", 0)
	rejected(t, "Sync", d, func() api.Errno { return d.Sync("c") }, api.ErrNone)
	checkNames(t, d, "a", "b")
}

// P2.1: a renamed file has all its bytes, loose ones remain loose, and the old file of that name is gone.
func TestRename(t *testing.T) {
	d := drive.New()
	ok(t, d.Append("a", []byte("12")))
	ok(t, d.Sync("a"))
	ok(t, d.Append("a", []byte("345")))
	ok(t, d.Rename("a", "c"))
	checkNames(t, d, "c")
	checkNoFile(t, d, "a", api.ErrNone)
	checkFile(t, d, "c", "12345", 3)
	ok(t, d.Append("b", []byte("6789")))
	ok(t, d.Sync("b"))
	ok(t, d.Rename("c", "b"))
	checkNames(t, d, "b")
	checkFile(t, d, "b", "12345", 3)
	checkFile(t, d.Crash([]int{1}), "b", "123", 0)
	checkSteps(t, d, 7, false)
	rejected(t, "Rename", d, func() api.Errno { return d.Rename("a", "b") }, api.ErrNone)
	rejected(t, "Rename", d, func() api.Errno { return d.Rename("a", "a") }, api.ErrNone)
	ok(t, d.Append("a", []byte("0"))) // another file, of the old name
	checkFile(t, d, "a", "0", 1)
	checkFile(t, d, "b", "12345", 3)
	ok(t, d.Sync("b"))
	checkFile(t, d, "b", "12345", 0)
	checkFile(t, d, "a", "0", 1)
}

// P2.1: a file renamed to its own name remains as it is; that is a step.
func TestRenameToItself(t *testing.T) {
	d := drive.New()
	ok(t, d.Append("a", []byte("12")))
	ok(t, d.Sync("a"))
	ok(t, d.Append("a", []byte("3")))
	ok(t, d.Rename("a", "a"))
	checkNames(t, d, "a")
	checkFile(t, d, "a", "123", 1)
	checkSteps(t, d, 4, false)
}

// P2.1: a deleted file is gone at once; one that is created again has nothing of it.
func TestDelete(t *testing.T) {
	d := drive.New()
	ok(t, d.Append("a", []byte("123")))
	ok(t, d.Append("b", []byte("4")))
	ok(t, d.Sync("a"))
	ok(t, d.Delete("a"))
	checkNames(t, d, "b")
	checkNoFile(t, d, "a", api.ErrNone)
	checkNames(t, d.Crash([]int{9, 9}), "b")
	rejected(t, "Delete", d, func() api.Errno { return d.Delete("a") }, api.ErrNone)
	rejected(t, "Sync", d, func() api.Errno { return d.Sync("a") }, api.ErrNone)
	ok(t, d.Append("a", []byte("5")))
	checkFile(t, d, "a", "5", 1)
	checkSteps(t, d, 5, false)
}

// P2.1: names are told byte by byte, a prefix first, in whichever order the files came.
func TestNamesInOrder(t *testing.T) {
	d := drive.New()
	for _, name := range []string{"b", "a-", "a", "ab", "-", "z", "a0", ".", "9", "a.", "aa", "10", "1", "2"} {
		ok(t, d.Append(name, nil))
	}
	checkNames(t, d, "-", ".", "1", "10", "2", "9", "a", "a-", "a.", "a0", "aa", "ab", "b", "z")
}
