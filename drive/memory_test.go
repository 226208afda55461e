package drive_test

import (
	"bytes"
	"slices"
	"testing"
	"unsafe"

	"convoy/api"
	"convoy/drive"
)

// P2.2: Append neither changes nor keeps its bytes, nor their spare capacity.
func TestAppendedBytesAreNotKept(t *testing.T) {
	for _, size := range []int{0, 1, 5, 1000} {
		d := drive.New()
		b := sampleBytes(size)
		arg, memory := guarded(b)
		before := bytes.Clone(memory)
		ok(t, d.Append("a", arg))
		ok(t, d.Append("a", arg))
		ok(t, d.Append("b", arg))
		if !bytes.Equal(memory, before) {
			t.Errorf("P2.2: Append of %d bytes has changed them", size)
		}
		unchanged(t, "P2.2", d, func() { spoil(memory) })
		checkFile(t, d, "a", string(b)+string(b), 2*size)
		spoiled := bytes.Clone(memory)
		ok(t, d.Append("b", []byte("more")))
		if !bytes.Equal(memory, spoiled) {
			t.Errorf("P2.2: a later Append writes into the %d bytes of an earlier one", size)
		}
	}
}

// P2.2: Load neither changes nor keeps what it is given, and two drives that were given the same share nothing.
func TestLoadedFilesAreNotKept(t *testing.T) {
	arg, memory := guarded([]byte("12"))
	before := bytes.Clone(memory)
	names, files := []string{"b", "a", "c"}, [][]byte{arg, arg, nil}
	d, e := drive.Load(names, files)
	ok(t, e)
	x, e := drive.Load(names, files)
	ok(t, e)
	if !slices.Equal(names, []string{"b", "a", "c"}) || &files[0][0] != &arg[0] || files[2] != nil {
		t.Error("P2.2: Load has changed its lists")
	}
	unchanged(t, "P2.2", x, func() {
		ok(t, d.Append("a", []byte("3")))
		ok(t, d.Append("b", []byte("4")))
		ok(t, d.Sync("b"))
		ok(t, d.Delete("c"))
		ok(t, d.Arm(0))
	})
	checkFile(t, d, "a", "123", 1)
	checkFile(t, d, "b", "124", 0)
	if !bytes.Equal(memory, before) {
		t.Error("P2.2: the bytes that Load was given have changed")
	}
	spoil(memory)
	names[0], files[1] = "z", []byte("9")
	checkFile(t, x, "a", "12", 0)
	checkFile(t, x, "b", "12", 0)
	checkNames(t, x, "a", "b", "c")
}

// P2.2: what Read returns is new memory: neither the drive nor another result changes with it.
func TestReadBytesAreNewMemory(t *testing.T) {
	d := drive.New()
	for _, part := range []string{"", "1", "23", string(sampleBytes(999))} {
		ok(t, d.Append("a", []byte(part)))
		whole, e := d.Read("a")
		ok(t, e)
		second, _ := d.Read("a")
		before := bytes.Clone(whole)
		unchanged(t, "P2.2", d, func() { spoil(whole) })
		if !bytes.Equal(second, before) {
			t.Error("P2.2: two results of Read share memory")
		}
		ok(t, d.Append("a", []byte("4"))) // into the spare capacity, if it were shared
		ok(t, d.Append("a", []byte("5")))
		if !bytes.Equal(second, before) {
			t.Error("P2.2: a result of Read has changed with the file")
		}
		unchanged(t, "P2.2", d, func() { spoil(second) })
	}
}

// P2.2: a drive keeps copies of the names that it is given, in whichever way a file gets its name.
func TestNamesAreNotKept(t *testing.T) {
	name := string([]byte("name"))
	d := drive.New()
	check := func(d *drive.Drive, call string) {
		t.Helper()
		if l := d.Names(); len(l) != 1 || l[0] != name || unsafe.StringData(l[0]) == unsafe.StringData(name) {
			t.Errorf("P2.2: %s keeps the name that it was given: %q", call, l)
		}
	}
	ok(t, d.Append(name, nil))
	check(d, "Append")
	ok(t, d.Rename(name, name))
	check(d, "Rename to itself")
	ok(t, d.Rename(name, "other"))
	ok(t, d.Rename("other", name))
	check(d, "Rename")
	ok(t, d.Append("other", nil))
	ok(t, d.Rename("other", name))
	check(d, "Rename over a file")
	x, e := drive.Load([]string{name}, [][]byte{nil})
	ok(t, e)
	check(x, "Load")
}

// P2.2: a list of names is new memory.
func TestNamesAreNewMemory(t *testing.T) {
	d := looseFiles(t)
	unchanged(t, "P2.2", d, func() {
		l := d.Names()
		second := d.Names()
		clear(l[:cap(l)])
		if !slices.Equal(second, []string{"a", "b", "c", "d", "e"}) {
			t.Error("P2.2: two results of Names share memory")
		}
	})
}

// P2.2: Crash changes neither its numbers nor what lies behind them.
func TestKeepsAreNotChanged(t *testing.T) {
	memory := []int{1, 9, -1, 7, 8}
	x := looseFiles(t).Crash(memory[:3])
	if !slices.Equal(memory, []int{1, 9, -1, 7, 8}) {
		t.Errorf("P2.2: Crash has changed its argument: %v", memory)
	}
	unchanged(t, "P2.2", x, func() { clear(memory) })
}

// work executes a step of every sort on a drive of looseFiles, and arms it.
func work(t *testing.T, d *drive.Drive, b string) {
	t.Helper()
	ok(t, d.Append("e", []byte(b)))
	ok(t, d.Append("a", []byte(b+b)))
	ok(t, d.Append("new", []byte(b)))
	ok(t, d.Sync("b"))
	ok(t, d.Rename("d", "c"))
	ok(t, d.Delete("b"))
	ok(t, d.Arm(0))
}

// P2.2: a drive and what a loss of power leaves of it have nothing in common, nor have two that are left of one.
func TestDrivesAreApart(t *testing.T) {
	for _, keeps := range [][]int{nil, {1, 1, 1}, {9, 9, 9}} {
		d := looseFiles(t)
		x, y := d.Crash(keeps), d.Crash(keeps)
		z := x.Crash(nil)
		unchanged(t, "P2.2", d, func() {
			unchanged(t, "P2.2", y, func() {
				unchanged(t, "P2.2", z, func() { work(t, x, "X") })
			})
		})
		unchanged(t, "P2.2", x, func() {
			unchanged(t, "P2.2", y, func() {
				unchanged(t, "P2.2", z, func() { work(t, d, "D") })
			})
		})
		unchanged(t, "P2.2", x, func() {
			unchanged(t, "P2.2", d, func() { work(t, y, "Y"); work(t, z, "Z") })
		})
		checkFile(t, x, "a", "zXX", 2)
		checkFile(t, y, "a", "zYY", 2)
		checkFile(t, z, "a", "zZZ", 2)
		checkFile(t, d, "a", "zDD", 2)
	}
}

// P2.2: two new drives have nothing in common.
func TestNewDrivesAreApart(t *testing.T) {
	d, x := drive.New(), drive.New()
	ok(t, d.Append("a", []byte("1")))
	ok(t, d.Arm(0))
	checkNames(t, x)
	checkSteps(t, x, 0, false)
	want(t, "Sync", x.Sync("a"), api.ErrNone)
	ok(t, x.Append("a", []byte("2")))
	checkFile(t, d, "a", "1", 1)
}
