package drive_test

import (
	"math"
	"testing"

	"convoy/api"
	"convoy/drive"
)

// looseFiles returns a drive with files made in another order than that of their names: b, d and e have loose bytes, a and c have none.
func looseFiles(t *testing.T) *drive.Drive {
	t.Helper()
	d := drive.New()
	ok(t, d.Append("e", []byte("567")))
	ok(t, d.Append("d", []byte("34")))
	ok(t, d.Append("c", nil))
	ok(t, d.Append("b", []byte("xy")))
	ok(t, d.Sync("b"))
	ok(t, d.Append("b", []byte("12")))
	ok(t, d.Append("a", []byte("z")))
	ok(t, d.Sync("a"))
	return d
}

// P2.1: the files with loose bytes, and they alone, take their numbers from keeps, in the order of their names.
func TestCrashKeeps(t *testing.T) {
	d := looseFiles(t)
	for _, c := range []struct {
		keeps   []int
		b, d, e string
	}{
		{nil, "xy", "", ""},
		{[]int{}, "xy", "", ""},
		{[]int{0, 0, 0}, "xy", "", ""},
		{[]int{1}, "xy1", "", ""},
		{[]int{2}, "xy12", "", ""},
		{[]int{3}, "xy12", "", ""},
		{[]int{0, 1}, "xy", "3", ""},
		{[]int{0, 0, 2}, "xy", "", "56"},
		{[]int{1, 1, 1}, "xy1", "3", "5"},
		{[]int{2, 2, 3}, "xy12", "34", "567"},
		{[]int{2, 2, 3, 4, 5}, "xy12", "34", "567"},
		{[]int{-1, -2, 1}, "xy", "", "5"},
		{[]int{math.MaxInt, math.MinInt, math.MaxInt}, "xy12", "", "567"},
		{[]int{math.MinInt, math.MaxInt, math.MinInt}, "xy", "34", ""},
	} {
		x := d.Crash(c.keeps)
		checkNames(t, x, "a", "b", "c", "d", "e")
		checkFile(t, x, "a", "z", 0)
		checkFile(t, x, "b", c.b, 0)
		checkFile(t, x, "c", "", 0)
		checkFile(t, x, "d", c.d, 0)
		checkFile(t, x, "e", c.e, 0)
		checkSteps(t, x, 0, false)
	}
}

// P2.1: the drive itself is unchanged by a crash: its loose bytes, its steps, and those that it has left.
func TestCrashLeavesTheDrive(t *testing.T) {
	d := looseFiles(t)
	ok(t, d.Arm(1))
	unchanged(t, "P2.1", d, func() { d.Crash(nil); d.Crash([]int{1, 1, 1}); d.Crash([]int{9, 9, 9}) })
	checkFile(t, d, "e", "567", 3)
	ok(t, d.Sync("e"))
	checkSteps(t, d, 9, true)
	unchanged(t, "P2.1", d, func() { d.Crash(nil) })
	checkFile(t, d.Crash([]int{0, 1, 1}), "e", "567", 0)
}

// P2.1: the new drive isn't armed, be the old one armed or dead, and its own steps count from none.
func TestCrashDisarms(t *testing.T) {
	for n := range 3 {
		d := drive.New()
		ok(t, d.Append("a", []byte("1")))
		ok(t, d.Arm(n))
		x := d.Crash([]int{1})
		for i := range 10 {
			checkSteps(t, x, i, false)
			ok(t, x.Append("a", []byte("2")))
		}
		checkFile(t, x, "a", "12222222222", 10)
		ok(t, x.Arm(1))
		ok(t, x.Sync("a"))
		checkSteps(t, x, 11, true)
		checkSteps(t, d, 1, n == 0)
	}
}

// P2.1: after a crash all bytes are synced: another one takes none, whatever it keeps.
func TestCrashAgain(t *testing.T) {
	x := looseFiles(t).Crash([]int{1, 1, 1})
	for _, keeps := range [][]int{nil, {0}, {-1, -1, -1, -1, -1}, {9, 9, 9}} {
		y := x.Crash(keeps)
		checkFile(t, y, "b", "xy1", 0)
		checkFile(t, y, "e", "5", 0)
		ok(t, y.Append("b", []byte("9")))
		checkFile(t, y, "b", "xy19", 1)
		checkFile(t, y.Crash(nil), "b", "xy1", 0)
		checkFile(t, y.Crash([]int{1}), "b", "xy19", 0)
	}
}

// P2.1: that a file exists, its name, and its removal are durable at once.
func TestNamesAreDurable(t *testing.T) {
	d := drive.New()
	ok(t, d.Append("a", []byte("1")))
	ok(t, d.Append("b", nil))
	checkNames(t, d.Crash(nil), "a", "b")
	ok(t, d.Sync("a"))
	ok(t, d.Append("c", []byte("2")))
	ok(t, d.Rename("c", "a"))
	x := d.Crash(nil)
	checkNames(t, x, "a", "b")
	checkFile(t, x, "a", "", 0) // the synced bytes were those of the file that is gone
	checkFile(t, d.Crash([]int{1}), "a", "2", 0)
	ok(t, d.Rename("b", "z"))
	checkNames(t, d.Crash(nil), "a", "z")
	ok(t, d.Delete("a"))
	checkNames(t, d.Crash([]int{9}), "z")
}

// P2.1: the names as they are now say which file takes which number, not those that the files were made with.
func TestCrashAfterRename(t *testing.T) {
	d := drive.New()
	ok(t, d.Append("a", []byte("12")))
	ok(t, d.Append("b", []byte("34")))
	ok(t, d.Rename("a", "c"))
	x := d.Crash([]int{1, 2})
	checkFile(t, x, "b", "3", 0)
	checkFile(t, x, "c", "12", 0)
	checkNoFile(t, x, "a", api.ErrNone)
}
