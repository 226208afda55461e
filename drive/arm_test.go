package drive_test

import (
	"math"
	"testing"

	"convoy/api"
	"convoy/drive"
)

// P2.1: a step is an Append, Sync, Rename or Delete that is executed; nothing else counts.
func TestSteps(t *testing.T) {
	d := drive.New()
	steps := 0
	step := func(e api.Errno) {
		t.Helper()
		steps++
		ok(t, e)
		checkSteps(t, d, steps, false)
	}
	step(d.Append("a", []byte("1")))
	step(d.Append("a", nil))
	step(d.Sync("a"))
	step(d.Sync("a"))
	step(d.Rename("a", "b"))
	step(d.Rename("b", "b"))
	step(d.Delete("b"))
	step(d.Append("a", nil))
	unchanged(t, "P2.1", d, func() {
		d.Append("A", nil)
		d.Append("a", make([]byte, api.MaxFile+1))
		d.Sync("b")
		d.Rename("b", "a")
		d.Rename("a", "A")
		d.Delete("b")
		d.Read("a")
		d.Size("a")
		d.Loose("a")
		d.Names()
		d.Arm(-1)
		ok(t, d.Arm(9))
		d.Crash(nil)
	})
}

// kill arms a drive so that it is dead after the steps that it has executed.
func kill(t *testing.T, d *drive.Drive) {
	t.Helper()
	ok(t, d.Arm(0))
	if !d.Dead() {
		t.Error("P2.1: a drive with no step left isn't dead")
	}
}

// P2.1: a dead drive executes no step, tells a later error only where no earlier one stands, and answers as before.
func TestDead(t *testing.T) {
	d := drive.New()
	ok(t, d.Append("a", []byte("12")))
	ok(t, d.Sync("a"))
	ok(t, d.Append("a", []byte("3")))
	kill(t, d)
	for _, c := range []struct {
		what string
		call func() api.Errno
		code api.Errno
	}{
		{"Append", func() api.Errno { return d.Append("a", []byte("4")) }, api.ErrDead},
		{"Append of none", func() api.Errno { return d.Append("a", nil) }, api.ErrDead},
		{"Append to a new file", func() api.Errno { return d.Append("b", []byte("4")) }, api.ErrDead},
		{"Append, too long", func() api.Errno { return d.Append("a", make([]byte, api.MaxFile)) }, api.ErrFull},
		{"Append to a new file, too long", func() api.Errno { return d.Append("b", make([]byte, api.MaxFile+1)) }, api.ErrFull},
		{"Sync", func() api.Errno { return d.Sync("a") }, api.ErrDead},
		{"Sync of none", func() api.Errno { return d.Sync("b") }, api.ErrNone},
		{"Rename", func() api.Errno { return d.Rename("a", "b") }, api.ErrDead},
		{"Rename to itself", func() api.Errno { return d.Rename("a", "a") }, api.ErrDead},
		{"Rename of none", func() api.Errno { return d.Rename("b", "a") }, api.ErrNone},
		{"Delete", func() api.Errno { return d.Delete("a") }, api.ErrDead},
		{"Delete of none", func() api.Errno { return d.Delete("b") }, api.ErrNone},
		{"Arm(-1)", func() api.Errno { return d.Arm(-1) }, api.ErrRange},
		{"Arm(0)", func() api.Errno { return d.Arm(0) }, api.ErrDead},
		{"Arm(5)", func() api.Errno { return d.Arm(5) }, api.ErrDead},
	} {
		rejected(t, c.what, d, c.call, c.code)
	}
	checkSteps(t, d, 3, true)
	checkNames(t, d, "a")
	checkFile(t, d, "a", "123", 1)
	checkFile(t, d.Crash([]int{1}), "a", "123", 0)
	checkNoFile(t, d, "b", api.ErrNone)
	checkNoFile(t, d, "B", api.ErrName)
	many := full(t)
	kill(t, many)
	rejected(t, "Append", many, func() api.Errno { return many.Append("a", nil) }, api.ErrFull)
}

// P2.1: an armed drive executes so many steps, of any sort, and is dead as soon as none is left; rejected calls don't use them up.
func TestArm(t *testing.T) {
	for n := range 6 {
		d := drive.New()
		ok(t, d.Append("a", nil))
		ok(t, d.Arm(n))
		for i, call := range []func() api.Errno{
			func() api.Errno { return d.Append("a", []byte("1")) },
			func() api.Errno { return d.Sync("a") },
			func() api.Errno { return d.Rename("a", "b") },
			func() api.Errno { return d.Append("a", nil) },
			func() api.Errno { return d.Delete("b") },
			func() api.Errno { return d.Sync("a") },
		} {
			checkSteps(t, d, 1+min(i, n), i >= n)
			unchanged(t, "P2.1", d, func() { d.Sync("c"); d.Append("A", nil); d.Delete("c"); d.Rename("c", "a"); d.Read("a") })
			if i < n {
				ok(t, call())
				continue
			}
			unchanged(t, "P2.1", d, func() { call() })
		}
		checkSteps(t, d, 1+n, true)
	}
}

// P2.1: armed again while it is alive, a drive has the new number of steps left, be it more or fewer.
func TestArmAgain(t *testing.T) {
	d := drive.New()
	step := func() api.Errno { return d.Append("a", []byte("1")) }
	ok(t, d.Arm(1))
	ok(t, d.Arm(3))
	ok(t, step())
	ok(t, step())
	checkSteps(t, d, 2, false)
	ok(t, d.Arm(math.MaxInt))
	ok(t, step())
	ok(t, step())
	rejected(t, "Arm", d, func() api.Errno { return d.Arm(-1) }, api.ErrRange)
	rejected(t, "Arm", d, func() api.Errno { return d.Arm(math.MinInt) }, api.ErrRange)
	ok(t, step())
	ok(t, d.Arm(1))
	ok(t, step())
	checkSteps(t, d, 6, true)
	rejected(t, "Append", d, step, api.ErrDead)
	rejected(t, "Arm", d, func() api.Errno { return d.Arm(1) }, api.ErrDead)
}

// P2.1: an Arm that is rejected leaves the drive unarmed, and a drive that isn't armed doesn't die.
func TestNotArmed(t *testing.T) {
	d := drive.New()
	want(t, "Arm", d.Arm(-1), api.ErrRange)
	for range 1000 {
		ok(t, d.Append("a", []byte("1")))
	}
	checkSteps(t, d, 1000, false)
}
