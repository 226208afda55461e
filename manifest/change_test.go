package manifest_test

import (
	"fmt"
	"testing"

	"convoy/api"
	"convoy/drive"
	"convoy/manifest"
)

// op is a step that a change must execute.
type op func(d *drive.Drive) api.Errno

func appends(name, b string) op {
	return func(d *drive.Drive) api.Errno { return d.Append(name, []byte(b)) }
}

func syncs(name string) op {
	return func(d *drive.Drive) api.Errno { return d.Sync(name) }
}

func deletes(name string) op {
	return func(d *drive.Drive) api.Errno { return d.Delete(name) }
}

func renames(from, to string) op {
	return func(d *drive.Drive) api.Errno { return d.Rename(from, to) }
}

// switches returns the steps of a switch to a log.
func switches(log int, v api.Version) []op {
	name := logFile(log)
	return []op{appends(name, snapshot(v)), syncs(name), appends("current.tmp", name), syncs("current.tmp"), renames("current.tmp", "current")}
}

// longEdit fits each version with room for its tables, and has a payload of more than MaxPayload bytes.
func longEdit(next int) api.Edit {
	e := api.Edit{Next: next}
	for n := next - 31; n < next; n++ {
		e.Add = append(e.Add, table(n, 1, key(64), key(64)))
	}
	return e
}

// checkOps asks that a change executes just these steps in this order, with the power on for each number of steps; make makes the manifest and its drive again and again.
func checkOps(t *testing.T, make func() (*manifest.Manifest, *drive.Drive), e api.Edit, ops ...op) {
	t.Helper()
	for n := range len(ops) + 3 {
		m, d := make()
		_, expected := make()
		before := m.Version()
		steps := d.Steps()
		arm(t, d, n)
		for _, o := range ops[:min(n, len(ops))] {
			want(t, "a step", o(expected), api.OK)
		}
		code, version := api.ErrDead, before
		if n >= len(ops) {
			code = api.OK
			version, _ = manifest.Fit(before, e)
		}
		change(t, m, e, code)
		checkVersion(t, "P8.1: Version", m.Version(), version)
		if got, want := files(d), files(expected); got != want || d.Steps() != steps+min(n, len(ops)) {
			t.Errorf("P8.1: %d steps of %v: files %s (%d steps); want %s", n, e, got, d.Steps()-steps, want)
		}
		if code != api.OK {
			checkDead(t, m, d)
		}
	}
}

// checkDead asks that a manifest is dead: it goes on telling earlier errors, its version and what is left over, and does nothing.
func checkDead(t *testing.T, m *manifest.Manifest, d *drive.Drive) {
	t.Helper()
	for range 2 {
		refused(t, m, d, api.Edit{}, api.ErrDead)
		refused(t, m, d, api.Edit{Seq: 1 << 62}, api.ErrDead)
		refused(t, m, d, drop(999999), api.ErrManifest)
		refused(t, m, d, longEdit(900000), api.ErrLong)
		unchanged(t, "P8.1", d, func() { m.Orphans() })
	}
}

// P8.1: the first change on a new drive executes the steps of the switch.
func TestSwitchOnNewDrive(t *testing.T) {
	fresh := func() (*manifest.Manifest, *drive.Drive) {
		d := drive.New()
		return manifest.Open(d), d
	}
	one := add(2, table(1, 0, "a", "c"))
	checkOps(t, fresh, one, switches(1, api.Version{Tables: one.Add, Next: 2, Log: 1})...)
	checkOps(t, fresh, all(base), switches(1, base)...)
	checkOps(t, fresh, api.Edit{}, switches(1, firstVersion)...)
}

// P8.1: a switch deletes an old current.tmp first, and at last all other logs in the order of their numbers; nothing else.
func TestSwitchOnUsedDrive(t *testing.T) {
	after := base
	after.Seq = 101
	for _, old := range []string{"", "manifest-000009", "any bytes"} {
		used := func() (*manifest.Manifest, *drive.Drive) {
			d := loaded(t, "current", logFile(9), "current.tmp", old, logFile(9), edits(all(base)), logFile(10), "x", logFile(2), "", logFile(100), edits(later),
				"sst-000003", "", "sst-000004", "", "manifest-000000", "", "manifest-1", "", "manifest-0000001", "", "wal-000001", "w")
			want(t, "Append", d.Append("current.tmp", []byte(old)), api.OK)
			return manifest.Open(d), d
		}
		ops := append([]op{deletes("current.tmp")}, switches(101, after)...)
		ops = append(ops, deletes(logFile(2)), deletes(logFile(9)), deletes(logFile(10)), deletes(logFile(100)))
		checkOps(t, used, api.Edit{Seq: 101}, ops...)
	}
}

// P8.1: a later change appends the edit's frame to the log, and syncs it; also one that changes nothing.
func TestLaterChanges(t *testing.T) {
	begun := func() (*manifest.Manifest, *drive.Drive) { return began(t, base) }
	for _, e := range []api.Edit{{}, {Seq: 100}, drop(3, 2), add(20, table(19, 0, "x", "y"), table(18, 1, "", "")), {Drop: []int{7}, Add: []api.Table{table(4, 1, "", "z")}, Next: 9, Log: 5, Seq: 1 << 62}} {
		checkOps(t, begun, e, appends(logFile(1), edits(e)), syncs(logFile(1)))
	}
	third := func() (*manifest.Manifest, *drive.Drive) {
		m, d := began(t, base)
		change(t, m, drop(3), api.OK)
		want(t, "Append", d.Append("current.tmp", nil), api.OK) // only a switch deletes it,
		want(t, "Append", d.Append(logFile(2), nil), api.OK)    // and other logs
		return m, d
	}
	checkOps(t, third, drop(2), appends(logFile(1), edits(drop(2))), syncs(logFile(1)))
}

// P8.1: the bytes of the files, change by change, and those of the log of the next manifest.
func TestFilesBehindChanges(t *testing.T) {
	m, d := began(t, base)
	log := snapshot(base)
	checkFile(t, d, "current", logFile(1))
	checkFile(t, d, logFile(1), log)
	for i, e := range []api.Edit{drop(3), {}, {Seq: 300}, add(9, table(8, 0, "", "")), {Drop: []int{8}}} {
		takes(t, d, 2, func() { change(t, m, e, api.OK) })
		log += edits(e)
		checkFile(t, d, logFile(1), log)
		checkNames(t, d, "current", logFile(1))
		opened(t, fmt.Sprint("P8.1: change ", i), d, m.Version())
	}
	checkFile(t, d, "current", logFile(1))
	v := m.Version()
	m = opened(t, "P8.1", d, v)
	takes(t, d, 6, func() { change(t, m, drop(7), api.OK) })
	v.Tables = v.Tables[1:]
	checkFile(t, d, "current", logFile(2))
	checkFile(t, d, logFile(2), snapshot(v))
	checkNames(t, d, "current", logFile(2))
}

// P8.1: the chapter's example.
func TestExample(t *testing.T) {
	d := drive.New()
	m := opened(t, "P8.1", d, firstVersion)
	one, two := table(1, 0, "a", "c"), table(2, 1, "a", "c")
	refused(t, m, d, add(0, one), api.ErrManifest)
	change(t, m, add(2, one), api.OK)
	checkNames(t, d, "current", "manifest-000001")
	checkFile(t, d, "current", "manifest-000001")
	checkVersion(t, "P8.1: Version", m.Version(), api.Version{Tables: []api.Table{one}, Next: 2, Log: 1})
	change(t, m, api.Edit{Drop: []int{1}, Add: []api.Table{two}, Next: 3}, api.OK)
	v := api.Version{Tables: []api.Table{two}, Next: 3, Log: 1}
	checkVersion(t, "P8.1: Version", m.Version(), v)
	want(t, "Append", d.Append("sst-000001", nil), api.OK)
	checkOrphans(t, m, "sst-000001")
	m = opened(t, "P8.1", d, v)
	change(t, m, api.Edit{}, api.OK)
	checkNames(t, d, "current", "manifest-000002", "sst-000001")
	checkFile(t, d, "current", "manifest-000002")
}

// P8.1: changes that are refused leave the first change the first one, and the log as it is.
func TestRefusedChanges(t *testing.T) {
	d := drive.New()
	m := manifest.Open(d)
	for range 2 {
		refused(t, m, d, drop(1), api.ErrManifest)
		refused(t, m, d, api.Edit{Next: -1}, api.ErrManifest)
		refused(t, m, d, longEdit(40), api.ErrLong)
	}
	checkNames(t, d)
	takes(t, d, 5, func() { change(t, m, all(base), api.OK) })
	refused(t, m, d, drop(1), api.ErrManifest)
	refused(t, m, d, longEdit(50), api.ErrLong)
	checkFile(t, d, logFile(1), snapshot(base))
	takes(t, d, 2, func() { change(t, m, drop(3), api.OK) })
	checkFile(t, d, logFile(1), snapshot(base)+edits(drop(3)))
}

// P8.1: the payload of an edit has at most MaxPayload bytes, that of the first change as well.
func TestLongEdits(t *testing.T) {
	for _, size := range []int{4095, 4096, 4097, 4098} {
		e := api.Edit{Next: 100}
		for n := 40; len(payload(e)) < size-150; n++ {
			e.Add = append(e.Add, table(n, 1, key(64), key(64)))
		}
		e.Add = append(e.Add, table(1, 0, "", ""), table(4, 0, "", ""))
		for len(payload(e)) < size {
			last := &e.Add[len(e.Add)-1-len(payload(e))%2]
			last.Last += "k"
		}
		code := api.OK
		if size > 4096 {
			code = api.ErrLong
		}
		d := drive.New()
		m := manifest.Open(d)
		change(t, m, e, code)
		m, d = began(t, base)
		change(t, m, e, code)
		if code == api.OK {
			checkFile(t, d, logFile(1), snapshot(base)+edits(e))
		}
		opened(t, "P8.1", d, m.Version())
	}
}

// P8.1: ErrFull if the log's number would be above the last one: behind ErrManifest and ErrLong, ahead of all steps.
func TestNumbersExhausted(t *testing.T) {
	d := loaded(t, "current", logFile(999999), logFile(999999), edits(all(base)), "current.tmp", "x")
	m := opened(t, "P8.1", d, base)
	for range 2 {
		refused(t, m, d, api.Edit{}, api.ErrFull)
		refused(t, m, d, drop(1), api.ErrManifest)
		refused(t, m, d, longEdit(900000), api.ErrLong)
		arm(t, d, 1)
	}
	checkOrphans(t, m, "current.tmp")
	d = loaded(t, "current", logFile(999998), logFile(999998), edits(all(base)))
	m = opened(t, "P8.1", d, base)
	change(t, m, drop(3), api.OK)
	change(t, m, drop(2), api.OK)
	checkFile(t, d, "current", logFile(999999))
	checkNames(t, d, "current", logFile(999999))
	refused(t, opened(t, "P8.1", d, m.Version()), d, api.Edit{}, api.ErrFull)
}

// P8.1: ErrFull is told ahead of a dead drive, which no step has met.
func TestNumbersExhaustedOnDeadDrive(t *testing.T) {
	d := loaded(t, logFile(999999), "")
	arm(t, d, 0)
	refused(t, manifest.Open(d), d, api.Edit{}, api.ErrFull)
}

// P8.1: a drive that rejects a step because it has no room makes the manifest dead as well; what was written remains, and a manifest that is opened then goes on.
func TestDriveIsFull(t *testing.T) {
	for free := range 3 {
		d := drive.New()
		m := manifest.Open(d)
		crowd(t, d, 256-free)
		if free == 2 {
			change(t, m, all(base), api.OK)
			continue
		}
		takes(t, d, 2*free, func() { change(t, m, all(base), api.ErrDead) })
		checkVersion(t, "P8.1: Version", m.Version(), firstVersion)
		if free == 1 {
			checkFile(t, d, logFile(1), snapshot(base))
			checkOrphans(t, m, logFile(1))
			want(t, "Delete", d.Delete("crowd-1"), api.OK)
		}
		want(t, "Delete", d.Delete("crowd-0"), api.OK)
		checkDead(t, m, d)
		if free == 1 {
			m = opened(t, "P8.1", d, firstVersion)
			change(t, m, all(base), api.OK)
			checkFile(t, d, "current", logFile(2))
			checkOrphans(t, m)
		}
	}
}

// P8.1: so does a log that has as many bytes as a file may have; opened again, the version has room in a log of its own.
func TestLogIsFull(t *testing.T) {
	m, d := began(t, base)
	long := longEdit(100)
	long.Add = long.Add[:30]
	back := api.Edit{}
	for _, x := range long.Add {
		back.Drop = append(back.Drop, x.Number)
	}
	log := snapshot(base)
	for i := 0; ; i++ {
		e := long
		if i%2 == 1 {
			e = back
		}
		if len(log)+len(edits(e)) > api.MaxFile {
			v := m.Version()
			takes(t, d, 0, func() { change(t, m, e, api.ErrDead) })
			checkDead(t, m, d)
			checkFile(t, d, logFile(1), log)
			m = opened(t, "P8.1", d, v)
			change(t, m, e, api.OK)
			opened(t, "P8.1", d, m.Version())
			return
		}
		change(t, m, e, api.OK)
		log += edits(e)
	}
}
