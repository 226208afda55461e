package manifest_test

import (
	"fmt"
	"math/rand"
	"testing"

	"convoy/api"
	"convoy/drive"
	"convoy/manifest"
)

// run is a manifest in use: the version behind the last change that returned OK, and the one that a change in progress would have made.
type run struct {
	m           *manifest.Manifest
	done, going api.Version
}

// begin opens a manifest.
func begin(d *drive.Drive) *run {
	m := manifest.Open(d)
	return &run{m, m.Version(), m.Version()}
}

// changes executes edits until the power is lost.
func (r *run) changes(t *testing.T, list []api.Edit) {
	t.Helper()
	for _, e := range list {
		after, code := manifest.Fit(r.done, e)
		if code != api.OK {
			t.Fatalf("%v does not fit %v", e, r.done)
		}
		r.going = after
		if code := r.m.Change(e); code != api.OK {
			want(t, "Change", code, api.ErrDead)
			return
		}
		r.done = after
	}
}

// checkLeft asks of what a loss of power has left that it has one of the two versions.
func (r *run) checkLeft(t *testing.T, d *drive.Drive, what string) *run {
	t.Helper()
	after := begin(d)
	if !same(after.done, r.done) && !same(after.done, r.going) {
		t.Fatalf("P8.2: %s: %s; want %s or %s", what, brief(after.done), brief(r.done), brief(r.going))
	}
	return after
}

// loose returns of each file with loose bytes how many they are.
func loose(d *drive.Drive) []int {
	var l []int
	for _, name := range d.Names() {
		if n := d.Loose(name); n > 0 {
			l = append(l, n)
		}
	}
	return l
}

// scripts are edits that follow one another, from the first version on.
var scripts = [][]api.Edit{
	{{}, {}, {}},
	{add(2, table(1, 0, "a", "c")), {Drop: []int{1}, Add: []api.Table{table(2, 1, "a", "c")}, Next: 3, Seq: 7}, {Log: 4}},
	{all(base), drop(3), drop(7, 2), add(20, table(19, 1, "a", "b"), table(18, 1, key(64), key(64))), drop(5)},
	{{Seq: 1}, {Seq: 1 << 62}, {Next: 1000000}, {Log: 999999}},
}

// checkPower runs a script with power for so many steps, and asks what is left, whatever is kept; also if the manifest was opened again behind some of the changes.
func checkPower(t *testing.T, what string, d *drive.Drive, script []api.Edit, reopen, steps int) {
	t.Helper()
	r := begin(d)
	r.changes(t, script[:reopen])
	if reopen > 0 {
		r = r.checkLeft(t, d, what)
	}
	arm(t, d, steps)
	r.changes(t, script[reopen:])
	left := loose(d)
	if len(left) > 1 {
		t.Fatalf("P8.2: %s: loose bytes in several files", what)
	}
	for keep := range append(left, 0)[0] + 1 {
		after := r.checkLeft(t, d.Crash([]int{keep}), fmt.Sprint(what, ", ", keep, " kept"))
		again := d.Crash([]int{keep})
		after.m = manifest.Open(again)
		after.changes(t, []api.Edit{{Seq: 1 << 62}})
		after.checkLeft(t, again.Crash(nil), fmt.Sprint(what, ", ", keep, " kept, and a change"))
		if !same(after.done, after.going) {
			t.Fatalf("P8.2: %s: a change behind the loss of power was rejected", what)
		}
	}
}

// P8.2: each script with a loss of power at each step, each number of loose bytes kept, on a new drive and on one that a loss of power has left.
func TestPowerIsLost(t *testing.T) {
	for i, script := range scripts {
		for reopen := range script {
			for steps := range 20 {
				what := fmt.Sprintf("script %d, opened at %d, %d steps", i, reopen, steps)
				checkPower(t, what, drive.New(), script, reopen, steps)
				used := loaded(t, "current", logFile(3), logFile(3), edits(api.Edit{})+edits(all(base))[:9], logFile(4), snapshot(base), "current.tmp", logFile(4)[:7], logFile(1), "old")
				checkPower(t, what+", on a used drive", used, script, reopen, steps)
			}
		}
	}
}

// P8.2: until the rename the old version is there, whatever is kept, and from the rename on the new one.
func TestPowerIsLostInSwitch(t *testing.T) {
	after, _ := manifest.Fit(base, drop(3))
	for steps := range 9 {
		_, d := began(t, base)
		want(t, "Append", d.Append("current.tmp", []byte("old")), api.OK)
		m := opened(t, "P8.2", d, base)
		arm(t, d, steps)
		m.Change(drop(3))
		v := base
		if steps >= 6 {
			v = after
		}
		for keep := range 400 {
			opened(t, "P8.2", d.Crash([]int{keep, keep}), v)
		}
		opened(t, "P8.2", d, v)
	}
}

// P8.2: of a later change half a frame counts as nothing; the next manifest writes to a log of its own.
func TestPowerIsLostInFrame(t *testing.T) {
	after, _ := manifest.Fit(base, drop(3))
	size := len(edits(drop(3)))
	for keep := range size + 2 {
		m, d := began(t, base)
		arm(t, d, 1)
		change(t, m, drop(3), api.ErrDead)
		v := base
		if keep >= size {
			v = after
		}
		left := d.Crash([]int{keep})
		m = opened(t, "P8.2", left, v)
		change(t, m, drop(7), api.OK)
		change(t, m, drop(5), api.OK)
		opened(t, "P8.2", left.Crash(nil), m.Version())
	}
}

// randomEdits returns edits that follow one another, from a version on.
func randomEdits(r *rand.Rand, v api.Version) []api.Edit {
	var list []api.Edit
	for range r.Intn(7) {
		e := api.Edit{Seq: v.Seq + r.Intn(3)}
		for _, x := range v.Tables {
			if r.Intn(3) == 0 {
				e.Drop = append(e.Drop, x.Number)
			}
		}
		for range r.Intn(3) {
			e.Next = max(v.Next, e.Next) + 1
			e.Add = append(e.Add, table(e.Next-1, r.Intn(2), key(r.Intn(9)), key(9+r.Intn(50))))
		}
		list = append(list, e)
		v, _ = manifest.Fit(v, e)
	}
	return list
}

// P8.2: power is lost again and again, also right behind an opening.
func TestPowerIsLostAgain(t *testing.T) {
	r := rand.New(rand.NewSource(4))
	for i := range 500 {
		d := drive.New()
		log := begin(d)
		for j := range 15 {
			if r.Intn(4) > 0 {
				arm(t, d, r.Intn(16))
			}
			log.changes(t, randomEdits(r, log.done))
			keeps := []int{r.Intn(400) - 50, r.Intn(9), 9}
			d = d.Crash(keeps)
			log = log.checkLeft(t, d, fmt.Sprintf("run %d, crash %d, %v kept", i, j, keeps))
		}
	}
}
