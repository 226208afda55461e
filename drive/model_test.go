package drive_test

import (
	"math/rand"
	"slices"
	"strconv"
	"strings"
	"testing"

	"convoy/api"
	"convoy/drive"
)

// row is a file of the model: its synced and its loose bytes as texts.
type row struct{ name, synced, loose string }

// model is a drive as the chapter tells it: rows in any order, and the steps that are left (-1: not armed).
type model struct {
	rows  []row
	steps int
	left  int
}

func (m *model) find(name string) int {
	return slices.IndexFunc(m.rows, func(r row) bool { return r.name == name })
}

func (m *model) step(do func()) api.Errno {
	if m.left == 0 {
		return api.ErrDead
	}
	if m.left > 0 {
		m.left--
	}
	m.steps++
	do()
	return api.OK
}

func goodName(name string) bool {
	return len(name) >= 1 && len(name) <= 32 && strings.Trim(name, "abcdefghijklmnopqrstuvwxyz0123456789-.") == ""
}

func (m *model) append(name, b string) api.Errno {
	i := m.find(name)
	switch {
	case !goodName(name):
		return api.ErrName
	case i < 0 && len(m.rows) == 256, i < 0 && len(b) > 1<<18:
		return api.ErrFull
	case i >= 0 && len(m.rows[i].synced+m.rows[i].loose+b) > 1<<18:
		return api.ErrFull
	}
	return m.step(func() {
		if i < 0 {
			m.rows = append(m.rows, row{name: name})
			i = len(m.rows) - 1
		}
		m.rows[i].loose += b
	})
}

// onFile executes a step on a file that must exist.
func (m *model) onFile(name string, do func(i int)) api.Errno {
	i := m.find(name)
	if !goodName(name) {
		return api.ErrName
	}
	if i < 0 {
		return api.ErrNone
	}
	return m.step(func() { do(i) })
}

func (m *model) sync(name string) api.Errno {
	return m.onFile(name, func(i int) { m.rows[i] = row{name, m.rows[i].synced + m.rows[i].loose, ""} })
}

func (m *model) delete(name string) api.Errno {
	return m.onFile(name, func(i int) { m.rows = slices.Delete(m.rows, i, i+1) })
}

func (m *model) rename(from, to string) api.Errno {
	if !goodName(to) {
		return api.ErrName
	}
	return m.onFile(from, func(i int) {
		r := m.rows[i]
		r.name = to
		m.rows = append(slices.DeleteFunc(m.rows, func(x row) bool { return x.name == from || x.name == to }), r)
	})
}

func (m *model) arm(n int) api.Errno {
	if n < 0 {
		return api.ErrRange
	}
	if m.left == 0 {
		return api.ErrDead
	}
	m.left = n
	return api.OK
}

func (m *model) sorted() []row {
	rows := slices.Clone(m.rows)
	slices.SortFunc(rows, func(a, b row) int { return strings.Compare(a.name, b.name) })
	return rows
}

func (m *model) crash(keeps []int) *model {
	after := &model{left: -1}
	i := 0
	for _, r := range m.sorted() {
		n := 0
		if r.loose != "" {
			if i < len(keeps) && keeps[i] > 0 {
				n = min(keeps[i], len(r.loose))
			}
			i++
		}
		after.rows = append(after.rows, row{name: r.name, synced: r.synced + r.loose[:n]})
	}
	return after
}

// picture tells of the model what picture tells of a drive.
func (m *model) picture() string {
	s := ""
	for _, r := range m.sorted() {
		b := r.synced + r.loose
		s += r.name + " " + brief(b) + " 0 " + strconv.Itoa(len(b)) + " " + strconv.Itoa(len(r.loose)) + "; "
	}
	return s + strconv.Itoa(m.steps) + " " + strconv.FormatBool(m.left == 0)
}

// names of the model's runs: some that no file may have, the others few, so that they meet.
var modelNames = []string{"a", "b", "c", "a-1", "a.1", "zz", "", "A", "a b"}

// act executes one call, chosen at random, on a drive and on its model.
func act(r *rand.Rand, d *drive.Drive, m *model) (what string, got, want api.Errno) {
	name, other := modelNames[r.Intn(len(modelNames))], modelNames[r.Intn(len(modelNames))]
	n := r.Intn(6)
	switch r.Intn(12) {
	case 0, 1, 2, 3:
		b := sampleBytes(n)
		return "Append " + name, d.Append(name, b), m.append(name, string(b))
	case 4, 5, 6:
		return "Sync " + name, d.Sync(name), m.sync(name)
	case 7, 8:
		return "Rename " + name + " " + other, d.Rename(name, other), m.rename(name, other)
	case 9:
		return "Delete " + name, d.Delete(name), m.delete(name)
	case 10:
		n = r.Intn(30) - 1
		return "Arm " + strconv.Itoa(n), d.Arm(n), m.arm(n)
	}
	size := r.Intn(2) * (api.MaxFile - r.Intn(3))
	return "Append " + name + " of " + strconv.Itoa(size), d.Append(name, make([]byte, size)), m.append(name, string(make([]byte, size)))
}

// past is a drive that has been left, with what it answered then.
type past struct {
	d       *drive.Drive
	picture string
}

// same asks that a drive answers as its model.
func same(t *testing.T, d *drive.Drive, m *model, log []string) {
	t.Helper()
	if got, want := picture(d), m.picture(); got != want {
		t.Fatalf("P2.1: %v: %.300s; want %.300s", log, got, want)
	}
}

// P2.1, P2.2: drives in random calls and crashes answer as the model does, and older drives remain as they were left.
func TestAgainstModel(t *testing.T) {
	r := rand.New(rand.NewSource(3))
	for range 100 {
		d, m := drive.New(), &model{left: -1}
		var log []string
		var left []past
		for range 60 {
			what, got, want := act(r, d, m)
			log = append(log, what)
			if got != want {
				t.Fatalf("P2.1: %v: %d; want %d", log, got, want)
			}
			same(t, d, m, log)
			if r.Intn(8) > 0 {
				continue
			}
			keeps := make([]int, r.Intn(5))
			for i := range keeps {
				keeps[i] = r.Intn(9) - 2
			}
			log = append(log, "Crash")
			left = append(left, past{d, m.picture()})
			d, m = d.Crash(keeps), m.crash(keeps)
			same(t, d, m, log)
		}
		for _, p := range left {
			if now := picture(p.d); now != p.picture {
				t.Fatalf("P2.2: %v: a drive that was left has changed from %.300s to %.300s", log, p.picture, now)
			}
		}
	}
}
