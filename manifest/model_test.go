package manifest_test

import (
	"encoding/binary"
	"fmt"
	"math/rand"
	"regexp"
	"slices"
	"strconv"
	"strings"
	"testing"

	"convoy/api"
	"convoy/drive"
	"convoy/manifest"
)

// model is a manifest as the chapter tells it, with a drive of its own.
type model struct {
	d           *drive.Drive
	v           api.Version
	log         int
	begun, dead bool
	known       map[string]api.Edit // by payloads: the edits that may have been written
}

// isVersion tells whether something is a version.
func isVersion(v api.Version) bool {
	for i, x := range v.Tables {
		if x.Level < 0 || x.Level > 1 || x.Number < 1 || x.Number > 999999 || x.Number >= v.Next || x.First > x.Last || len(x.First) > 64 || len(x.Last) > 64 {
			return false
		}
		for _, y := range v.Tables[:i] {
			if y.Number == x.Number || y.Level > x.Level || y.Level == x.Level && y.Number > x.Number {
				return false
			}
		}
	}
	return v.Next >= 1 && v.Next <= 1000000 && v.Log >= 1 && v.Log <= 999999 && v.Seq >= 0 && v.Seq <= 1<<62
}

// fit tells what an edit makes of a version, and whether it fits.
func fit(v api.Version, e api.Edit) (api.Version, bool) {
	after := api.Version{Next: v.Next, Log: v.Log, Seq: v.Seq}
	after.Tables = slices.Clone(v.Tables)
	for _, n := range e.Drop {
		i := slices.IndexFunc(after.Tables, func(x api.Table) bool { return x.Number == n })
		if i < 0 {
			return after, false
		}
		after.Tables = slices.Delete(after.Tables, i, i+1)
	}
	after.Tables = append(after.Tables, e.Add...)
	slices.SortFunc(after.Tables, func(x, y api.Table) int {
		if x.Level != y.Level {
			return x.Level - y.Level
		}
		return x.Number - y.Number
	})
	for _, n := range []struct {
		at     *int
		number int
	}{{&after.Next, e.Next}, {&after.Log, e.Log}, {&after.Seq, e.Seq}} {
		if n.number != 0 {
			if n.number < *n.at {
				return after, false
			}
			*n.at = n.number
		}
	}
	return after, isVersion(after)
}

// numbered are the names of files with a number.
var numbered = regexp.MustCompile("^(sst|manifest)-([0-9]{6})$")

// number returns the number in a name that begins so; 0 if it is none.
func number(begin, name string) int {
	found := numbered.FindStringSubmatch(name)
	if found == nil || found[1] != begin {
		return 0
	}
	n, _ := strconv.Atoi(found[2])
	return n
}

// logs returns the names of all logs.
func (m *model) logs() []string {
	return slices.DeleteFunc(m.d.Names(), func(name string) bool { return number("manifest", name) == 0 })
}

// current returns the name of the current log, or none.
func (m *model) current() string {
	b, _ := m.d.Read("current")
	if slices.Contains(m.logs(), string(b)) {
		return string(b)
	}
	return ""
}

// scanned returns the payloads of the frames with which b begins.
func scanned(b string) []string {
	var l []string
	for {
		size, n := binary.Uvarint([]byte(b[:min(10, len(b))]))
		if n <= 0 || size > 4096 || n+4+int(size) > len(b) {
			return l
		}
		p := b[n+4 : n+4+int(size)]
		if !strings.HasPrefix(b, framed(p)) {
			return l
		}
		l = append(l, p)
		b = b[len(framed(p)):]
	}
}

// open opens the manifest on a drive.
func (m *model) open(d *drive.Drive) {
	m.d, m.v, m.log, m.begun, m.dead = d, firstVersion, 1, false, false
	for _, name := range m.logs() {
		m.log = number("manifest", name) + 1
	}
	b, _ := d.Read(m.current())
	for _, p := range scanned(string(b)) {
		e, there := m.known[p]
		after, fits := fit(m.v, e)
		if !there || !fits {
			return
		}
		m.v = after
	}
}

// change makes a change.
func (m *model) change(e api.Edit) api.Errno {
	after, fits := fit(m.v, e)
	switch {
	case !fits:
		return api.ErrManifest
	case len(payload(e)) > 4096:
		return api.ErrLong
	case m.log > 999999:
		return api.ErrFull
	case m.dead:
		return api.ErrDead
	}
	for _, x := range append(parts(after), e) {
		m.known[payload(x)] = x
	}
	name := logFile(m.log)
	ops := []op{appends(name, edits(e)), syncs(name)}
	if !m.begun {
		ops = switches(m.log, after)
		if slices.Contains(m.d.Names(), "current.tmp") {
			ops = slices.Insert(ops, 0, deletes("current.tmp"))
		}
		for _, name := range m.logs() {
			ops = append(ops, deletes(name))
		}
	}
	for _, o := range ops {
		if o(m.d) != api.OK {
			m.dead = true
			return api.ErrDead
		}
	}
	m.v, m.begun = after, true
	return api.OK
}

// orphans returns the names of what is left over.
func (m *model) orphans() []string {
	return slices.DeleteFunc(m.d.Names(), func(name string) bool {
		n := number("sst", name)
		if n > 0 {
			return slices.ContainsFunc(m.v.Tables, func(x api.Table) bool { return x.Number == n })
		}
		return name != "current.tmp" && (number("manifest", name) == 0 || name == m.current())
	})
}

// randomEdit returns an edit, which often fits the version.
func randomEdit(r *rand.Rand, v api.Version) api.Edit {
	var e api.Edit
	for _, x := range v.Tables {
		if r.Intn(4) == 0 {
			e.Drop = append(e.Drop, x.Number)
		}
	}
	r.Shuffle(len(e.Drop), func(i, j int) { e.Drop[i], e.Drop[j] = e.Drop[j], e.Drop[i] })
	if r.Intn(2) == 0 {
		e.Next = v.Next + r.Intn(4) + r.Intn(2)*r.Intn(2)*r.Intn(2)*100000
	}
	if r.Intn(4) == 0 {
		e.Log, e.Seq = v.Log+r.Intn(2)*r.Intn(100000), v.Seq+r.Intn(2)*r.Intn(1<<60)
	}
	for range r.Intn(4) {
		first := key(r.Intn(3))
		e.Add = append(e.Add, table(max(v.Next, e.Next)-1-r.Intn(6), r.Intn(2), first, first+key(r.Intn(62))))
	}
	switch r.Intn(30) {
	case 0:
		e.Drop = append(e.Drop, r.Intn(v.Next+1))
	case 1:
		e.Next = v.Next - r.Intn(3)
	case 2:
		e.Log = v.Log - r.Intn(3)
	case 3:
		e.Seq = v.Seq - r.Intn(3)
	case 4:
		e.Add = append(e.Add, wrongTables[r.Intn(len(wrongTables))])
	case 5:
		e = longEdit(max(v.Next, e.Next) + 40)
	case 6:
		e = api.Edit{}
	}
	return e
}

// litter appends bytes to some files that a manifest looks at, or takes some away.
func litter(r *rand.Rand, d, other *drive.Drive) {
	names := []string{"current", "current.tmp", "manifest-000000", "sst-000001", "sst-000002", "sst-000004", "sst-999999", "sst-1", "x", logFile(1 + r.Intn(12)), logFile(1 + r.Intn(999999))}
	name := names[r.Intn(len(names))]
	b := []byte([]string{"", "x", logFile(3), edits(api.Edit{}), edits(api.Edit{Seq: 9})[:7]}[r.Intn(5)])
	if r.Intn(3) == 0 {
		d.Delete(name)
		other.Delete(name)
	}
	d.Append(name, b)
	other.Append(name, b)
	d.Sync(name)
	other.Sync(name)
}

// startModel returns a manifest on a drive that is new, or almost full of files, or whose log is almost at its end, with its model.
func startModel(t *testing.T, r *rand.Rand) (*manifest.Manifest, *drive.Drive, *model) {
	t.Helper()
	m := &model{known: map[string]api.Edit{}}
	for _, e := range []api.Edit{{}, {Seq: 9}} {
		m.known[payload(e)] = e
	}
	var files []string
	switch r.Intn(40) {
	case 0:
		files = []string{"current", logFile(4), logFile(4), strings.Repeat(edits(api.Edit{}), 26180)}
	case 1, 2, 3:
		files = []string{logFile(999990 + r.Intn(9)), ""}
	}
	d := loaded(t, files...)
	m.open(loaded(t, files...))
	if r.Intn(4) == 0 {
		n := 249 + r.Intn(7)
		crowd(t, d, n)
		crowd(t, m.d, n)
	}
	return manifest.Open(d), d, m
}

// P8.1, P8.2, P8.3: manifests in random calls, crashes and openings, with files that others have left, also on drives that are almost full, do as the model does.
func TestAgainstModel(t *testing.T) {
	r := rand.New(rand.NewSource(6))
	codes := map[api.Errno]int{}
	for range 250 {
		m, d, own := startModel(t, r)
		var log []string
		for range 80 {
			what := "Change"
			switch r.Intn(14) {
			case 0:
				n := r.Intn(20)
				what = fmt.Sprint("Arm ", n)
				d.Arm(n)
				own.d.Arm(n)
			case 1:
				what = "crash, litter and Open"
				keeps := []int{r.Intn(3) * r.Intn(100)}
				d, own.d = d.Crash(keeps), own.d.Crash(keeps)
				for range r.Intn(3) * r.Intn(3) {
					litter(r, d, own.d)
				}
				m = manifest.Open(d)
				own.open(own.d)
			case 2:
				what = "Open"
				m = manifest.Open(d)
				own.open(own.d)
			default:
				e := randomEdit(r, own.v)
				got, want := m.Change(e), own.change(e)
				codes[want]++
				if got != want {
					t.Fatalf("P8.1: %v: Change(%v): %d; want %d", log, e, got, want)
				}
			}
			log = append(log, what)
			if got, want := picture(d), picture(own.d); got != want {
				t.Fatalf("P8.1: %v: files %s; want %s", log, got, want)
			}
			if v := m.Version(); !same(v, own.v) {
				t.Fatalf("P8.1: %v: version %v; want %v", log, v, own.v)
			}
			if l := m.Orphans(); !slices.Equal(l, own.orphans()) {
				t.Fatalf("P8.1: %v: Orphans: %v; want %v", log, l, own.orphans())
			}
		}
	}
	for _, e := range []api.Errno{api.OK, api.ErrManifest, api.ErrLong, api.ErrFull, api.ErrDead} {
		if codes[e] < 50 {
			t.Errorf("only %d changes returned %d: %v", codes[e], e, codes)
		}
	}
}
