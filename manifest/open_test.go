package manifest_test

import (
	"fmt"
	"math/rand"
	"slices"
	"strings"
	"testing"
	"time"

	"convoy/api"
	"convoy/drive"
	"convoy/manifest"
)

// P8.1: a new drive has the first version; opening executes no step.
func TestOpenNewDrive(t *testing.T) {
	d := drive.New()
	opened(t, "P8.1", d, firstVersion)
	checkNames(t, d)
	arm(t, d, 0)
	opened(t, "P8.1", d, firstVersion)
}

// P8.1: the current log is the existing one whose name is the complete contents of current.
func TestCurrentLog(t *testing.T) {
	other := base
	other.Seq = 200
	logs := []string{logFile(1), edits(all(base)), logFile(7), edits(all(other)), logFile(999999), ""}
	opened(t, "P8.1", loaded(t, append(logs, "current", logFile(1))...), base)
	opened(t, "P8.1", loaded(t, append(logs, "current", logFile(7))...), other)
	opened(t, "P8.1", loaded(t, append(logs, "current", logFile(999999))...), firstVersion)
	opened(t, "P8.1", loaded(t, append(logs, "current.tmp", logFile(7))...), firstVersion)
	opened(t, "P8.1", loaded(t, logs...), firstVersion)
	for _, s := range []string{
		"", " ", "1", "000001", "manifest", "manifest-", "manifest-1", "manifest-00001", "manifest-0000001", "manifest-000000", "manifest-1000000",
		"manifest-000001\n", "manifest-000001 ", " manifest-000001", "manifest-000001\x00", "manifest-000001manifest-000001", "Manifest-000001",
		"manifest-+00001", "manifest--00001", "manifest-00000a", "manifest_000001", "manifest-000002", "manifest-000008", "sst-000001", "current", "other",
		strings.Repeat("manifest-000001", 1000), "manifest-" + strings.Repeat("0", 100000) + "1",
	} {
		d := loaded(t, append(logs, "current", s, "sst-000001", edits(all(base)), "other", edits(all(base)), "manifest-000000", edits(all(base)))...)
		opened(t, "P8.1", d, firstVersion)
	}
	for _, name := range []string{"manifest-1", "manifest-000000", "manifest-1000000", "manifest-0000001", "manifest-00001", "manifest--00001", "sst-000001", "current", "x"} {
		files := []string{"current", name}
		if name != "current" {
			files = append(files, name, edits(all(base)))
		}
		opened(t, "P8.1", loaded(t, files...), firstVersion)
	}
}

// P8.1: a log has the version that its edits make of the first one, up to the first that is broken, no edit, or does not fit.
func TestReadLog(t *testing.T) {
	one, two := add(2, table(1, 0, "a", "c")), api.Edit{Drop: []int{1}, Add: []api.Table{table(2, 1, "a", "c")}, Next: 3, Seq: 7}
	first := api.Version{Tables: one.Add, Next: 2, Log: 1}
	both := api.Version{Tables: two.Add, Next: 3, Log: 1, Seq: 7}
	opened(t, "P8.1", with(t, ""), firstVersion)
	opened(t, "P8.1", with(t, edits(one)), first)
	opened(t, "P8.1", with(t, edits(one, two)), both)
	opened(t, "P8.1", with(t, edits(one, api.Edit{}, two, api.Edit{})), both)
	for size := range len(edits(two)) {
		opened(t, "P8.1", with(t, edits(one)+edits(two)[:size]), first)
	}
	for size := range len(edits(one)) {
		opened(t, "P8.1", with(t, edits(one)[:size]), firstVersion)
	}
	for i := range len(edits(two)) {
		changed := []byte(edits(one, two, later))
		changed[len(edits(one))+i] ^= 0x20
		opened(t, "P8.1", with(t, string(changed)), first)
	}
	for _, p := range []string{"", "x", payload(two) + "\x00", payload(two)[1:], "\x00\x00\x80\x00\x00\x00"} {
		opened(t, "P8.1", with(t, edits(one)+framed(p)+edits(two)), first)
		opened(t, "P8.1", with(t, framed(p)+edits(one)), firstVersion)
	}
	for _, e := range []api.Edit{one, drop(2), drop(1, 1), {Next: 1}, {Log: 1000000}, {Seq: 1<<62 + 1}, add(0, table(2, 0, "a", "b"))} {
		opened(t, "P8.1", with(t, edits(one, e, two)), first)
	}
	opened(t, "P8.1", with(t, edits(two, one)), firstVersion)
}

// P8.1: loose bytes are read as well.
func TestReadLooseBytes(t *testing.T) {
	d := with(t, edits(all(base)))
	d.Append(logFile(1), []byte(edits(api.Edit{Seq: 101})))
	v := base
	v.Seq = 101
	opened(t, "P8.1", d, v)
	opened(t, "P8.1", d.Crash(nil), base)
}

// P8.1: the log's number is the one after the greatest of all existing logs, be they current or not; other files do not count.
func TestNumberOfLog(t *testing.T) {
	others := []string{"manifest-000000", "manifest-1000000", "manifest-0000099", "manifest-00099", "manifest-", "manifest-99999x", "manifest--99999", "sst-000500", "wal-000600", "000700", "current.tmp"}
	for _, c := range []struct{ logs, next []int }{
		{nil, []int{1}}, {[]int{1}, []int{2}}, {[]int{2}, []int{3}}, {[]int{1, 7, 9}, []int{10}}, {[]int{99}, []int{100}},
		{[]int{3, 99999}, []int{100000}}, {[]int{999998}, []int{999999}}, {[]int{999997, 1}, []int{999998}}, {[]int{1, 999999}, nil}, {[]int{999999}, nil},
	} {
		for _, current := range append(c.logs, 12345) {
			d := loaded(t, "current", logFile(current))
			for _, name := range others {
				d.Append(name, []byte("x"))
			}
			for _, n := range c.logs {
				d.Append(logFile(n), []byte(edits(all(base))))
			}
			m := manifest.Open(d)
			if c.next == nil {
				refused(t, m, d, api.Edit{}, api.ErrFull)
				continue
			}
			v := m.Version()
			change(t, m, api.Edit{}, api.OK)
			name := logFile(c.next[0])
			checkFile(t, d, "current", name)
			checkFile(t, d, name, snapshot(v))
			names := append(slices.Clone(others), "current", name)
			names = slices.DeleteFunc(names, func(s string) bool { return s == "current.tmp" })
			slices.Sort(names)
			checkNames(t, d, names...)
		}
	}
}

// P8.3: a log of as many bytes as a file may have is read in a time that does not grow with the square of its edits.
func TestGreatestLog(t *testing.T) {
	var log strings.Builder
	v := firstVersion
	for n := 1; ; n++ {
		e := add(n+1, table(n, n%2, "a", "b"))
		if log.Len()+len(edits(e)) > api.MaxFile {
			break
		}
		log.WriteString(edits(e))
		v.Tables = append(v.Tables, e.Add[0])
		v.Next = n + 1
	}
	slices.SortStableFunc(v.Tables, func(a, b api.Table) int { return a.Level - b.Level })
	start := time.Now()
	opened(t, "P8.3", with(t, log.String()), v)
	if d := time.Since(start); d > 20*time.Second {
		t.Errorf("P8.3: %d tables: %v", len(v.Tables), d)
	}
}

// randomBytes returns the contents of a file: frames of edits that fit, or nearly; some of them with a fault; or any bytes.
func randomBytes(r *rand.Rand) string {
	s := ""
	next := 1
	for range r.Intn(8) {
		next++
		e := add(next, table(next-1, r.Intn(2), "a", "b"))
		switch r.Intn(20) {
		case 0:
			e.Add[0].Number -= 1
		case 1, 2:
			e.Drop = append(e.Drop, r.Intn(next))
		}
		s += edits(e)
	}
	switch b := []byte(s); r.Intn(5) {
	case 0:
		if len(b) > 0 {
			b[r.Intn(len(b))] ^= byte(1 << r.Intn(8))
		}
		return string(b)
	case 1:
		return s[:r.Intn(len(s)+1)]
	case 2:
		return s + framed(strings.Repeat("\x01", r.Intn(20))) + edits(later)
	case 3:
		return logFile(1 + r.Intn(3))
	}
	return s
}

// P8.3: whatever the files are, Open yields a version, to which edits fit, and which is there again when they are written.
func TestAnyFiles(t *testing.T) {
	r := rand.New(rand.NewSource(9))
	names := []string{"current", "current.tmp", logFile(1), logFile(2), logFile(3), "manifest-000000", "sst-000001", "sst-000002", "sst-1", "x"}
	deep := 0
	for i := range 20000 {
		files := []string{}
		for _, name := range names {
			if r.Intn(3) > 0 {
				files = append(files, name, randomBytes(r))
			}
		}
		if len(files) > 0 && files[0] == "current" && r.Intn(4) > 0 {
			files[1] = logFile(1 + r.Intn(3))
		}
		d := loaded(t, files...)
		m := manifest.Open(d)
		v := m.Version()
		what := fmt.Sprintf("P8.3: files %d", i)
		if _, code := manifest.Fit(v, api.Edit{}); code != api.OK {
			t.Fatalf("%s: %v is no version", what, v)
		}
		deep += len(v.Tables)
		m.Orphans()
		change(t, m, api.Edit{Seq: 5}, api.OK)
		v.Seq = 5
		checkVersion(t, what, manifest.Open(d).Version(), v)
		checkVersion(t, what, m.Version(), v)
	}
	if deep < 5000 {
		t.Errorf("only %d tables were read", deep)
	}
}
