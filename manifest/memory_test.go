package manifest_test

import (
	"bytes"
	"runtime"
	"slices"
	"strings"
	"testing"
	"unsafe"
	"weak"

	"convoy/api"
	"convoy/drive"
	"convoy/manifest"
)

// spareTables and spareNumbers are what the spare capacity of a list has.
var (
	spareTables  = []api.Table{table(99, 1, "spare", "tables"), table(-1, 9, "z", "a")}
	spareNumbers = []int{99, -1, 3}
)

// memory is an edit and a version whose lists have spare capacity, with all of their memory.
type memory struct {
	e           api.Edit
	v           api.Version
	adds, lives []api.Table
	drops       []int
}

// roomy returns an edit and a version with spare capacity.
func roomy(e api.Edit, v api.Version) *memory {
	x := &memory{e, v, slices.Concat(e.Add, spareTables), slices.Concat(v.Tables, spareTables), slices.Concat(e.Drop, spareNumbers)}
	x.e.Add, x.e.Drop, x.v.Tables = x.adds[:len(e.Add)], x.drops[:len(e.Drop)], x.lives[:len(v.Tables)]
	return x
}

// check asks that nothing of it has changed.
func (x *memory) check(t *testing.T, what string, e api.Edit, v api.Version) {
	t.Helper()
	if !slices.Equal(x.adds, slices.Concat(e.Add, spareTables)) || !slices.Equal(x.drops, slices.Concat(e.Drop, spareNumbers)) || !slices.Equal(x.lives, slices.Concat(v.Tables, spareTables)) {
		t.Errorf("P8.4: %s has changed %s, %s", what, brief(e), brief(v))
	}
}

// spoil overwrites everything of it.
func (x *memory) spoil() {
	clear(x.adds)
	clear(x.drops)
	clear(x.lives)
}

// memoryEdits fit base, or nearly.
func memoryEdits() []api.Edit {
	return []api.Edit{
		{}, drop(3), drop(5, 3, 2), drop(4), drop(3, 3), all(base), longEdit(50), {Next: -1},
		add(12, table(11, 1, "x", "y"), table(10, 0, "x", "z"), table(9, 0, "", "")),
		{Drop: []int{7, 3}, Add: []api.Table{table(7, 1, "b", "c"), table(4, 0, "a", "b")}, Seq: 200},
		add(12, table(11, 1, "y", "x"), table(10, 0, "x", "z")),
	}
}

// P8.4: no call changes an edit or a version, spare capacity included, be it accepted or not.
func TestArgumentsAreNotChanged(t *testing.T) {
	versions := []api.Version{base, firstVersion, version(base.Tables[1], base.Tables[0])}
	for _, v := range versions {
		for _, e := range memoryEdits() {
			x := roomy(e, v)
			manifest.Fit(x.v, x.e)
			x.check(t, "Fit", e, v)
			manifest.Encode(x.e)
			x.check(t, "Encode", e, v)
			m, _ := began(t, base)
			m.Change(x.e)
			manifest.Open(drive.New()).Change(x.e)
			x.check(t, "Change", e, v)
		}
	}
	for _, e := range sampleEdits() {
		p := payload(e)
		for size := range len(p) + 1 {
			b := []byte(p)
			manifest.Decode(b[:size])
			if string(b) != p {
				t.Fatalf("P8.4: Decode has changed %d bytes of %v", size, e)
			}
		}
	}
}

// P8.4: what is done to an edit or a version behind a call shows in no result, and not in the manifest.
func TestArgumentsAreNotKept(t *testing.T) {
	for _, e := range memoryEdits() {
		want, code := manifest.Fit(base, e)
		if code != api.OK {
			continue
		}
		x := roomy(e, base)
		got, _ := manifest.Fit(x.v, x.e)
		x.spoil()
		checkVersion(t, "P8.4: a result of Fit", got, want)

		if _, code := manifest.Encode(e); code != api.OK {
			continue
		}
		x = roomy(e, base)
		m, d := began(t, x.v)
		change(t, m, x.e, code)
		unchanged(t, "P8.4", d, x.spoil)
		checkVersion(t, "P8.4: Version", m.Version(), want)
		change(t, m, drop(), api.OK)
		opened(t, "P8.4", d, want)
	}
	for _, e := range sampleEdits() {
		b := []byte(payload(e))
		got, _ := manifest.Decode(b)
		clear(b)
		if !sameEdit(got, e) {
			t.Errorf("P8.4: an edit has changed to %s", brief(got))
		}
	}
}

// P8.4: what is done to a result shows in no other one, nor in the manifest.
func TestResultsAreNewMemory(t *testing.T) {
	m, d := began(t, base)
	for _, v := range []api.Version{m.Version(), manifest.Open(d).Version()} {
		clear(v.Tables[:cap(v.Tables)])
		checkVersion(t, "P8.4: Version", m.Version(), base)
	}
	first, second := m.Version(), m.Version()
	clear(first.Tables[:cap(first.Tables)])
	change(t, m, add(9, table(8, 1, "a", "b")), api.OK) // into the spare capacity, if it were shared
	checkVersion(t, "P8.4: an older version", second, base)
	_, code := manifest.Fit(m.Version(), api.Edit{})
	want(t, "Fit", code, api.OK)

	for _, e := range sampleEdits() {
		first, _ := manifest.Encode(e)
		second, _ := manifest.Encode(e)
		for i := range first[:cap(first)] {
			first[:cap(first)][i] ^= 0x5a
		}
		if !bytes.Equal(second, []byte(payload(e))) {
			t.Errorf("P8.4: two payloads share memory")
		}
		one, _ := manifest.Decode(second)
		two, _ := manifest.Decode(second)
		clear(one.Add[:cap(one.Add)])
		clear(one.Drop[:cap(one.Drop)])
		if !sameEdit(two, e) || string(second) != payload(e) {
			t.Errorf("P8.4: two edits share memory")
		}
	}
	d.Append("current.tmp", nil)
	d.Append("sst-000001", nil)
	left, again := m.Orphans(), m.Orphans()
	clear(left[:cap(left)])
	checkOrphans(t, m, again...)
	if !slices.Equal(again, []string{"current.tmp", "sst-000001"}) {
		t.Errorf("P8.4: two results of Orphans share memory")
	}
}

// P8.4: the list of a result is not one that a later or an earlier edit was given.
func TestFitResultsAreNewMemory(t *testing.T) {
	for _, e := range []api.Edit{{}, drop(3), all(api.Version{Next: 9, Log: 9, Seq: 900})} {
		x := roomy(e, base)
		v, code := manifest.Fit(x.v, x.e)
		want(t, "Fit", code, api.OK)
		clear(v.Tables[:cap(v.Tables)])
		x.check(t, "what was done to a result of Fit", e, base)
	}
	x := roomy(all(base), firstVersion)
	v, _ := manifest.Fit(x.v, x.e)
	clear(v.Tables[:cap(v.Tables)])
	x.check(t, "what was done to a result of Fit", all(base), firstVersion)
}

// shared tells whether two texts are the same memory.
func shared(text, other string) bool {
	return len(text) > 0 && unsafe.StringData(text) == unsafe.StringData(other)
}

// checkTexts asks that tables have texts of their own.
func checkTexts(t *testing.T, what string, tables, others []api.Table) {
	t.Helper()
	for _, a := range tables {
		for _, b := range others {
			if shared(a.First, b.First) || shared(a.First, b.Last) || shared(a.Last, b.First) || shared(a.Last, b.Last) {
				t.Errorf("P8.4: %s: %v shares its texts", what, a)
			}
		}
	}
}

// P8.4: the texts of a result are new memory too.
func TestTextsAreNewMemory(t *testing.T) {
	e := add(9, table(8, 1, "first", "last"))
	v, _ := manifest.Fit(base, e)
	checkTexts(t, "Fit", v.Tables, slices.Concat(base.Tables, e.Add))
	m, _ := began(t, base)
	change(t, m, e, api.OK)
	one, two := m.Version(), m.Version()
	checkTexts(t, "Version", one.Tables, slices.Concat(base.Tables, e.Add))
	checkTexts(t, "Version", one.Tables, two.Tables)
}

// forgotten runs calls with a long text, and asks that nothing of it is kept behind them.
func forgotten(t *testing.T, what string, calls func(long string) any) {
	t.Helper()
	long := strings.Repeat("k", 1<<16)
	text := weak.Make(unsafe.StringData(long))
	result := calls(long)
	long = ""
	runtime.GC()
	if text.Value() != nil {
		t.Errorf("P8.4: %s keeps what it was given", what)
	}
	runtime.KeepAlive(result)
}

// P8.4: neither a call nor its result keeps the longer texts that those of a table were cut out of, nor bytes.
func TestTextsAreNotKept(t *testing.T) {
	edit := func(long string) api.Edit { return add(10, table(9, 0, "a", long[:20]), table(8, 0, long[3:9], "z")) }
	forgotten(t, "Fit", func(long string) any { v, _ := manifest.Fit(base, edit(long)); return v })
	forgotten(t, "Fit", func(long string) any {
		v, _ := manifest.Fit(firstVersion, edit(long))
		w, _ := manifest.Fit(v, api.Edit{})
		x, _ := manifest.Fit(api.Version{Tables: []api.Table{table(1, 0, "", long[:9])}, Next: 2, Log: 1}, api.Edit{})
		return []any{w, x}
	})
	forgotten(t, "Encode", func(long string) any { b, _ := manifest.Encode(edit(long)); return b })
	for range 2 {
		m, d := began(t, base)
		forgotten(t, "Change", func(long string) any { m.Change(edit(long)); return m })
		m = manifest.Open(d)
		forgotten(t, "the first Change", func(long string) any { m.Change(api.Edit{Drop: []int{9, 8}, Add: edit(long).Add}); return m })
		arm(t, d, 0)
		forgotten(t, "a rejected Change", func(long string) any { m.Change(api.Edit{Drop: []int{9, 8}, Add: edit(long).Add}); return m })
		runtime.KeepAlive(d)
	}
	b := []byte(payload(add(1, table(1, 1, key(1000), key(1000)))))
	bytes := weak.Make(&b[0])
	e, code := manifest.Decode(b)
	b = nil
	runtime.GC()
	if bytes.Value() != nil || code != api.OK {
		t.Errorf("P8.4: Decode keeps the bytes that it was given; %d", code)
	}
	runtime.KeepAlive(e)
}
