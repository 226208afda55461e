package wal_test

import (
	"fmt"
	"math/rand"
	"slices"
	"testing"

	"convoy/api"
	"convoy/drive"
	"convoy/wal"
)

// run is a log in use: the payloads with which it was opened and that were appended since, and how many of them are durable.
type run struct {
	l        *wal.Log
	from     int
	payloads []string
	durable  int
}

// begin opens a log on a drive.
func begin(t *testing.T, d *drive.Drive, from int) *run {
	t.Helper()
	l, p, e := wal.Open(d, from)
	if e != api.OK {
		t.Fatalf("P3.2: Open: %d", e)
	}
	return &run{l, from, texts(p), len(p)}
}

// call executes one word of a script: s(ync), r(oll), d(rop), or the append of a payload; it reports whether the power is on.
func (r *run) call(word string) bool {
	e := api.OK
	switch word {
	case "s":
		e = r.l.Sync()
	case "r":
		_, e = r.l.Roll()
	case "d":
		return r.l.Drop(r.from) == api.OK
	default:
		r.payloads = append(r.payloads, word) // also if it is in progress when the power is lost
		return r.l.Append([]byte(word)) == api.OK
	}
	if e == api.OK {
		r.durable = len(r.payloads)
	}
	return e == api.OK
}

// calls executes words until the power is lost.
func (r *run) calls(words []string) {
	for _, w := range words {
		if !r.call(w) {
			return
		}
	}
}

// loose returns of each file with loose bytes how many they are.
func loose(d *drive.Drive) []int {
	var l []int
	for _, name := range d.Names() {
		if n := d.Loose(name); n > 0 {
			l = append(l, n)
		}
	}
	return l
}

// checkLeft asks of what a loss of power has left of a drive that it has the durable payloads, and others up to some place.
func (r *run) checkLeft(t *testing.T, d *drive.Drive, what string) *run {
	t.Helper()
	after := begin(t, d, r.from)
	if n := len(after.payloads); n < r.durable || n > len(r.payloads) || !slices.Equal(after.payloads, r.payloads[:n]) {
		t.Fatalf("P3.2: %s: %.50q; want %.50q, the first %d at least", what, after.payloads, r.payloads, r.durable)
	}
	return after
}

// scripts that meet each sort of step, with payloads that differ.
var scripts = [][]string{
	{"one", "two", "three"},
	{"one", "s", "two", "three", "s", "", "four"},
	{"", "", "s", "", ""},
	{"one", "r", "two", "r", "r", "three", "s", "four"},
	{"one", sample(600), sample(601), "two", sample(900), "s", sample(602), sample(603)},
	{sample(2000), "one", sample(2001), "s", sample(2002), "two"},
	{"d", "one", "s", "d", "two", "r", "d", "three", "d", "s"},
	{"s", sample(1018), "one", sample(1019), "two", "s", "three"},
}

// P3.2: each script with a loss of power at each step, each number of loose bytes kept.
func TestPowerIsLost(t *testing.T) {
	for i, words := range scripts {
		for steps := range 20 {
			d := loaded(t, file(2), framed("old"), file(4), framed("a", "b")+"torn", file(5), "")
			r := begin(t, d, 3)
			if err := d.Arm(steps); err != api.OK {
				t.Fatal(err)
			}
			r.calls(words)
			left := loose(d)
			if len(left) > 1 {
				t.Fatalf("P3.2: script %d, %d steps: %v loose bytes in several segments", i, steps, left)
			}
			most := slices.Max(append(left, 0))
			for keep := range most + 1 {
				r.checkLeft(t, d.Crash([]int{keep}), fmt.Sprintf("script %d, %d steps, %d kept", i, steps, keep))
			}
		}
	}
}

// P3.2: what was synced is kept even if nothing else is, and everything if all is.
func TestPowerIsLostAtTheEnd(t *testing.T) {
	d := drive.New()
	r := begin(t, d, 1)
	big := sample(700)
	r.calls([]string{"one", "s", "two", big, "three", sample(701), "four", "r", "five", "six"})
	open(t, d.Crash(nil), 1, "one", "two", big, "three", sample(701), "four")
	five := len(framed("five"))
	open(t, d.Crash([]int{five - 1}), 1, "one", "two", big, "three", sample(701), "four")
	open(t, d.Crash([]int{five}), 1, "one", "two", big, "three", sample(701), "four", "five")
	open(t, d.Crash([]int{five + 7}), 1, "one", "two", big, "three", sample(701), "four", "five")
	open(t, d.Crash([]int{five + 8}), 1, r.payloads...)
	open(t, d, 1, r.payloads...)
}

// randomWords returns a script of words at random, its payloads numbered from n on.
func randomWords(r *rand.Rand, n int) []string {
	var words []string
	for range r.Intn(12) {
		switch r.Intn(9) {
		case 0, 1:
			words = append(words, "s")
		case 2:
			words = append(words, "r")
		case 3:
			words = append(words, "d")
		default:
			n++
			words = append(words, fmt.Sprintf("%d %s", n, sample(r.Intn(2)*r.Intn(1100))))
		}
	}
	return words
}

// P3.2: power is lost again and again, also between an opening and the first step.
func TestPowerIsLostAgain(t *testing.T) {
	r := rand.New(rand.NewSource(4))
	for i := range 300 {
		d := drive.New()
		from := 1 + r.Intn(3)
		log := begin(t, d, from)
		for j := range 12 {
			if r.Intn(4) > 0 {
				d.Arm(r.Intn(12))
			}
			log.calls(randomWords(r, 100*j))
			keeps := []int{r.Intn(1200) - 100, r.Intn(9), 9}
			d = d.Crash(keeps)
			log = log.checkLeft(t, d, fmt.Sprintf("run %d, crash %d, %v kept", i, j, keeps))
		}
	}
}
