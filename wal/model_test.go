package wal_test

import (
	"fmt"
	"hash/crc32"
	"maps"
	"math/rand"
	"slices"
	"strings"
	"testing"

	"convoy/api"
	"convoy/drive"
	"convoy/wal"
)

// part is a segment of the model: its synced and its loose bytes.
type part struct{ synced, loose string }

// model is a log and its drive as the chapter tells them: parts by number, a number of other files, and the steps that are left (-1: not armed).
type model struct {
	parts   map[int]part
	others  int
	steps   int
	left    int
	segment int
	dead    bool
}

// step counts a step, or makes the log dead.
func (m *model) step() api.Errno {
	if m.left == 0 {
		m.dead = true
		return api.ErrDead
	}
	m.left = max(m.left-1, -1)
	m.steps++
	return api.OK
}

func (m *model) append(payload string) api.Errno {
	if len(payload) > 4096 {
		return api.ErrLong
	}
	if m.dead {
		return api.ErrDead
	}
	b := framed(payload)
	if p := m.parts[m.segment]; p != (part{}) && len(p.synced+p.loose+b) > 1024 {
		if _, e := m.roll(); e != api.OK {
			return e
		}
	}
	p, there := m.parts[m.segment]
	if m.segment == 1000000 || !there && len(m.parts)+m.others == 256 {
		return api.ErrFull
	}
	if e := m.step(); e != api.OK {
		return e
	}
	m.parts[m.segment] = part{p.synced, p.loose + b}
	return api.OK
}

func (m *model) sync() api.Errno {
	if m.dead {
		return api.ErrDead
	}
	p := m.parts[m.segment]
	if p.loose == "" {
		return api.OK
	}
	e := m.step()
	if e == api.OK {
		m.parts[m.segment] = part{p.synced + p.loose, ""}
	}
	return e
}

func (m *model) roll() (int, api.Errno) {
	if e := m.sync(); e != api.OK {
		return 0, e
	}
	if m.segment < 1000000 {
		m.segment++
	}
	return m.segment, api.OK
}

func (m *model) drop(before int) api.Errno {
	if m.dead {
		return api.ErrDead
	}
	for _, n := range slices.Sorted(maps.Keys(m.parts)) {
		if n >= before || n == m.segment {
			continue
		}
		if e := m.step(); e != api.OK {
			return e
		}
		delete(m.parts, n)
	}
	return api.OK
}

// crash leaves of the first segment with loose bytes so many of them, and none of the others.
func (m *model) crash(keep int) {
	for _, n := range slices.Sorted(maps.Keys(m.parts)) {
		p := m.parts[n]
		if p.loose != "" {
			m.parts[n] = part{p.synced + p.loose[:max(0, min(keep, len(p.loose)))], ""}
			keep = 0
		}
	}
	m.steps, m.left = 0, -1
}

// open begins a new log, and returns the bytes that it reads, segment by segment.
func (m *model) open(from int) []string {
	m.dead, m.segment = false, from
	var read []string
	for _, n := range slices.Sorted(maps.Keys(m.parts)) {
		m.segment = max(m.segment, n+1)
		if n >= from {
			read = append(read, m.parts[n].synced+m.parts[n].loose)
		}
	}
	return read
}

// picture tells what there is to see of the model.
func (m *model) picture() string {
	var s strings.Builder
	for _, n := range slices.Sorted(maps.Keys(m.parts)) {
		p := m.parts[n]
		b := p.synced + p.loose
		fmt.Fprintf(&s, "%d %d:%x %d; ", n, len(b), crc32.ChecksumIEEE([]byte(b)), len(p.loose))
	}
	return s.String() + fmt.Sprint(m.others, m.steps, m.left == 0, m.segment)
}

// logPicture tells the same of a log and its drive.
func logPicture(l *wal.Log, d *drive.Drive) string {
	var s strings.Builder
	all := l.Segments()
	for _, n := range all {
		b, _ := d.Read(file(n))
		fmt.Fprintf(&s, "%d %d:%x %d; ", n, len(b), crc32.ChecksumIEEE(b), d.Loose(file(n)))
	}
	return s.String() + fmt.Sprint(len(d.Names())-len(all), d.Steps(), d.Dead(), l.Segment())
}

// act executes one call, chosen at random, on a log and on its model.
func act(r *rand.Rand, l *wal.Log, d *drive.Drive, m *model) (what string, got, want api.Errno) {
	switch r.Intn(16) {
	case 0, 1, 2:
		return "Sync", l.Sync(), m.sync()
	case 3, 4:
		n, e := l.Roll()
		k, w := m.roll()
		if n != k {
			return fmt.Sprintf("Roll, which returned %d instead of %d,", n, k), e, -1
		}
		return "Roll", e, w
	case 5, 6:
		n := m.segment + r.Intn(6) - 4
		return fmt.Sprint("Drop ", n), l.Drop(n), m.drop(n)
	case 7:
		if m.left < 0 {
			m.left = r.Intn(20)
			return fmt.Sprint("Arm ", m.left), d.Arm(m.left), api.OK
		}
	}
	size := []int{0, 3, 100, 400, 1015, 1018, 1019, 4096, 4097}[r.Intn(9)] - r.Intn(2)
	p := sample(max(0, size))
	return fmt.Sprint("Append ", len(p)), l.Append([]byte(p)), m.append(p)
}

// start returns a drive with other files, a few or almost as many as there may be, and its model.
func start(t *testing.T, r *rand.Rand) (*drive.Drive, *model) {
	d := drive.New()
	m := &model{parts: map[int]part{}, left: -1, others: []int{0, 2, 251, 254}[r.Intn(4)]}
	crowd(t, d, m.others)
	m.steps = m.others
	return d, m
}

// P3.1, P3.2: logs in random calls, crashes and openings, also near the last number and on drives that are almost full, do as the model does.
func TestAgainstModel(t *testing.T) {
	r := rand.New(rand.NewSource(6))
	for range 400 {
		d, m := start(t, r)
		from := []int{1, 3, 999990, 999997}[r.Intn(4)]
		l := open(t, d, from)
		m.open(from)
		var log []string
		for range 60 {
			what, got, want := act(r, l, d, m)
			log = append(log, what)
			if got != want {
				t.Fatalf("P3.1: %v: %d; want %d", log, got, want)
			}
			if r.Intn(12) == 0 {
				log = append(log, "crash and Open")
				keep := r.Intn(3) * r.Intn(500)
				d = d.Crash([]int{keep})
				m.crash(keep)
				var payloads []string
				for _, b := range m.open(from) {
					payloads = append(payloads, scanned(b)...)
				}
				l = open(t, d, from, payloads...)
			}
			if got, want := logPicture(l, d), m.picture(); got != want {
				t.Fatalf("P3.1: %v: %s; want %s", log, got, want)
			}
		}
	}
}
