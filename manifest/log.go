package manifest

import (
	"slices"
	"strconv"
	"strings"

	"convoy/api"
	"convoy/drive"
	"convoy/frame"
)

const (
	logPrefix   = "manifest-"
	tablePrefix = "sst-"
	pointer     = "current"     // holds the name of the current log
	draft       = "current.tmp" // is to become the pointer
)

// fileName returns the name of the file with a number.
func fileName(prefix string, n int) string {
	return prefix + strconv.Itoa(lastFile + 1 + n)[1:] // the digit that is cut off has kept the leading zeros
}

// number returns the number of the file that has a name with this prefix; 0 if that isn't such a name.
func number(prefix, name string) int {
	// Neither an error nor a number that no file has needs a look: what is made of it is another name.
	n, _ := strconv.Atoi(strings.TrimPrefix(name, prefix))
	if fileName(prefix, n) != name {
		return 0
	}
	return n
}

// exists reports whether a drive has a file.
func exists(d *drive.Drive, name string) bool { return slices.Contains(d.Names(), name) }

// currentLog returns the name of the current log; the empty one, which no file has, if there is none.
func currentLog(d *drive.Drive) string {
	b, _ := d.Read(pointer)
	name := string(b)
	if number(logPrefix, name) == 0 || !exists(d, name) {
		return ""
	}
	return name
}

// readLog returns the version of a log; the first version if there is no such file.
func readLog(d *drive.Drive, name string) *state {
	s := firstState()
	b, _ := d.Read(name)
	payloads, _ := frame.Scan(b)
reading:
	for _, payload := range payloads {
		switch e, code := Decode(payload); {
		case code != api.OK:
			break reading
		case s.fits(e):
			s.apply(e)
		default:
			break reading
		}
	}
	return s
}

// snapshot returns the frames of edits that make a version of the first one.
func snapshot(v api.Version) []byte {
	edits := []api.Edit{{Next: v.Next, Log: v.Log, Seq: v.Seq}}
	for _, t := range v.Tables {
		edits = append(edits, api.Edit{Add: []api.Table{t}})
	}
	var b []byte
	for _, e := range edits {
		payload, _ := Encode(e)
		b = append(b, sealed(payload)...)
	}
	return b
}

// sealed returns the frame of an edit's payload, which is never too long for one.
func sealed(payload []byte) []byte {
	b, _ := frame.Seal(payload)
	return b
}
