package manifest_test

import (
	"testing"

	"convoy/api"
	"convoy/drive"
	"convoy/manifest"
)

// stray are names that files may have, but neither a table, nor a log, nor current.tmp: some as near to one as can be.
var stray = []string{
	"sst-000000", "sst-1000000", "sst-0000001", "sst-00001", "sst-1", "sst-", "sst", "sst-00000a", "sst--00001", "sst-0.0001", "sst-000001.", "sst-000001.tmp", "sst000001", "-000001", "000001", "a-sst-000001", "sst-sst-000001",
	"manifest-000000", "manifest-1000000", "manifest-0000001", "manifest-00001", "manifest-1", "manifest-", "manifest", "manifest--00001", "manifest-000001.", "manifest-manifest-000001", "manifest-sst-000001",
	"current", "current.tmp.", "current.tm", "current-tmp", ".tmp", "tmp", "wal-000001", "x",
}

// P8.1: tables that are not live, logs that are not current, and current.tmp are left over; in increasing order of their names; nothing is touched.
func TestOrphans(t *testing.T) {
	d := loaded(t, "current", logFile(9), logFile(9), edits(all(base)))
	for _, name := range append(stray, "sst-999999", "sst-000008", "sst-000001", "sst-000002", "sst-000003", "sst-000004", "sst-000005", "sst-000007", logFile(999999-7), logFile(1), logFile(10), "current.tmp") {
		want(t, "Append", d.Append(name, nil), api.OK)
	}
	m := opened(t, "P8.1", d, base)
	left := []string{"current.tmp", logFile(1), logFile(10), logFile(999992), "sst-000001", "sst-000004", "sst-000008", "sst-999999"}
	unchanged(t, "P8.1", d, func() { checkOrphans(t, m, left...) })
	change(t, m, api.Edit{Drop: []int{5, 7}, Add: []api.Table{table(4, 0, "a", "b"), table(5, 0, "a", "b")}}, api.OK)
	checkOrphans(t, m, "sst-000001", "sst-000007", "sst-000008", "sst-999999")
	change(t, m, add(1000000, table(999999, 1, "a", "b")), api.OK)
	checkOrphans(t, m, "sst-000001", "sst-000007", "sst-000008")
	change(t, m, drop(2, 3, 4, 5, 999999), api.OK)
	checkOrphans(t, m, "sst-000001", "sst-000002", "sst-000003", "sst-000004", "sst-000005", "sst-000007", "sst-000008", "sst-999999")
}

// P8.1: of files that are nothing of a manifest's none is left over, whatever happens.
func TestStrayFiles(t *testing.T) {
	d := drive.New()
	for _, name := range stray {
		want(t, "Append", d.Append(name, nil), api.OK)
	}
	m := opened(t, "P8.1", d, firstVersion)
	checkOrphans(t, m)
	change(t, m, all(base), api.OK)
	checkOrphans(t, m)
	checkOrphans(t, manifest.Open(drive.New()))
}

// P8.1: without a current log each log is left over; a table that does not exist is not.
func TestOrphansWithoutCurrentLog(t *testing.T) {
	for _, current := range []string{"", "manifest-000003", "manifest-000001 ", "sst-000001", "x"} {
		d := loaded(t, "current", current, logFile(1), edits(all(base)), logFile(2), "", "sst-000002", "")
		m := opened(t, "P8.1", d, firstVersion)
		checkOrphans(t, m, logFile(1), logFile(2), "sst-000002")
		change(t, m, all(base), api.OK)
		checkOrphans(t, m)
	}
	d := loaded(t, logFile(1), edits(all(base)))
	checkOrphans(t, opened(t, "P8.1", d, firstVersion), logFile(1))
}

// P8.1: what is left over at each step of a switch, the current log being the one that current names then.
func TestOrphansOfSwitch(t *testing.T) {
	for steps, left := range [][]string{
		{"current.tmp", logFile(2), logFile(3)},
		{logFile(2), logFile(3)},
		{logFile(2), logFile(3), logFile(4)},
		{logFile(2), logFile(3), logFile(4)},
		{"current.tmp", logFile(2), logFile(3), logFile(4)},
		{"current.tmp", logFile(2), logFile(3), logFile(4)},
		{logFile(1), logFile(2), logFile(3)},
		{logFile(2), logFile(3)},
		{logFile(3)},
		nil,
	} {
		d := loaded(t, "current", logFile(1), logFile(1), edits(all(base)), logFile(2), "", logFile(3), "", "current.tmp", "", "sst-000003", "")
		m := opened(t, "P8.1", d, base)
		arm(t, d, steps)
		code, dropped := api.ErrDead, []string(nil)
		if steps == 9 {
			code, dropped = api.OK, []string{"sst-000003"}
		}
		change(t, m, drop(3), code)
		checkOrphans(t, m, append(left, dropped...)...)
	}
}
