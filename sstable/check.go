package sstable

import "convoy/api"

// check returns why there is no table of these entries, or OK.
func check(entries []api.Entry) api.Errno {
	switch {
	case len(entries) == 0:
		return api.ErrNone
	case len(entries) > api.MaxEntries:
		return api.ErrFull
	}
	for i, e := range entries {
		if code := checkEntry(e); code != api.OK {
			return code
		}
		if i > 0 && !ahead(entries[i-1], e) {
			return api.ErrOrder
		}
	}
	return api.OK
}

// checkEntry returns why no table has this entry, or OK.
func checkEntry(e api.Entry) api.Errno {
	switch {
	case len(e.Key) > api.MaxKey || len(e.Value) > api.MaxValue:
		return api.ErrLong
	case e.Seq < 1 || e.Seq > api.MaxSeq || e.Del && e.Value != "":
		return api.ErrRange
	}
	return api.OK
}

// ahead reports whether an entry comes before another one: of one key the newest comes first.
func ahead(e, other api.Entry) bool {
	return e.Key < other.Key || e.Key == other.Key && e.Seq > other.Seq
}
