package drive

import (
	"slices"

	"convoy/api"
)

// checkFiles returns why there can be no drive with these files, or OK.
func checkFiles(names []string, files [][]byte) api.Errno {
	switch {
	case len(names) != len(files):
		return api.ErrRange
	case !allValid(names):
		return api.ErrName
	case anyTwice(names):
		return api.ErrTwice
	case len(names) > api.MaxFiles || slices.ContainsFunc(files, tooLong):
		return api.ErrFull
	}
	return api.OK
}

// allValid reports whether each of the names may be a file's.
func allValid(names []string) bool {
	for _, name := range names {
		if !validName(name) {
			return false
		}
	}
	return true
}

// anyTwice reports whether a name occurs more than once.
func anyTwice(names []string) bool {
	sorted := slices.Sorted(slices.Values(names))
	return len(slices.Compact(sorted)) < len(names)
}

// tooLong reports whether a file can't have these bytes.
func tooLong(b []byte) bool { return len(b) > api.MaxFile }

// validName reports whether a file may have this name.
func validName(name string) bool {
	if len(name) < 1 || len(name) > api.MaxName {
		return false
	}
	for i := range len(name) {
		if !validByte(name[i]) {
			return false
		}
	}
	return true
}

// validByte reports whether a file's name may have this byte.
func validByte(c byte) bool {
	return 'a' <= c && c <= 'z' || '0' <= c && c <= '9' || c == '-' || c == '.'
}
