package wal

import (
	"strconv"
	"strings"
)

const (
	prefix = "wal-"
	last   = 999999 // the greatest number of a segment
)

// fileName returns the name of a segment's file; for a number that no segment has the empty one, which no file has.
func fileName(n int) string {
	if n < 1 || n > last {
		return ""
	}
	return prefix + strconv.Itoa(last + 1 + n)[1:] // the digit that is cut off has kept the leading zeros
}

// number returns the number of the segment whose file has that name; 0 if the name isn't a segment's.
func number(name string) int {
	// An error needs no look: what Atoi returns with it is no number whose name this is.
	n, _ := strconv.Atoi(strings.TrimPrefix(name, prefix))
	if fileName(n) != name {
		return 0
	}
	return n
}
