package merge_test

import (
	"math"
	"testing"

	"convoy/api"
)

// P7.1: of each Key all entries above floor remain, and the newest that is not above it.
func TestCompact(t *testing.T) {
	l := []api.Entry{set("a", 6, "a6"), set("a", 4, "a4"), set("a", 2, "a2"), set("b", 5, "b5"), set("c", 3, "c3"), set("c", 1, "c1")}
	for _, bottom := range []bool{false, true} {
		for _, floor := range []int{math.MinInt, -1, 0, 1, 2} {
			checkCompact(t, l, floor, bottom, l...)
		}
		checkCompact(t, l, 3, bottom, l[0], l[1], l[2], l[3], l[4])
		checkCompact(t, l, 4, bottom, l[0], l[1], l[3], l[4])
		checkCompact(t, l, 5, bottom, l[0], l[1], l[3], l[4])
		for _, floor := range []int{6, 7, 100, math.MaxInt} {
			checkCompact(t, l, floor, bottom, l[0], l[3], l[4])
		}
	}
}

// P7.1: with bottom the newest entry that is not above floor is removed as well if it is a deletion: not one above floor.
func TestCompactDeletions(t *testing.T) {
	l := []api.Entry{del("a", 6), set("a", 4, "a4"), del("a", 2), set("b", 5, "b5"), del("b", 3), set("b", 1, "b1"), del("c", 4)}
	for floor, want := range []struct{ any, bottom []api.Entry }{
		{l, l},
		{l, l},
		{l, []api.Entry{l[0], l[1], l[3], l[4], l[5], l[6]}},
		{[]api.Entry{l[0], l[1], l[2], l[3], l[4], l[6]}, []api.Entry{l[0], l[1], l[3], l[6]}},
		{[]api.Entry{l[0], l[1], l[3], l[4], l[6]}, []api.Entry{l[0], l[1], l[3]}},
		{[]api.Entry{l[0], l[1], l[3], l[6]}, []api.Entry{l[0], l[1], l[3]}},
		{[]api.Entry{l[0], l[3], l[6]}, []api.Entry{l[3]}},
		{[]api.Entry{l[0], l[3], l[6]}, []api.Entry{l[3]}},
	} {
		checkCompact(t, l, floor, false, want.any...)
		checkCompact(t, l, floor, true, want.bottom...)
	}
}

// P7.1: with bottom nothing may be left at all.
func TestCompactToNothing(t *testing.T) {
	l := []api.Entry{del("", 4), set("", 2, "x"), del("a", 3), del("a", 1), {Key: "b", Seq: 2, Del: true, Value: "with a value"}}
	checkCompact(t, l, 4, true)
	checkCompact(t, l, 4, false, l[0], l[2], l[4])
	checkCompact(t, l, 3, true, l[0], l[1])
	checkCompact(t, l, 3, false, l[0], l[1], l[2], l[4])
}

// P7.1: entries remain as they are, the zero key and odd values included, and keys that are prefixes are different keys.
func TestCompactOddEntries(t *testing.T) {
	l := []api.Entry{set("", 0, ""), set("", -1, ""), {Key: "a", Seq: 2, Del: true, Value: "x"}, set("a", 1, ""), set("a\x00", 1, ""), set("aa", 2, ""), set("aa", 1, "y")}
	checkCompact(t, l, 2, false, l[0], l[2], l[4], l[5])
	checkCompact(t, l, 2, true, l[0], l[4], l[5])
	checkCompact(t, l, 1, true, l[0], l[2], l[3], l[4], l[5], l[6])
	checkCompact(t, l, -1, true, l...)
}
