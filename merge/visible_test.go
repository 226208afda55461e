package merge_test

import (
	"math"
	"testing"

	"convoy/api"
)

// P7.1: of each Key the newest entry whose Seq is not above seq is seen, and nothing of a Key that has none.
func TestVisible(t *testing.T) {
	l := []api.Entry{set("a", 6, "a6"), set("a", 4, "a4"), set("a", 2, "a2"), set("b", 5, "b5"), set("c", 3, "c3"), set("c", 1, "c1")}
	for seq, want := range [][]api.Pair{
		{},
		{{Key: "c", Value: "c1"}},
		{{Key: "a", Value: "a2"}, {Key: "c", Value: "c1"}},
		{{Key: "a", Value: "a2"}, {Key: "c", Value: "c3"}},
		{{Key: "a", Value: "a4"}, {Key: "c", Value: "c3"}},
		{{Key: "a", Value: "a4"}, {Key: "b", Value: "b5"}, {Key: "c", Value: "c3"}},
		{{Key: "a", Value: "a6"}, {Key: "b", Value: "b5"}, {Key: "c", Value: "c3"}},
		{{Key: "a", Value: "a6"}, {Key: "b", Value: "b5"}, {Key: "c", Value: "c3"}},
	} {
		checkVisible(t, l, seq, want...)
	}
	checkVisible(t, l, math.MinInt)
	checkVisible(t, l, math.MaxInt, api.Pair{Key: "a", Value: "a6"}, api.Pair{Key: "b", Value: "b5"}, api.Pair{Key: "c", Value: "c3"})
}

// P7.1: a Key whose newest entry is a deletion is not seen; older values stay hidden, newer deletions hide nothing.
func TestVisibleDeletions(t *testing.T) {
	l := []api.Entry{del("a", 6), set("a", 4, "a4"), del("a", 2), set("b", 5, "b5"), del("b", 3), set("b", 1, "b1")}
	for seq, want := range [][]api.Pair{
		{},
		{{Key: "b", Value: "b1"}},
		{{Key: "b", Value: "b1"}},
		{},
		{{Key: "a", Value: "a4"}},
		{{Key: "a", Value: "a4"}, {Key: "b", Value: "b5"}},
		{{Key: "b", Value: "b5"}},
	} {
		checkVisible(t, l, seq, want...)
	}
}

// P7.1: a deletion is not seen even if it has a value; a value that is the empty text is seen.
func TestVisibleOddValues(t *testing.T) {
	l := []api.Entry{set("", 3, ""), {Key: "a", Seq: 3, Del: true, Value: "x"}, set("a", 2, ""), set("b", 3, "")}
	checkVisible(t, l, 3, api.Pair{}, api.Pair{Key: "b"})
	checkVisible(t, l, 2, api.Pair{Key: "a"})
	checkVisible(t, l, 1)
}

// P7.1: keys that are prefixes of one another are different keys, the empty one among them.
func TestVisiblePrefixes(t *testing.T) {
	l := []api.Entry{set("", 2, "0"), set("\x00", 1, "1"), set("a", 2, "2"), set("a\x00", 2, "3"), set("a\x00", 1, "4"), set("aa", 1, "5"), set("\xff", 1, "6")}
	checkVisible(t, l, 1, api.Pair{Key: "\x00", Value: "1"}, api.Pair{Key: "a\x00", Value: "4"}, api.Pair{Key: "aa", Value: "5"}, api.Pair{Key: "\xff", Value: "6"})
	checkVisible(t, l, 2, api.Pair{Value: "0"}, api.Pair{Key: "\x00", Value: "1"}, api.Pair{Key: "a", Value: "2"}, api.Pair{Key: "a\x00", Value: "3"}, api.Pair{Key: "aa", Value: "5"}, api.Pair{Key: "\xff", Value: "6"})
}
