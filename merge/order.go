package merge

import (
	"cmp"
	"strings"

	"convoy/api"
)

// order is negative if an entry comes before another one, 0 if they have the same Key and Seq: of one Key the newest comes first.
func order(e, other api.Entry) int {
	return cmp.Or(strings.Compare(e.Key, other.Key), cmp.Compare(other.Seq, e.Seq))
}

// inOrder reports whether each entry comes after the previous one.
func inOrder(list []api.Entry) bool {
	for i := 1; i < len(list); i++ {
		if order(list[i-1], list[i]) >= 0 {
			return false
		}
	}
	return true
}

// newest reports whether entry i of a list in order is, of those with its Key whose Seq is not above seq, the newest.
func newest(list []api.Entry, i, seq int) bool {
	return list[i].Seq <= seq && (i == 0 || list[i-1].Key != list[i].Key || list[i-1].Seq > seq)
}
