package memtable

import "convoy/api"

const maxHeight = 12 // of a tower

// node is an entry, with the next node in each level that its tower reaches. Its number tells how many entries the table had with it: so an iterator knows those that came later.
type node struct {
	entry  api.Entry
	number int
	next   [maxHeight]*node
}

// ahead reports whether the node's entry comes before one with this key and this sequence number: of one key the newest comes first.
func (n *node) ahead(key string, seq int) bool {
	return n.entry.Key < key || n.entry.Key == key && n.entry.Seq > seq
}

// before returns for each level the last node that is ahead of this key and this sequence number.
func (t *Table) before(key string, seq int) [maxHeight]*node {
	var last [maxHeight]*node
	n := &t.head
levels:
	for level := maxHeight - 1; level >= 0; level-- {
		for {
			next := n.next[level]
			if next == nil || !next.ahead(key, seq) {
				last[level] = n
				continue levels
			}
			n = next
		}
	}
	return last
}

// first returns the first node that is not ahead of this key and this sequence number; nil if there is none.
func (t *Table) first(key string, seq int) *node {
	return t.before(key, seq)[0].next[0]
}
