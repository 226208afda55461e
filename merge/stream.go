package merge

import (
	"cmp"
	"container/heap"
	"sync"

	"convoy/api"
)

// send sends a list's entries, until they are all sent or no more are needed.
func send(list []api.Entry, to chan<- api.Entry, enough <-chan struct{}, senders *sync.WaitGroup) {
	defer senders.Done()
	defer close(to)
sending:
	for _, e := range list {
		select {
		case to <- e:
		case <-enough:
			break sending
		}
	}
}

// head is the first entry of a list that the merging has not gone past, with the channel that the next ones come over.
type head struct {
	entry api.Entry
	place int // of the list among the lists
	next  <-chan api.Entry
}

// heads are a heap, so that also of many lists the least head is found in a few steps. Of heads with the same Key and Seq that of the first list is the least.
type heads []head

func (h heads) Len() int { return len(h) }

func (h heads) Less(i, j int) bool {
	return cmp.Or(order(h[i].entry, h[j].entry), cmp.Compare(h[i].place, h[j].place)) < 0
}

func (h heads) Swap(i, j int) { h[i], h[j] = h[j], h[i] }

// Push is called by package heap alone.
func (h *heads) Push(x any) { *h = append(*h, x.(head)) }

// Pop is called by package heap alone.
func (h *heads) Pop() any {
	last := len(*h) - 1
	x := (*h)[last]
	*h = (*h)[:last]
	return x
}

// add adds the first entry that comes over a channel, if one comes.
func (h *heads) add(place int, entries <-chan api.Entry) {
	if e, more := <-entries; more {
		heap.Push(h, head{e, place, entries})
	}
}

// advance puts the next entry of its list in the place of the least head, or removes that head if there is none.
func (h *heads) advance() {
	least := &(*h)[0]
	e, more := <-least.next
	if !more {
		heap.Pop(h)
		return
	}
	least.entry = e
	heap.Fix(h, 0)
}
