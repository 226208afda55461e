package merge_test

import (
	"fmt"
	"runtime"
	"slices"
	"sync"
	"testing"
	"time"

	"convoy/api"
	"convoy/merge"
)

// ended waits until no more goroutines run than before.
func ended(t *testing.T, before int) {
	t.Helper()
	for range 1000 {
		if runtime.NumGoroutine() <= before {
			return
		}
		time.Sleep(time.Millisecond)
	}
	t.Errorf("P7.1: %d goroutines are left; before there were %d", runtime.NumGoroutine(), before)
}

// P7.1 (LANGUAGE.md, 6): whatever a call answers, no goroutine is left of it for ever.
func TestNoGoroutineIsLeft(t *testing.T) {
	before := runtime.NumGoroutine()
	lists := slices.Repeat([][]api.Entry{sorted, nil, sorted[3:]}, 20)
	for n := -1; n < len(sorted)+2; n++ {
		checkFirst(t, lists, n, sorted)
	}
	checkMerge(t, lists, sorted)
	checkOrder(t, append(lists, []api.Entry{sorted[1], sorted[0]})...)
	ended(t, before)
}

// P7.1 (LANGUAGE.md, 6): when a call answers, its goroutines have ended. On one processor a goroutine that tells its end runs on until it is over, save for a rare interruption; those that nobody waited for would all still be there.
func TestGoroutinesAreJoined(t *testing.T) {
	defer runtime.GOMAXPROCS(runtime.GOMAXPROCS(1))
	before := runtime.NumGoroutine()
	lists := slices.Repeat([][]api.Entry{sorted}, 50)
	for _, n := range []int{0, 1, 5, 1000} {
		joined := 0
		for range 20 {
			merge.First(lists, n)
			if runtime.NumGoroutine() <= before {
				joined++
			}
			ended(t, before)
		}
		if joined < 10 {
			t.Errorf("P7.1: First(.., %d): only after %d of 20 calls had all goroutines ended", n, joined)
		}
	}
}

// P7.1 (R8): many calls at one time, on the same lists, answer as one alone.
func TestCallsAtOneTime(t *testing.T) {
	var calls sync.WaitGroup
	for i := range 16 {
		calls.Go(func() {
			for n := range len(sorted) {
				checkFirst(t, [][]api.Entry{sorted[i:], sorted, sorted[:i]}, n, sorted)
			}
		})
	}
	calls.Wait()
}

// quickest returns the least time that some calls took.
func quickest(call func()) time.Duration {
	least := time.Hour
	for range 5 {
		start := time.Now()
		call()
		least = min(least, time.Since(start))
	}
	return least
}

// P7.1 (the chapter's ways): First ends the senders early: it takes much less time than sending everything does.
func TestFirstEndsEarly(t *testing.T) {
	var l []api.Entry
	for i := range 100000 {
		l = append(l, set(fmt.Sprintf("%06d", i), 1, ""))
	}
	lists := [][]api.Entry{l, l}
	first, all := quickest(func() { merge.First(lists, 2) }), quickest(func() { merge.Merge(lists) })
	if first > all/4 {
		t.Errorf("P7.1: First took %v, Merge %v", first, all)
	}
}
