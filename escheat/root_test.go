package escheat_test

import (
	"testing"

	"escheat/api"
	"escheat/escheat"
)

// offices has a thread in slot 3 (80), a node of 2 slots in slot 4 (96) with a frame in its slot 0 (104).
func offices(t *testing.T) *escheat.Kernel {
	t.Helper()
	k := escheat.Boot()
	must(t, k, retype(at(0), api.Task, 4, 1, 3))
	must(t, k, retype(at(0), api.Node, 3, 1, 4))
	must(t, k, retype(at(0), api.Frame, 2, 1, 4, 0))
	return k
}

// P3, P4: a thread's addresses begin at its new root; it keeps what else it has.
func TestRoot(t *testing.T) {
	k := offices(t)
	if w := must(t, k, rooted(at(3), at(4)), true); w != 0 {
		t.Errorf("Root answers %d", w)
	}
	wantThread(t, k, 80, api.Thread{State: api.Ready, Root: 96})
	wantThread(t, k, first, api.Thread{State: api.Ready})
	mustBy(t, k, 80, store(at(0), 1, 3))
	wantWord(t, k, 105, 3)
	refused(t, k, 80, load(at(2), 0), api.ErrAddress)
	must(t, k, rooted(at(3), at(1, 1)))
	mustBy(t, k, 80, store(at(4, 0), 1, 4))
	wantWord(t, k, 105, 4)
}

// P3: a thread may change its own root, and a new thread has the root of its maker.
func TestRootOfTheCaller(t *testing.T) {
	k := offices(t)
	must(t, k, moved(at(0), at(4, 1)))
	must(t, k, rooted(at(2), at(4)))
	wantThread(t, k, first, api.Thread{State: api.Ready, Root: 96})
	must(t, k, removed(0))
	must(t, k, retype(at(1), api.Task, 4, 1, 0))
	wantThread(t, k, 112, api.Thread{State: api.Ready, Root: 96})
}

// P3: the root of a thread that waits may change too; it waits on.
func TestRootOfWhoWaits(t *testing.T) {
	k := offices(t)
	must(t, k, retype(at(0), api.Endpoint, 2, 1, 5))
	mustBy(t, k, 80, received(5))
	must(t, k, rooted(at(3), at(4)))
	wantThread(t, k, 80, api.Thread{State: api.Receiving, Root: 96})
	must(t, k, sent(at(5), 6))
	wantThread(t, k, 80, api.Thread{State: api.Ready, Root: 96, Value: 6})
	must(t, k, removed(4))
	wantThread(t, k, 80, api.Thread{State: api.Ready, Root: -1, Value: 6})
}

// P4: a root that any capability leads to is there still.
func TestRootHasACopy(t *testing.T) {
	k := offices(t)
	must(t, k, copied(at(4), at(5), 0))
	must(t, k, rooted(at(3), at(4)))
	must(t, k, removed(4))
	wantThread(t, k, 80, api.Thread{State: api.Ready, Root: 96})
	mustBy(t, k, 80, load(at(0), 0))
	must(t, k, removed(5))
	wantThread(t, k, 80, api.Thread{State: api.Ready, Root: -1})
	refused(t, k, 80, load(at(0), 0), api.ErrAddress)
}

// P1, P3: what Root refuses, the error named first ahead of the others.
func TestRootErrors(t *testing.T) {
	k := offices(t)
	for _, other := range []int{0, 1, 4, 9} {
		refused(t, k, first, rooted(at(other), at(16)), api.ErrType)
	}
	refused(t, k, first, rooted(at(16), at(16)), api.ErrAddress)
	for _, other := range []int{0, 2, 3, 9} {
		refused(t, k, first, rooted(at(3), at(other)), api.ErrType)
	}
	for rights := range 8 {
		k := offices(t)
		must(t, k, copied(at(3), at(5), rights))
		must(t, k, copied(at(4), at(6), rights))
		if rights&api.Grant == 0 {
			refused(t, k, first, rooted(at(5), at(4)), api.ErrRights)
			refused(t, k, first, rooted(at(5), at(16)), api.ErrRights)
			refused(t, k, first, rooted(at(5), at(9)), api.ErrRights)
			refused(t, k, first, rooted(at(3), at(6)), api.ErrRights)
		} else {
			must(t, k, rooted(at(5), at(6)))
			wantThread(t, k, 80, api.Thread{State: api.Ready, Root: 96})
		}
	}
}
