package escheat_test

import (
	"reflect"
	"testing"

	"escheat/api"
	"escheat/escheat"
)

// meeting has threads at 80, 96 and 112 in the slots 3 to 5, and an endpoint in slot 6 (128), in slot 7 one with the badge 9.
func meeting(t *testing.T) *escheat.Kernel {
	t.Helper()
	k := escheat.Boot()
	must(t, k, retype(at(0), api.Task, 4, 3, 3))
	must(t, k, retype(at(0), api.Endpoint, 2, 1, 6))
	must(t, k, minted(at(6), at(7), 7, 9))
	return k
}

// P3, P4: who sends first waits, and gets nothing by that; who receives gets the value, and the badge that it was sent by.
func TestSendThenReceive(t *testing.T) {
	k := meeting(t)
	for _, c := range []struct{ at, value, badge int }{{6, 0, 0}, {7, greatest, 9}, {6, 5, 0}} {
		mustBy(t, k, 80, sent(at(c.at), c.value), true)
		wantThread(t, k, 80, api.Thread{State: api.Sending})
		if w := must(t, k, received(6), true); w != 0 {
			t.Errorf("Receive answers %d", w)
		}
		wantThread(t, k, 80, api.Thread{State: api.Ready})
		wantThread(t, k, first, api.Thread{State: api.Ready, Value: c.value, Badge: c.badge})
	}
}

// P3, P4: who receives first waits; who sends goes on at once, with what it had.
func TestReceiveThenSend(t *testing.T) {
	k := meeting(t)
	mustBy(t, k, 80, received(7))
	wantThread(t, k, 80, api.Thread{State: api.Receiving})
	must(t, k, sent(at(6), greatest))
	wantThread(t, k, 80, api.Thread{State: api.Ready, Value: greatest})
	wantThread(t, k, first, api.Thread{State: api.Ready})
	mustBy(t, k, 80, received(6))
	wantThread(t, k, 80, api.Thread{State: api.Receiving, Value: greatest})
	must(t, k, sent(at(7), 3))
	wantThread(t, k, 80, api.Thread{State: api.Ready, Value: 3, Badge: 9})
	mustBy(t, k, 80, sent(at(6), 8))
	wantThread(t, k, 80, api.Thread{State: api.Sending, Value: 3, Badge: 9})
	must(t, k, received(6))
	wantThread(t, k, 80, api.Thread{State: api.Ready, Value: 3, Badge: 9})
}

// P3: those that wait are served in the order in which they came.
func TestWaitingInOrder(t *testing.T) {
	k := meeting(t)
	for i, base := range []int{112, 80, 96} {
		mustBy(t, k, base, sent(at(6), i))
	}
	for i, base := range []int{112, 80, 96} {
		must(t, k, received(6))
		wantThread(t, k, first, api.Thread{State: api.Ready, Value: i})
		wantThread(t, k, base, api.Thread{State: api.Ready})
	}
	for _, base := range []int{96, 112, 80} {
		mustBy(t, k, base, received(7))
	}
	for i, base := range []int{96, 112, 80} {
		must(t, k, sent(at(6), 10+i))
		wantThread(t, k, base, api.Thread{State: api.Ready, Value: 10 + i})
	}
	must(t, k, sent(at(6), 1))
	wantThread(t, k, first, api.Thread{State: api.Sending, Value: 2})
}

// P3: a thread that waits makes no calls, whatever they are.
func TestWhoWaitsMakesNoCalls(t *testing.T) {
	k := meeting(t)
	must(t, k, retype(at(0), api.Endpoint, 2, 1, 8))
	mustBy(t, k, 80, sent(at(6), 1))
	mustBy(t, k, 96, received(8))
	for kind := range 13 {
		for _, base := range []int{80, 96} {
			refused(t, k, base, api.Call{Kind: kind, At: at(6), To: at(9)}, api.ErrThread, true)
		}
	}
}

// P3: endpoints have nothing to do with each other.
func TestEndpointsStandAlone(t *testing.T) {
	k := meeting(t)
	must(t, k, retype(at(0), api.Endpoint, 2, 1, 8))
	mustBy(t, k, 80, sent(at(6), 1))
	mustBy(t, k, 96, received(8))
	mustBy(t, k, 112, sent(at(8), 2))
	wantThread(t, k, 80, api.Thread{State: api.Sending})
	wantThread(t, k, 96, api.Thread{State: api.Ready, Value: 2})
	must(t, k, removed(8))
	wantThread(t, k, 80, api.Thread{State: api.Sending})
}

// P3: Send asks for Write, Receive for Read; Grant is of no use for either. P1: rights ahead of the value.
func TestEndpointRights(t *testing.T) {
	for rights := range 8 {
		k := meeting(t)
		must(t, k, copied(at(7), at(8), rights))
		if rights&api.Write == 0 {
			refused(t, k, 80, sent(at(8), 1), api.ErrRights)
			refused(t, k, 80, sent(at(8), -1), api.ErrRights)
		} else {
			mustBy(t, k, 80, sent(at(8), 1))
			must(t, k, received(6))
		}
		if rights&api.Read == 0 {
			refused(t, k, 80, received(8), api.ErrRights)
		} else {
			mustBy(t, k, 80, received(8))
		}
	}
}

// P1, P3: what Send and Receive refuse.
func TestEndpointErrors(t *testing.T) {
	k := meeting(t)
	must(t, k, retype(at(0), api.Frame, 2, 1, 8))
	for _, other := range []int{0, 1, 2, 8, 9} {
		refused(t, k, first, sent(at(other), -1), api.ErrType)
		refused(t, k, first, received(other), api.ErrType)
	}
	refused(t, k, first, sent(at(16), -1), api.ErrAddress)
	for _, value := range []int{-1, greatest + 1, huge, -huge - 1} {
		refused(t, k, first, sent(at(6), value), api.ErrArg)
	}
	mustBy(t, k, 80, received(6))
	refused(t, k, first, sent(at(6), -1), api.ErrArg)
}

// P3: the badge is that of the capability that was sent by, though it be gone by now.
func TestBadgeOutlastsItsCapability(t *testing.T) {
	k := meeting(t)
	mustBy(t, k, 80, sent(at(7), 4))
	must(t, k, removed(7))
	wantThread(t, k, 80, api.Thread{State: api.Sending})
	must(t, k, received(6))
	wantThread(t, k, first, api.Thread{State: api.Ready, Value: 4, Badge: 9})
}

// P3, P4: all that wait at an endpoint go on when its last capability goes, and not before.
func TestEndpointIsGone(t *testing.T) {
	for _, receiving := range []bool{false, true} {
		k := meeting(t)
		mustBy(t, k, 96, sent(at(7), 6))
		must(t, k, received(6))
		for _, base := range []int{80, 96, 112} {
			if receiving {
				mustBy(t, k, base, received(7))
			} else {
				mustBy(t, k, base, sent(at(7), 4))
			}
		}
		before := look(k).threads
		must(t, k, removed(6))
		if after := look(k).threads; !reflect.DeepEqual(before, after) {
			t.Errorf("threads %v became %v, though the endpoint is there", before, after)
		}
		must(t, k, removed(7))
		for _, base := range []int{80, 96, 112} {
			wantThread(t, k, base, api.Thread{State: api.Ready, Err: api.ErrGone})
		}
		wantThread(t, k, first, api.Thread{State: api.Ready, Value: 6, Badge: 9})
	}
}

// P4: ErrGone takes the place of what was got before, and what is got later takes its place; a Send that is done does not.
func TestGotAnew(t *testing.T) {
	k := meeting(t)
	must(t, k, retype(at(0), api.Endpoint, 2, 1, 8))
	mustBy(t, k, 80, received(6))
	must(t, k, sent(at(7), 5))
	wantThread(t, k, 80, api.Thread{State: api.Ready, Value: 5, Badge: 9})
	mustBy(t, k, 80, sent(at(8), 7))
	must(t, k, removed(8))
	gone := api.Thread{State: api.Ready, Err: api.ErrGone}
	wantThread(t, k, 80, gone)
	mustBy(t, k, 96, received(6))
	mustBy(t, k, 80, sent(at(6), 7))
	wantThread(t, k, 80, gone)
	mustBy(t, k, 80, received(6))
	wantThread(t, k, 80, api.Thread{State: api.Receiving, Err: api.ErrGone})
	must(t, k, sent(at(6), 1))
	wantThread(t, k, 80, api.Thread{State: api.Ready, Value: 1})
}

// P3: an endpoint goes by a Revoke, and with a node that held its last capability, too.
func TestEndpointGoesWithOthers(t *testing.T) {
	k := meeting(t)
	mustBy(t, k, 80, received(6))
	must(t, k, retype(at(0), api.Node, 3, 1, 8))
	must(t, k, moved(at(6), at(8, 0)))
	must(t, k, moved(at(7), at(8, 1)))
	answers(t, k, first, removed(8), api.Preempted, false, true)
	wantThread(t, k, 80, api.Thread{State: api.Receiving})
	answers(t, k, first, removed(8), api.Preempted, true)
	wantThread(t, k, 80, api.Thread{State: api.Ready, Err: api.ErrGone})

	k = escheat.Boot()
	must(t, k, retype(at(0), api.Untyped, 4, 1, 3))
	must(t, k, retype(at(0), api.Task, 4, 1, 4))
	must(t, k, retype(at(3), api.Endpoint, 2, 1, 5))
	must(t, k, copied(at(5), at(6), 3))
	mustBy(t, k, 96, sent(at(6), 1))
	must(t, k, revoked(5))
	wantThread(t, k, 96, api.Thread{State: api.Sending})
	must(t, k, revoked(3))
	wantThread(t, k, 96, api.Thread{State: api.Ready, Err: api.ErrGone})
}

// P3: a thread that is no more waits nowhere; the others keep their order.
func TestWaitingThreadIsGone(t *testing.T) {
	k := meeting(t)
	for i, base := range []int{80, 96, 112} {
		mustBy(t, k, base, sent(at(6), i))
	}
	must(t, k, removed(4))
	for _, value := range []int{0, 2} {
		must(t, k, received(6))
		wantThread(t, k, first, api.Thread{State: api.Ready, Value: value})
	}
	for _, base := range []int{112, 80} {
		mustBy(t, k, base, received(6))
	}
	must(t, k, removed(5))
	must(t, k, sent(at(6), 4))
	wantThread(t, k, 80, api.Thread{State: api.Ready, Value: 4})
	mustBy(t, k, 80, received(6))
	must(t, k, removed(3))
	must(t, k, sent(at(6), 4))
	wantThread(t, k, first, api.Thread{State: api.Sending, Value: 2})
	wantNoThread(t, k, 80)
}

// P3: a copy keeps a thread waiting; it is the last one that counts.
func TestWaitingThreadHasACopy(t *testing.T) {
	k := meeting(t)
	must(t, k, copied(at(3), at(8), 0))
	mustBy(t, k, 80, received(6))
	must(t, k, removed(3))
	must(t, k, sent(at(6), 4))
	wantThread(t, k, 80, api.Thread{State: api.Ready, Value: 4})
}

// P3: what is made where a thread or an endpoint was has nothing of it.
func TestWaitersAreNotInherited(t *testing.T) {
	k := meeting(t)
	must(t, k, retype(at(0), api.Untyped, 5, 1, 8)) // 160
	must(t, k, retype(at(8), api.Task, 4, 1, 9))
	mustBy(t, k, 160, received(6))
	must(t, k, removed(9))
	must(t, k, retype(at(8), api.Task, 4, 1, 9))
	wantThread(t, k, 160, api.Thread{State: api.Ready})
	mustBy(t, k, 80, sent(at(6), 1))
	wantThread(t, k, 80, api.Thread{State: api.Sending})
	wantThread(t, k, 160, api.Thread{State: api.Ready})
	must(t, k, removed(9))
	must(t, k, retype(at(8), api.Endpoint, 2, 1, 9))
	mustBy(t, k, 96, sent(at(9), 1))
	must(t, k, removed(9))
	must(t, k, retype(at(8), api.Endpoint, 2, 1, 9))
	mustBy(t, k, 112, received(9))
	wantThread(t, k, 96, api.Thread{State: api.Ready, Err: api.ErrGone})
	wantThread(t, k, 112, api.Thread{State: api.Receiving})
}

// P1, P3: many wait at one endpoint, again and again, in the same memory.
func TestManyWait(t *testing.T) {
	k := escheat.Boot()
	must(t, k, retype(at(0), api.Endpoint, 2, 1, 4))
	must(t, k, retype(at(0), api.Node, 6, 2, 5))
	must(t, k, retype(at(0), api.Untyped, 9, 1, 3))
	for range 3 {
		for n := range 32 {
			must(t, k, retype(at(3), api.Task, 4, 1, 5+n/16, n%16))
			mustBy(t, k, 512+16*n, sent(at(4), n))
		}
		for n := range 10 {
			must(t, k, received(4))
			wantThread(t, k, first, api.Thread{State: api.Ready, Value: n})
			wantThread(t, k, 512+16*n, api.Thread{State: api.Ready})
			mustBy(t, k, 512+16*n, sent(at(4), n))
		}
		must(t, k, revoked(3))
	}
}
