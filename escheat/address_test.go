package escheat_test

import (
	"testing"

	"escheat/api"
	"escheat/escheat"
)

// nested has a node of 2 slots in slot 3, in its slot 1 one of 4, in that one's slot 2 a frame; a frame in slot 4.
func nested(t *testing.T) *escheat.Kernel {
	t.Helper()
	k := escheat.Boot()
	must(t, k, retype(at(0), api.Node, 3, 1, 3))
	must(t, k, retype(at(0), api.Node, 4, 1, 3, 1))
	must(t, k, retype(at(0), api.Frame, 2, 1, 3, 1, 2))
	must(t, k, retype(at(0), api.Frame, 2, 1, 4))
	return k
}

// P3: addresses of 1 to 3 numbers.
func TestAddressesLead(t *testing.T) {
	k := nested(t)
	must(t, k, store(at(3, 1, 2), 1, 11))
	must(t, k, store(at(4), 1, 12))
	for n, want := range map[int]int{113: 11, 117: 12} {
		if w, _ := k.Word(n); w != want {
			t.Errorf("Word(%d) = %d, want %d", n, w, want)
		}
	}
	must(t, k, moved(at(4), at(3, 1, 3)))
	if w := must(t, k, load(at(3, 1, 3), 1)); w != 12 {
		t.Errorf("Load = %d, want 12", w)
	}
}

// P3: a root's capability that lies in the root leads back into it.
func TestAddressesLeadThroughTheRoot(t *testing.T) {
	k := nested(t)
	must(t, k, store(at(1, 1, 4), 0, 9))
	if w := must(t, k, load(at(4), 0)); w != 9 {
		t.Errorf("Load = %d, want 9", w)
	}
}

// P3: no right is asked of a node on the way.
func TestAddressesNeedNoRights(t *testing.T) {
	k := nested(t)
	must(t, k, copied(at(3), at(5), 0))
	must(t, k, store(at(5, 1, 2), 0, 3))
	must(t, k, retype(at(0), api.Frame, 2, 1, 5, 0))
}

// P1, P3: addresses that lead nowhere, in each place where one is looked up.
func TestAddressesThatLeadNowhere(t *testing.T) {
	k := nested(t)
	for _, address := range [][]int{
		nil, {}, {16}, {-1}, {huge}, {-huge - 1},
		{3, 2}, {3, -1}, {3, 1, 4}, {3, 1, huge}, // no such slot
		{4, 0}, {0, 0}, {2, 0}, {3, 1, 2, 0}, // no node's
		{9, 0}, {3, 0, 0}, // nothing
		{1, 1, 1, 4}, {3, 1, 2, 0, 0},
	} {
		refused(t, k, first, retype(address, api.Frame, 2, 1, 9), api.ErrAddress)
		refused(t, k, first, retype(at(0), api.Frame, 2, 1, address...), api.ErrAddress)
		refused(t, k, first, copied(address, at(9), 7), api.ErrAddress)
		refused(t, k, first, copied(at(4), address, 7), api.ErrAddress)
		refused(t, k, first, moved(address, at(9)), api.ErrAddress)
		refused(t, k, first, moved(at(4), address), api.ErrAddress)
		refused(t, k, first, minted(address, at(9), 7, 1), api.ErrAddress)
		refused(t, k, first, load(address, 0), api.ErrAddress)
		refused(t, k, first, store(address, 0, 0), api.ErrAddress)
		refused(t, k, first, removed(address...), api.ErrAddress)
		refused(t, k, first, revoked(address...), api.ErrAddress)
		refused(t, k, first, sent(address, 0), api.ErrAddress)
		refused(t, k, first, received(address...), api.ErrAddress)
		refused(t, k, first, rooted(address, at(1)), api.ErrAddress)
		refused(t, k, first, rooted(at(2), address), api.ErrAddress)
	}
}

// P3: a new thread's root is that of the caller, and its addresses begin there.
func TestNewThread(t *testing.T) {
	k := nested(t)
	must(t, k, retype(at(0), api.Task, 4, 2, 5))
	for _, base := range []int{128, 144} {
		if thread, err := k.Thread(base); err != api.OK || thread != (api.Thread{State: api.Ready}) {
			t.Errorf("Thread(%d) = %+v, %d", base, thread, err)
		}
	}
	if _, err := k.Do(144, store(at(4), 0, 6)); err != api.OK {
		t.Errorf("a new thread's Store: %d", err)
	}
	if w := must(t, k, load(at(4), 0)); w != 6 {
		t.Errorf("Load = %d, want 6", w)
	}
	refused(t, k, 144, store(at(16), 0, 6), api.ErrAddress)
	refused(t, k, 145, store(at(4), 0, 6), api.ErrThread)
}
