package escheat_test

import (
	"reflect"
	"slices"
	"testing"

	"escheat/api"
	"escheat/escheat"
)

// endAfter is the bits of a caller who lets so many polls go by, and wants the call to end at the next one.
func endAfter(polls int) []bool {
	bits := make([]bool, polls+1)
	bits[polls] = true
	return bits
}

// estate has, of untyped memory in slot 3 (256), a thread in slot 4 (256), which waits at an endpoint in slot 5 (272), and a node
// of 4 slots in slot 6 (288). That one holds, of the same memory, a node of 2 slots (304) with a frame (312) in slot 1, a badged
// copy of the endpoint in slot 2, and untyped memory (320) in slot 3. Of this one there is a frame (320) in slot 7 of the root,
// a copy of it in 9, and one of that in 10. A copy of the node in the node is in slot 8. Memory in slot 11 (128) lies fallow.
func estate(t *testing.T) *escheat.Kernel {
	t.Helper()
	k := escheat.Boot()
	must(t, k, retype(at(0), api.Untyped, 7, 1, 11))
	must(t, k, retype(at(0), api.Untyped, 7, 1, 3))
	must(t, k, retype(at(3), api.Task, 4, 1, 4))
	must(t, k, retype(at(3), api.Endpoint, 2, 1, 5))
	must(t, k, retype(at(3), api.Node, 4, 1, 6))
	must(t, k, retype(at(3), api.Node, 3, 1, 6, 1))
	must(t, k, retype(at(3), api.Frame, 2, 1, 6, 1, 0))
	must(t, k, retype(at(3), api.Untyped, 4, 1, 6, 3))
	must(t, k, retype(at(6, 3), api.Frame, 3, 1, 7))
	must(t, k, minted(at(5), at(6, 2), 3, 5))
	must(t, k, copied(at(6, 1), at(8), 7))
	must(t, k, copied(at(7), at(9), 7))
	must(t, k, copied(at(9), at(10), 1))
	must(t, k, store(at(7), 7, 9))
	must(t, k, store(at(6, 1, 0), 3, 8))
	mustBy(t, k, 256, sent(at(5), 6))
	return k
}

// vacant is estate when the node in slot 6 was doomed a moment ago; what else came of the memory in slot 3 is gone, but for what
// lies in the node. So there are 8 steps to be done: 4 slots, 2 of the node within, and that each of the two leaves the list.
func vacant(t *testing.T) *escheat.Kernel {
	t.Helper()
	k := estate(t)
	for _, slot := range []int{4, 5, 8, 7, 9, 10} {
		must(t, k, removed(slot))
	}
	answers(t, k, first, removed(6), api.Preempted, true)
	return k
}

// interrupted is the calls that work something off, in kernels where there is something, and how many polls they have.
var interrupted = []struct {
	build func(*testing.T) *escheat.Kernel
	call  api.Call
	polls int
}{
	{estate, removed(10), 1},
	{estate, removed(3), 1}, // memory alone: what came of it stays
	{estate, removed(5), 1},
	{estate, removed(8), 1},
	{estate, removed(6), 1 + 4 + 1}, // there is a copy of the node within
	{estate, revoked(7), 2},
	{estate, revoked(6, 1), 1},
	{estate, revoked(6, 3), 3},
	{estate, revoked(11), 0},
	{estate, revoked(3), 10 + 3 + 5}, // 10 are below it; two nodes are worked off
	{vacant, revoked(3), 8},
	{vacant, removed(3), 8 + 1},
	{vacant, retype(at(0), api.Frame, 2, 1, 12), 8},     // it has children yet: no reset
	{vacant, retype(at(3), api.Frame, 2, 1, 12), 8 + 5}, // a reset of 80 words
	{vacant, retype(at(3), api.Task, 4, 3, 12), 8 + 5},
}

// P3: there is one poll behind each step, and none elsewhere.
func TestPolls(t *testing.T) {
	for _, c := range interrupted {
		if got := polls(t, func() *escheat.Kernel { return c.build(t) }, c.call); got != c.polls {
			t.Errorf("%+v: %d polls, want %d", c.call, got, c.polls)
		}
	}
	for _, c := range []struct {
		call   api.Call
		doomed int // polls, if something is
	}{
		{removed(12), 8}, {removed(16), 8}, {removed(), 8}, {revoked(12), 8}, {revoked(16), 8}, {revoked(), 8},
		{retype(nil, 0, 0, 0), 8}, {retype(at(0), 6, 0, 1, 12), 8}, {retype(at(0), api.Frame, 2, 1, 0), 8},
		{retype(at(3), api.Untyped, 8, 1, 12), 8 + 5}, // ErrRoom is told behind the reset
		{copied(at(1), at(12), 7), 0}, {moved(at(1), at(12)), 0}, {load(at(1), 0), 0}, {api.Call{Kind: 12}, 0},
	} {
		if got := polls(t, func() *escheat.Kernel { return vacant(t) }, c.call); got != c.doomed {
			t.Errorf("%+v, when a node is doomed: %d polls, want %d", c.call, got, c.doomed)
		}
		if got := polls(t, func() *escheat.Kernel { return estate(t) }, c.call); got != 0 {
			t.Errorf("%+v, when nothing is doomed: %d polls", c.call, got)
		}
	}
}

// P9: at whatever polls a call is preempted, called again it comes to the same.
func TestPreemptedAnywhere(t *testing.T) {
	for _, c := range interrupted {
		whole := c.build(t)
		must(t, whole, c.call, make([]bool, c.polls)...)
		want := look(whole)
		for n := range c.polls {
			for m := range c.polls - n {
				k := c.build(t)
				answers(t, k, first, c.call, api.Preempted, endAfter(n)...)
				_, err := k.Do(first, c.call, endAfter(m)...)
				for err == api.Preempted {
					_, err = k.Do(first, c.call)
				}
				if err != api.OK && (err != api.ErrSlot || c.call.Kind != api.Delete) {
					t.Fatalf("P9: %+v, preempted at polls %d and %d: error %d", c.call, n, m, err)
				}
				if got := look(k); !reflect.DeepEqual(got, want) {
					t.Fatalf("P9: %+v, preempted at polls %d and %d:\n%+v\nnot preempted:\n%+v", c.call, n, m, got, want)
				}
			}
		}
	}
}

// P9: a call that is preempted at each poll ends, behind as many calls as it has polls.
func TestPreemptedEachTime(t *testing.T) {
	for _, c := range interrupted {
		whole, k := c.build(t), c.build(t)
		must(t, whole, c.call)
		for range c.polls {
			answers(t, k, first, c.call, api.Preempted, true, true)
		}
		if c.call.Kind == api.Delete {
			refused(t, k, first, c.call, api.ErrSlot, true)
		} else {
			must(t, k, c.call, true)
		}
		if one, other := look(k), look(whole); !reflect.DeepEqual(one, other) {
			t.Errorf("P9: %+v, preempted at each poll:\n%+v\nnot preempted:\n%+v", c.call, one, other)
		}
	}
}

// P3: a Revoke that is preempted each time: what is gone, what is doomed, and how the thread stands that waits, behind each step.
func TestRevokeOfAnEstate(t *testing.T) {
	waits := api.Thread{State: api.Sending}
	k := estate(t)
	left := k.Caps()
	for n, step := range []struct {
		gone   [2]int // -1: nothing
		doomed [][2]int
	}{
		{[2]int{288, 3}, nil}, {[2]int{0, 7}, nil}, {[2]int{0, 9}, nil}, {[2]int{0, 10}, nil},
		{[2]int{304, 0}, nil}, {[2]int{288, 1}, nil},
		{[2]int{0, 8}, [][2]int{{304, 2}}}, {[2]int{-1}, [][2]int{{304, 1}}}, {[2]int{-1}, [][2]int{{304, 0}}}, {[2]int{-1}, nil},
		{[2]int{0, 6}, [][2]int{{288, 4}}}, {[2]int{-1}, [][2]int{{288, 3}}}, {[2]int{288, 2}, [][2]int{{288, 2}}},
		{[2]int{-1}, [][2]int{{288, 1}}}, {[2]int{-1}, [][2]int{{288, 0}}}, {[2]int{-1}, nil},
		{[2]int{0, 5}, nil}, {[2]int{0, 4}, nil},
	} {
		answers(t, k, first, revoked(3), api.Preempted, true)
		left = slices.DeleteFunc(left, func(e api.Entry) bool { return [2]int{e.Node, e.Index} == step.gone })
		wantLeft(t, k, left)
		wantDoomed(t, k, step.doomed...)
		switch {
		case n < 16:
			wantThread(t, k, 256, waits)
		case n == 16:
			wantThread(t, k, 256, api.Thread{State: api.Ready, Err: api.ErrGone})
		default:
			wantNoThread(t, k, 256)
		}
	}
	refused(t, k, 256, load(at(0), 0), api.ErrThread)
	before := look(k)
	must(t, k, revoked(3), true)
	if now := look(k); !reflect.DeepEqual(before, now) {
		t.Errorf("P10: a Revoke that has nothing left to do changed\n%+v into\n%+v", before, now)
	}
}

// wantLeft compares all capabilities with those that there were, whatever their parents are.
func wantLeft(t *testing.T, k *escheat.Kernel, want []api.Entry) {
	t.Helper()
	lies := bySlot(look(k))
	for _, e := range want {
		if lies[[2]int{e.Node, e.Index}].Cap != e.Cap {
			t.Errorf("slot %d of node %d: %v, want %v", e.Index, e.Node, lies[[2]int{e.Node, e.Index}].Cap, e.Cap)
		}
	}
	if len(lies) != len(want) {
		t.Errorf("Caps: %d, want %d: %v", len(lies), len(want), k.Caps())
	}
}

// P1, P2: bits are of one call alone, whether it asks for them or not.
func TestBitsOfOneCall(t *testing.T) {
	k := estate(t)
	must(t, k, removed(10), false, true, true)
	must(t, k, revoked(7))
	must(t, k, copied(at(7), at(9), 7), true, true)
	must(t, k, revoked(7))
	refused(t, k, first, removed(12), api.ErrSlot, true, true)
	refused(t, k, 256, removed(12), api.ErrThread, true, true)
	refused(t, k, first, api.Call{Kind: 12}, api.ErrArg, true, true)
	answers(t, k, first, removed(6), api.Preempted, true, true, true)
	answers(t, k, first, removed(6), api.ErrSlot)
	wantDoomed(t, k)
	must(t, k, removed(7), nil...)
	wantEmpty(t, k, 0, 7)
}

// P2: bits are not written into, nor what stands behind them, which is not asked either; and they are not kept.
func TestBitsAreLeftAlone(t *testing.T) {
	k := estate(t)
	all := []bool{false, false, true, true, true}
	must(t, k, removed(6), all[:2]...)
	if !slices.Equal(all, []bool{false, false, true, true, true}) {
		t.Errorf("bits were written into: %v", all)
	}
	k = estate(t)
	answers(t, k, first, removed(6), api.Preempted, all...)
	if !slices.Equal(all, []bool{false, false, true, true, true}) {
		t.Errorf("bits were written into: %v", all)
	}
	before := look(k)
	clear(all)
	if now := look(k); !reflect.DeepEqual(before, now) {
		t.Errorf("bits were kept:\n%+v\n%+v", before, now)
	}
	for i := range all {
		all[i] = true
	}
	answers(t, k, first, removed(6), api.ErrSlot)
	wantDoomed(t, k)
}

// P3: whoever calls next goes on with what is doomed, wherever its own addresses lead.
func TestOthersGoOn(t *testing.T) {
	k := vacant(t)
	must(t, k, retype(at(11), api.Task, 4, 1, 4), endAfter(8)...) // 128
	must(t, k, retype(at(0), api.Node, 3, 2, 5))                  // 384, 392
	must(t, k, rooted(at(4), at(5)))
	must(t, k, copied(at(6), at(7), 7))
	answers(t, k, first, removed(6), api.Preempted, true)
	answers(t, k, first, removed(7), api.Preempted, true)
	wantDoomed(t, k, [2]int{392, 2})
	answers(t, k, 128, revoked(7), api.Preempted, true)
	wantDoomed(t, k, [2]int{392, 1})
	answers(t, k, 128, retype(at(0), api.Frame, 2, 1, 1), api.ErrType, false, false)
	wantDoomed(t, k)
}

// P3: what others do between two calls counts: a Revoke takes back what came of the capability meanwhile.
func TestHandedOnMeanwhile(t *testing.T) {
	k := estate(t)
	must(t, k, retype(at(11), api.Task, 4, 1, 12)) // 128
	answers(t, k, first, revoked(7), api.Preempted, true)
	wantEmpty(t, k, 0, 9)
	mustBy(t, k, 128, copied(at(7), at(13), 7))
	mustBy(t, k, 128, copied(at(10), at(14), 1))
	mustBy(t, k, 128, moved(at(10), at(9)))
	for _, slot := range []int{13, 9, 14} {
		capAt(t, k, 0, slot)
		answers(t, k, first, revoked(7), api.Preempted, true)
		wantEmpty(t, k, 0, slot)
	}
	must(t, k, revoked(7), true)
	capAt(t, k, 0, 7)
}

// P1, P3: a node within a node within a node, and so on: each is doomed when the one that holds it is worked off.
func TestLongChain(t *testing.T) {
	const nodes = 80
	chain := func() *escheat.Kernel {
		k := escheat.Boot()
		must(t, k, retype(at(0), api.Node, 3, 1, 3))
		for range nodes - 1 {
			must(t, k, retype(at(0), api.Node, 3, 1, 4))
			must(t, k, moved(at(3), at(4, 0)))
			must(t, k, moved(at(4), at(3)))
		}
		return k
	}
	if got := polls(t, chain, removed(3)); got != 1+3*nodes {
		t.Errorf("Delete of %d nodes, one within the other: %d polls, want %d", nodes, got, 1+3*nodes)
	}
	k := chain()
	answers(t, k, first, removed(3), api.Preempted, endAfter(2*nodes-2)...)
	if l := k.Doomed(); len(l) != nodes || l[0] != (api.Doom{Node: 80 + 8*(nodes-1)}) || l[nodes-1] != (api.Doom{Node: 80, Left: 2}) {
		t.Errorf("Doomed = %v", l)
	}
	answers(t, k, first, removed(3), api.ErrSlot)
	wantCaps(t, k, atFirst(80+8*nodes))
	wantDoomed(t, k)
}

// P3, P10: nodes that hold each other fall together, each one once.
func TestCircleOfNodes(t *testing.T) {
	circle := func() *escheat.Kernel {
		k := escheat.Boot()
		must(t, k, retype(at(0), api.Untyped, 5, 1, 5)) // 96
		must(t, k, retype(at(5), api.Node, 3, 2, 3))
		must(t, k, moved(at(4), at(3, 1)))
		must(t, k, moved(at(3), at(3, 1, 0)))
		return k
	}
	if got := polls(t, circle, revoked(5)); got != 7 {
		t.Errorf("Revoke of two nodes that hold each other: %d polls, want 7", got)
	}
	k := circle()
	for _, want := range [][][2]int{
		{{104, 2}}, {{104, 1}}, {{104, 0}, {96, 2}}, {{104, 0}, {96, 1}}, {{104, 0}, {96, 0}}, {{104, 0}}, {},
	} {
		answers(t, k, first, revoked(5), api.Preempted, true)
		wantDoomed(t, k, want...)
	}
	must(t, k, revoked(5), true)
	memory := api.Cap{Type: api.Untyped, Base: 96, Bits: 5, Rights: 7, Mark: 16}
	wantCaps(t, k, append(atFirst(128), entry(5, memory, 0)))
}

// P3: a caller that is destroyed is asked for its bits to the call's end.
func TestDestroyedCallerIsPolled(t *testing.T) {
	k := doomedCaller(t)
	answers(t, k, 80, removed(0), api.Preempted, false, true)
	wantNoThread(t, k, 80)
	wantDoomed(t, k, [2]int{96, 0})

	k = doomedCaller(t)
	answers(t, k, 80, revoked(1), api.Preempted, false, false, false, true)
	wantNoThread(t, k, 80)
	wantEmpty(t, k, 128, 2)

	k = escheat.Boot()
	answers(t, k, first, revoked(0), api.Preempted, false, false, true)
	wantNoThread(t, k, first)
	wantDoomed(t, k, [2]int{0, 15})
	answers(t, k, first, revoked(0), api.ErrThread)
	wantDoomed(t, k, [2]int{0, 15})
}
