package escheat_test

import (
	"reflect"
	"testing"

	"escheat/api"
	"escheat/escheat"
)

// Example 2 (P3, P4).
func TestExample2(t *testing.T) {
	k := escheat.Boot()
	must(t, k, retype(at(0), api.Frame, 3, 2, 3))
	must(t, k, store(at(3), 7, 9))
	must(t, k, removed(3))
	must(t, k, removed(4))
	wantCaps(t, k, atFirst(96))
	wantWord(t, k, 87, 9)
	must(t, k, retype(at(0), api.Frame, 2, 1, 3), true)
	wantCaps(t, k, append(atFirst(100), entry(3, api.Cap{Type: api.Frame, Base: 96, Bits: 2, Rights: 7}, 0)))
	wantWord(t, k, 87, 9)
}

// Example 4 (P3, P4).
func TestExample4(t *testing.T) {
	k := escheat.Boot()
	must(t, k, retype(at(0), api.Untyped, 6, 1, 5))
	must(t, k, retype(at(0), api.Node, 3, 1, 7))
	must(t, k, moved(at(7), at(7, 0)))
	before := look(k)
	must(t, k, revoked(5), true)
	if !reflect.DeepEqual(before, look(k)) {
		t.Errorf("Revoke of what has no children changed\n%v into\n%v", before, look(k))
	}
	answers(t, k, first, revoked(0), api.Preempted, true)
	wantDoomed(t, k, [2]int{192, 2})
	wantEmpty(t, k, 192, 0)
	must(t, k, revoked(0))
	wantNoThread(t, k, first)
	wantDoomed(t, k)
	wantCaps(t, k, nil)
}

// Example 5 (P3): how many polls there are.
func TestExample5(t *testing.T) {
	build := func() *escheat.Kernel {
		k := escheat.Boot()
		must(t, k, copied(at(1), at(8), 7))
		must(t, k, retype(at(0), api.Node, 3, 1, 3))
		must(t, k, retype(at(0), api.Frame, 2, 1, 3, 1))
		return k
	}
	if n := polls(t, build, removed(8)); n != 1 {
		t.Errorf("Delete of a copy: %d polls, want 1", n)
	}
	if n := polls(t, build, removed(3)); n != 4 {
		t.Errorf("Delete of a node of 2 slots: %d polls, want 4", n)
	}
	if n := polls(t, build, revoked(3)); n != 0 {
		t.Errorf("Revoke of what has no children: %d polls, want 0", n)
	}
	if n := polls(t, build, revoked(1)); n != 1 {
		t.Errorf("Revoke of what has one child: %d polls, want 1", n)
	}
	k := build()
	for _, left := range []int{2, 1, 0} {
		answers(t, k, first, removed(3), api.Preempted, true)
		wantDoomed(t, k, [2]int{80, left})
		if left == 1 {
			wantEmpty(t, k, 80, 1)
		}
	}
	answers(t, k, first, removed(3), api.Preempted, true)
	wantDoomed(t, k)
	refused(t, k, first, removed(3), api.ErrSlot, true)
}

// P3, P4: children stand in the place of the one that goes, in their order.
func TestDeleteLeavesChildrenInPlace(t *testing.T) {
	k := escheat.Boot()
	must(t, k, retype(at(0), api.Frame, 2, 1, 3))
	for _, c := range [][2]int{{3, 4}, {3, 5}, {3, 6}, {5, 7}, {5, 8}, {7, 9}} {
		must(t, k, copied(at(c[0]), at(c[1]), 7))
	}
	frame := func(index, place int) api.Entry {
		return entry(index, api.Cap{Type: api.Frame, Base: 80, Bits: 2, Rights: 7}, place)
	}
	must(t, k, removed(5))
	wantCaps(t, k, append(atFirst(84), frame(3, 0), frame(4, 3), frame(7, 3), frame(9, 7), frame(8, 3), frame(6, 3)))
	must(t, k, removed(4))
	must(t, k, removed(6))
	wantCaps(t, k, append(atFirst(84), frame(3, 0), frame(7, 3), frame(9, 7), frame(8, 3)))
	must(t, k, copied(at(3), at(4), 7))
	must(t, k, removed(3))
	wantCaps(t, k, append(atFirst(84), frame(7, 0), frame(9, 7), frame(8, 0), frame(4, 0)))
	must(t, k, moved(at(7), at(3)))
	must(t, k, removed(3))
	wantCaps(t, k, append(atFirst(84), frame(9, 0), frame(8, 0), frame(4, 0)))
}

// P3, P4: children of one that has no parent have none either, and stand behind all others that have none.
func TestDeleteOfWhatHasNoParent(t *testing.T) {
	k := escheat.Boot()
	must(t, k, retype(at(0), api.Frame, 2, 2, 3))
	for _, c := range [][2]int{{3, 5}, {3, 6}, {5, 7}, {4, 8}} {
		must(t, k, copied(at(c[0]), at(c[1]), 7))
	}
	frame := func(index, base, parent, place int) api.Entry {
		return api.Entry{Index: index, Cap: api.Cap{Type: api.Frame, Base: base, Bits: 2, Rights: 7}, Parent: parent, Place: place}
	}
	must(t, k, removed(0))
	start := atFirst(0)[1:]
	for i := range start {
		start[i].Parent, start[i].Place = -1, -1
	}
	wantCaps(t, k, append(start, frame(3, 80, -1, -1), frame(5, 80, 0, 3), frame(7, 80, 0, 5),
		frame(6, 80, 0, 3), frame(4, 84, -1, -1), frame(8, 84, 0, 4)))
	must(t, k, removed(3))
	wantCaps(t, k, append(start, frame(4, 84, -1, -1), frame(8, 84, 0, 4),
		frame(5, 80, -1, -1), frame(7, 80, 0, 5), frame(6, 80, -1, -1)))
	must(t, k, removed(5))
	wantCaps(t, k, append(start, frame(4, 84, -1, -1), frame(8, 84, 0, 4),
		frame(6, 80, -1, -1), frame(7, 80, -1, -1)))
	must(t, k, revoked(4))
	wantCaps(t, k, append(start, frame(4, 84, -1, -1), frame(6, 80, -1, -1), frame(7, 80, -1, -1)))
}

// P1, P3: what Delete and Revoke refuse.
func TestTakingErrors(t *testing.T) {
	k := escheat.Boot()
	for _, c := range []func(...int) api.Call{removed, revoked} {
		refused(t, k, first, c(3), api.ErrSlot, true)
		refused(t, k, first, c(1, 3), api.ErrSlot)
		refused(t, k, first, c(16), api.ErrAddress, true)
		refused(t, k, first, c(3, 0), api.ErrAddress)
		refused(t, k, first, c(), api.ErrAddress)
		refused(t, k, 80, c(0), api.ErrThread)
	}
}

// P3: no right is asked of what is taken away, or of what is revoked.
func TestTakingNeedsNoRights(t *testing.T) {
	k := escheat.Boot()
	must(t, k, retype(at(0), api.Frame, 2, 1, 3))
	must(t, k, copied(at(3), at(4), 0))
	must(t, k, copied(at(4), at(5), 0))
	must(t, k, revoked(4))
	wantEmpty(t, k, 0, 5)
	must(t, k, removed(4))
	wantEmpty(t, k, 0, 4)
}

// P3: an object is there till its last capability goes, whichever that is and whatever its rights.
func TestLastOfAnObject(t *testing.T) {
	k := escheat.Boot()
	must(t, k, retype(at(0), api.Task, 4, 1, 3))
	must(t, k, retype(at(0), api.Node, 3, 1, 4))
	must(t, k, copied(at(3), at(5), 0))
	must(t, k, copied(at(4), at(6), 0))
	must(t, k, removed(3))
	must(t, k, removed(4))
	wantThread(t, k, 80, api.Thread{State: api.Ready})
	must(t, k, retype(at(0), api.Frame, 2, 1, 6, 1))
	must(t, k, removed(5))
	wantNoThread(t, k, 80)
	answers(t, k, 80, load(at(0), 0), api.ErrThread)
	must(t, k, removed(6))
	wantEmpty(t, k, 96, 1)
	refused(t, k, first, load(at(6, 1), 0), api.ErrAddress)
}

// P3: the last one is told by Base and Type: what else begins there is another object.
func TestLastByBaseAndType(t *testing.T) {
	k := escheat.Boot()
	must(t, k, retype(at(0), api.Untyped, 4, 1, 3))
	must(t, k, retype(at(3), api.Node, 3, 1, 4))
	answers(t, k, first, removed(4), api.Preempted, true)
	wantDoomed(t, k, [2]int{80, 2})
}

// deep has a node of 2 slots in slot 3 (80), in it a frame and one of 2 slots (88), in that one a frame and one of 4 (96), which is empty.
func deep(t *testing.T) *escheat.Kernel {
	t.Helper()
	k := escheat.Boot()
	must(t, k, retype(at(0), api.Node, 3, 1, 3))
	must(t, k, retype(at(0), api.Node, 3, 1, 3, 1))
	must(t, k, retype(at(0), api.Node, 4, 1, 3, 1, 0))
	must(t, k, retype(at(0), api.Frame, 2, 1, 3, 1, 1))
	must(t, k, retype(at(0), api.Frame, 2, 1, 3, 0))
	return k
}

// deepSteps is how the list stands behind each poll of a Delete At 3 in deep.
var deepSteps = [][][2]int{
	{{80, 2}}, {{80, 1}, {88, 2}}, {{80, 1}, {88, 1}}, {{80, 1}, {88, 0}, {96, 4}},
	{{80, 1}, {88, 0}, {96, 3}}, {{80, 1}, {88, 0}, {96, 2}}, {{80, 1}, {88, 0}, {96, 1}}, {{80, 1}, {88, 0}, {96, 0}},
	{{80, 1}, {88, 0}}, {{80, 1}}, {{80, 0}}, {},
}

// P3, P4: the list of doomed nodes, step by step, the same whether each step has its own call or not.
func TestDoomedStepByStep(t *testing.T) {
	k := deep(t)
	for n, want := range deepSteps {
		answers(t, k, first, removed(3), api.Preempted, true)
		wantDoomed(t, k, want...)
		bits := make([]bool, n+1)
		bits[n] = true
		atOnce := deep(t)
		answers(t, atOnce, first, removed(3), api.Preempted, bits...)
		if one, other := look(k), look(atOnce); !reflect.DeepEqual(one, other) {
			t.Errorf("P9: %d polls one by one:\n%v\nat once:\n%v", n, one, other)
		}
	}
	wantCaps(t, k, atFirst(120))
	refused(t, k, first, removed(3), api.ErrSlot, true)
	whole := deep(t)
	must(t, whole, removed(3))
	if one, other := look(k), look(whole); !reflect.DeepEqual(one, other) {
		t.Errorf("P9: preempted:\n%v\nnot preempted:\n%v", one, other)
	}
}

// P4: what lies in a doomed node is told till it is taken away.
func TestDoomedNodesHoldYet(t *testing.T) {
	k := deep(t)
	answers(t, k, first, removed(3), api.Preempted, false, true)
	frame := func(node, index, base int) api.Entry {
		return api.Entry{Node: node, Index: index, Cap: api.Cap{Type: api.Frame, Base: base, Bits: 2, Rights: 7}}
	}
	wantCaps(t, k, append(atFirst(120),
		api.Entry{Node: 88, Index: 0, Cap: api.Cap{Type: api.Node, Base: 96, Bits: 4, Rights: 7}},
		frame(88, 1, 112), frame(80, 0, 116)))
}

// P2: the list of doomed nodes is the caller's.
func TestDoomedIsNewMemory(t *testing.T) {
	k := deep(t)
	answers(t, k, first, removed(3), api.Preempted, false, false, false, true)
	l := k.Doomed()
	clear(l[:cap(l)])
	_ = append(k.Doomed()[:1], api.Doom{Node: 7, Left: 7})
	wantDoomed(t, k, deepSteps[3]...)
	answers(t, k, first, removed(3), api.Preempted, true)
	if kept := k.Doomed(); len(l) != 3 || l[0] != (api.Doom{}) || kept[2].Left != 3 {
		t.Errorf("a list that came out was written into: %v", l)
	}
}

// P3: no address leads into a doomed node, and whose root it was has none.
func TestDoomedNodesAreOutOfReach(t *testing.T) {
	k := escheat.Boot()
	must(t, k, retype(at(0), api.Task, 4, 2, 3))
	must(t, k, retype(at(0), api.Node, 3, 1, 5))
	must(t, k, retype(at(0), api.Frame, 2, 1, 6))
	must(t, k, copied(at(6), at(5, 0), 7))
	must(t, k, rooted(at(3), at(5)))
	mustBy(t, k, 80, store(at(0), 0, 4))
	wantThread(t, k, 80, api.Thread{State: api.Ready, Root: 112})
	answers(t, k, first, removed(5), api.Preempted, true)
	wantThread(t, k, 80, api.Thread{State: api.Ready, Root: -1})
	wantThread(t, k, 96, api.Thread{State: api.Ready})
	refused(t, k, 80, load(at(0), 0), api.ErrAddress)
	refused(t, k, 80, copied(at(0), at(1), 7), api.ErrAddress)
	refused(t, k, first, load(at(5, 0), 0), api.ErrAddress)
	must(t, k, rooted(at(3), at(1)))
	mustBy(t, k, 80, store(at(6), 0, 5))
	wantDoomed(t, k, [2]int{112, 2})
}

// P3: Retype, Delete and Revoke work off what is doomed, whatever may be wrong with them; the other calls do not.
func TestWhoWorksOff(t *testing.T) {
	bad := []struct {
		call api.Call
		want api.Errno
	}{
		{retype(nil, 0, 0, 0), api.ErrAddress},
		{retype(at(1), 0, 0, 0), api.ErrType},
		{retype(at(0), 0, 0, 0), api.ErrArg},
		{retype(at(0), api.Frame, 2, 1, 2), api.ErrSlot},
		{retype(at(0), api.Untyped, 10, 1, 9), api.ErrRoom},
		{removed(), api.ErrAddress}, {removed(3), api.ErrSlot}, {removed(16), api.ErrAddress},
		{revoked(), api.ErrAddress}, {revoked(3), api.ErrSlot}, {revoked(3, 1), api.ErrAddress},
	}
	for _, c := range bad {
		k := deep(t)
		answers(t, k, first, removed(3), api.Preempted, true)
		answers(t, k, first, c.call, api.Preempted, false, true)
		wantDoomed(t, k, deepSteps[2]...)
		answers(t, k, first, c.call, c.want, make([]bool, 9)...)
		wantDoomed(t, k)
		wantCaps(t, k, atFirst(120))
	}
	k := deep(t)
	must(t, k, retype(at(0), api.Endpoint, 2, 1, 4))
	must(t, k, retype(at(0), api.Frame, 2, 1, 5))
	must(t, k, retype(at(0), api.Task, 4, 1, 6))
	answers(t, k, first, removed(3), api.Preempted, true)
	for _, c := range []api.Call{
		copied(at(5), at(7), 7), minted(at(4), at(8), 7, 1), moved(at(7), at(9)),
		store(at(5), 0, 1), load(at(5), 0), rooted(at(6), at(1)),
	} {
		must(t, k, c, true)
	}
	mustBy(t, k, 128, received(4))
	must(t, k, sent(at(4), 3), true)
	answers(t, k, first, api.Call{Kind: 12}, api.ErrArg)
	answers(t, k, 7, removed(3), api.ErrThread)
	mustBy(t, k, 128, received(4))
	answers(t, k, 128, removed(3), api.ErrThread)
	wantDoomed(t, k, deepSteps[0]...)
}

// P3: Retype works off first, and then does what it was called for.
func TestRetypeWorksOffFirst(t *testing.T) {
	k := escheat.Boot()
	must(t, k, retype(at(0), api.Untyped, 6, 1, 3))
	must(t, k, retype(at(3), api.Node, 3, 1, 4))
	must(t, k, retype(at(3), api.Frame, 2, 1, 4, 0))
	must(t, k, store(at(4, 0), 3, 8))
	answers(t, k, first, removed(4), api.Preempted, true)
	// Slot 1, slot 0, its leaving, and the reset of 12 words: the doomed node's memory is not made use of before.
	for _, mark := range []int{12, 12, 12, 0} {
		answers(t, k, first, retype(at(3), api.Node, 3, 1, 4), api.Preempted, true)
		if got := capAt(t, k, 0, 3).Cap.Mark; got != mark {
			t.Errorf("Mark = %d, want %d", got, mark)
		}
	}
	must(t, k, retype(at(3), api.Node, 3, 1, 4), true)
	if got := capAt(t, k, 0, 4).Cap.Base; got != 128 {
		t.Errorf("the new node's Base = %d, want 128", got)
	}
	must(t, k, copied(at(4), at(4, 1), 7))
}

// P3: Revoke takes the last child away, then the last of those that are there by then, a poll behind each.
func TestRevokeStepByStep(t *testing.T) {
	k := escheat.Boot()
	must(t, k, retype(at(0), api.Frame, 2, 2, 3))
	for _, c := range [][2]int{{3, 5}, {3, 6}, {6, 7}, {6, 8}, {8, 9}, {5, 10}} {
		must(t, k, copied(at(c[0]), at(c[1]), 7))
	}
	for _, gone := range []int{6, 8, 9, 7, 5, 10} {
		capAt(t, k, 0, gone)
		answers(t, k, first, revoked(3), api.Preempted, true)
		wantEmpty(t, k, 0, gone)
	}
	must(t, k, revoked(3), true)
	wantCaps(t, k, append(atFirst(88),
		entry(3, api.Cap{Type: api.Frame, Base: 80, Bits: 2, Rights: 7}, 0),
		entry(4, api.Cap{Type: api.Frame, Base: 84, Bits: 2, Rights: 7}, 0)))
}

// P3, P10: what is below one is taken back wherever it lies by now, and what lay in nodes that are gone by that.
func TestRevokeReachesFar(t *testing.T) {
	k := escheat.Boot()
	must(t, k, retype(at(0), api.Untyped, 6, 2, 3)) // 128, 192
	must(t, k, retype(at(3), api.Node, 3, 1, 5))
	must(t, k, retype(at(4), api.Frame, 2, 2, 6))
	must(t, k, retype(at(4), api.Node, 3, 1, 8)) // 200
	must(t, k, copied(at(6), at(9), 1))
	must(t, k, moved(at(6), at(5, 0)))     // its child stays in slot 9
	must(t, k, copied(at(5), at(8, 0), 7)) // a copy elsewhere is below it all the same
	must(t, k, revoked(3))
	untyped := func(index, base, mark int) api.Entry {
		return entry(index, api.Cap{Type: api.Untyped, Base: base, Bits: 6, Rights: 7, Mark: mark}, 0)
	}
	frame := api.Cap{Type: api.Frame, Base: 192, Bits: 2, Rights: 1}
	other := api.Cap{Type: api.Frame, Base: 196, Bits: 2, Rights: 7}
	wantCaps(t, k, append(atFirst(256), untyped(3, 128, 8), untyped(4, 192, 16),
		entry(9, frame, 4), entry(7, other, 4), entry(8, api.Cap{Type: api.Node, Base: 200, Bits: 3, Rights: 7}, 4)))
	wantDoomed(t, k)
}

// P3, P10: a Revoke of what is taken away by it ends there; those of its children that are left have another parent.
func TestRevokeOfWhatGoesMeanwhile(t *testing.T) {
	k := escheat.Boot()
	must(t, k, retype(at(0), api.Untyped, 6, 1, 5))
	must(t, k, retype(at(5), api.Frame, 2, 1, 6))
	must(t, k, retype(at(5), api.Node, 3, 1, 7))
	must(t, k, moved(at(5), at(7, 0)))
	must(t, k, revoked(7, 0))
	wantCaps(t, k, append(atFirst(192), entry(6, api.Cap{Type: api.Frame, Base: 128, Bits: 2, Rights: 7}, 0)))
	wantDoomed(t, k)
}

// P3: a caller that takes itself away, or its root, goes on to the call's end.
func TestCallerTakesItselfAway(t *testing.T) {
	k := escheat.Boot()
	must(t, k, retype(at(0), api.Task, 4, 1, 3))
	mustBy(t, k, 80, removed(3))
	wantNoThread(t, k, 80)
	must(t, k, removed(1))
	wantNoThread(t, k, first)
	wantCaps(t, k, nil)
	wantDoomed(t, k)

	k = escheat.Boot()
	answers(t, k, first, removed(1), api.Preempted, true)
	wantThread(t, k, first, api.Thread{State: api.Ready, Root: -1})
	wantDoomed(t, k, [2]int{0, 16})
	answers(t, k, first, removed(1), api.ErrAddress)
	wantNoThread(t, k, first)
	wantDoomed(t, k)
	answers(t, k, first, removed(1), api.ErrThread)
}

// doomedCaller has the thread at 80, which lies in a doomed node alone; its root is the node at 128, with the memory in slot 0,
// a node in slot 1 and a copy of that in slot 2.
func doomedCaller(t *testing.T) *escheat.Kernel {
	t.Helper()
	k := escheat.Boot()
	must(t, k, retype(at(0), api.Task, 4, 1, 3))
	must(t, k, retype(at(0), api.Node, 3, 1, 4)) // 96
	must(t, k, retype(at(0), api.Node, 5, 1, 5)) // 128
	must(t, k, rooted(at(3), at(5)))
	must(t, k, retype(at(0), api.Node, 3, 1, 5, 1)) // 160
	must(t, k, copied(at(5, 1), at(5, 2), 7))
	must(t, k, moved(at(0), at(5, 0)))
	must(t, k, moved(at(3), at(4, 1)))
	answers(t, k, first, removed(4), api.Preempted, true)
	wantThread(t, k, 80, api.Thread{State: api.Ready, Root: 128})
	return k
}

// P3: a caller that is destroyed by what it works off looks things up by the root that it had.
func TestCallerDestroyedMeanwhile(t *testing.T) {
	k := doomedCaller(t)
	mustBy(t, k, 80, retype(at(0), api.Task, 4, 2, 5))
	wantNoThread(t, k, 80)
	for i, base := range []int{176, 192} {
		wantThread(t, k, base, api.Thread{State: api.Ready, Root: 128})
		if got := capAt(t, k, 128, 5+i).Cap.Base; got != base {
			t.Errorf("slot %d: %d, want %d", 5+i, got, base)
		}
	}

	k = doomedCaller(t)
	mustBy(t, k, 80, removed(0))
	wantNoThread(t, k, 80)
	wantEmpty(t, k, 128, 0)

	k = doomedCaller(t)
	mustBy(t, k, 80, revoked(1))
	wantNoThread(t, k, 80)
	wantEmpty(t, k, 128, 2)
	capAt(t, k, 128, 1)

	k = doomedCaller(t)
	answers(t, k, 80, removed(3), api.ErrSlot)
	wantNoThread(t, k, 80)
	wantDoomed(t, k)

	k = doomedCaller(t)
	answers(t, k, 80, removed(0), api.Preempted, true)
	wantNoThread(t, k, 80)
	answers(t, k, 80, removed(0), api.ErrThread)
	wantDoomed(t, k, [2]int{96, 1})
}

// P3: a caller whose root is destroyed by what it works off finds nothing any more.
func TestRootDestroyedMeanwhile(t *testing.T) {
	build := func() *escheat.Kernel {
		k := escheat.Boot()
		must(t, k, retype(at(0), api.Task, 4, 1, 3))
		must(t, k, retype(at(0), api.Node, 3, 2, 4)) // 96, 104
		must(t, k, rooted(at(3), at(4)))
		must(t, k, moved(at(4), at(5, 0)))
		answers(t, k, first, removed(5), api.Preempted, true)
		wantThread(t, k, 80, api.Thread{State: api.Ready, Root: 96})
		return k
	}
	for _, c := range []api.Call{removed(0), revoked(0), retype(at(0), api.Frame, 2, 1, 1)} {
		k := build()
		answers(t, k, 80, c, api.ErrAddress)
		wantThread(t, k, 80, api.Thread{State: api.Ready, Root: -1})
		wantDoomed(t, k)
	}
	// A call that works nothing off reaches the root yet: it is not doomed, though it lies in what is.
	k := build()
	refused(t, k, 80, load(at(0), 0), api.ErrType)
	must(t, k, retype(at(0), api.Frame, 2, 1, 6))
	wantThread(t, k, 80, api.Thread{State: api.Ready, Root: -1})
}

// P3: what is made where something was has nothing of it: slots, roots.
func TestMadeAnew(t *testing.T) {
	k := escheat.Boot()
	must(t, k, retype(at(0), api.Untyped, 6, 1, 3))
	must(t, k, retype(at(0), api.Task, 4, 1, 4)) // 192
	must(t, k, retype(at(3), api.Node, 4, 1, 5))
	must(t, k, retype(at(0), api.Frame, 2, 1, 5, 3))
	must(t, k, rooted(at(4), at(5)))
	must(t, k, removed(5))
	must(t, k, retype(at(3), api.Node, 4, 1, 5))
	if got := capAt(t, k, 0, 5).Cap.Base; got != 128 {
		t.Fatalf("the new node's Base = %d, want 128", got)
	}
	wantThread(t, k, 192, api.Thread{State: api.Ready, Root: -1})
	refused(t, k, first, load(at(5, 3), 0), api.ErrType)
	refused(t, k, 192, load(at(3), 0), api.ErrAddress)
	must(t, k, removed(5))
	must(t, k, retype(at(3), api.Node, 3, 1, 5))
	refused(t, k, first, load(at(5, 3), 0), api.ErrAddress)
}
