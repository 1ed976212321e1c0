package escheat_test

import (
	"reflect"
	"slices"
	"testing"

	"escheat/api"
	"escheat/escheat"
)

// dice gives the same numbers in each run.
type dice uint64

func (d *dice) below(n int) int {
	*d = *d*6364136223846793005 + 1442695040888963407
	return int(uint64(*d)>>33) % n
}

// odd is mostly one of the low numbers, now and then one from far off.
func (d *dice) odd(n int) int {
	if d.below(12) > 0 {
		return d.below(n)
	}
	return []int{-1, -huge - 1, huge, n, n + 1, 1 << 32}[d.below(6)]
}

// address is mostly one that leads to a slot: any, or one that is full or empty as asked.
func (d *dice) address(v view, thread int, full bool) []int {
	root := v.threads[thread].Root
	if slots := slotsOf(v, root); slots > 0 && d.below(5) > 0 {
		for range 20 {
			list, isFull := d.descend(v, root, slots)
			if isFull == full {
				return list
			}
		}
	}
	list := make([]int, d.below(5))
	for i := range list {
		list[i] = d.odd(16)
	}
	return list
}

// descend from the root by up to 3 numbers, for as long as the way leads into a node.
func (d *dice) descend(v view, node, slots int) (list []int, full bool) {
	for range 3 {
		index := d.below(slots)
		list = append(list, index)
		c, found := lying(v, node, index)
		if c.Type != api.Node || d.below(3) == 0 {
			return list, found
		}
		node, slots = c.Base, 1<<c.Bits/4
	}
	return list, true
}

func lying(v view, node, index int) (api.Cap, bool) {
	for _, e := range v.caps {
		if e.Node == node && e.Index == index {
			return e.Cap, true
		}
	}
	return api.Cap{}, false
}

// slotsOf a node; 0, if there is no capability to it.
func slotsOf(v view, base int) int {
	for _, e := range v.caps {
		if e.Cap.Type == api.Node && e.Cap.Base == base {
			return 1 << e.Cap.Bits / 4
		}
	}
	return 0
}

// leastBits of each type of object.
var leastBits = [...]int{0, 4, 3, 2, 4, 2}

func (d *dice) call(v view, thread int) api.Call {
	kinds := []int{
		api.Retype, api.Retype, api.Retype, api.Copy, api.Copy, api.Mint, api.Move, api.Load, api.Store,
		api.Delete, api.Revoke, api.Send, api.Receive, api.Root, 0,
	}
	c := api.Call{
		Kind: kinds[d.below(len(kinds))], At: d.address(v, thread, true), To: d.address(v, thread, false),
		Type: d.odd(6), Bits: 2 + d.odd(5), Count: 1 + d.odd(3), Rights: d.odd(8),
		Badge: d.odd(65536), Value: d.odd(1 << 31), Offset: d.odd(8),
	}
	if d.below(2) == 0 {
		c.Rights = 7
	}
	if c.Type > 0 && c.Type < len(leastBits) && d.below(4) > 0 {
		c.Bits = leastBits[c.Type] + d.below(3)*d.below(2)
	}
	if kind := soughtBy(c.Kind); kind != 0 && d.below(8) > 0 {
		c.At = d.toward(v, thread, kind)
	}
	if soughtBy(c.Kind) == api.Endpoint && len(ready(v)) == 1 && d.below(20) > 0 {
		c.Kind = api.Mint // who would be left, if it waited?
	}
	if at, _ := follow(v, thread, c.At); c.Kind == api.Root && at == [2]int{0, 2} && d.below(20) > 0 {
		c.Kind = api.Copy // the first thread had better keep its root
	}
	if c.Kind == api.Root {
		c.To = d.toward(v, thread, api.Node)
	}
	if c.Kind == api.Delete || c.Kind == api.Revoke {
		if d.below(2) == 0 {
			c.At = d.toward(v, thread, []int{api.Node, api.Untyped}[d.below(2)]) // these have the most to fall with them
		}
		c.At = d.spare(v, thread, c.At)
	}
	return c
}

// taking is a call that may be preempted, with nothing wrong if it can be.
func (d *dice) taking(v view, thread int) api.Call {
	c := api.Call{
		Kind: []int{api.Retype, api.Retype, api.Delete, api.Revoke}[d.below(4)],
		Type: 1 + d.below(5), Count: 1, To: d.address(v, thread, false),
	}
	c.Bits = leastBits[c.Type]
	if c.Kind == api.Retype {
		c.At = d.toward(v, thread, api.Untyped)
	} else {
		c.At = d.spare(v, thread, d.toward(v, thread, []int{api.Node, api.Node, api.Untyped, 1 + d.below(5)}[d.below(4)]))
	}
	return c
}

// soughtBy a kind of call is a type of capability; 0: any.
func soughtBy(kind int) int {
	switch kind {
	case api.Retype:
		return api.Untyped
	case api.Mint, api.Send, api.Receive:
		return api.Endpoint
	case api.Load, api.Store:
		return api.Frame
	case api.Root:
		return api.Task
	}
	return 0
}

// spare mostly those that all hangs on, or a run would be over soon.
func (d *dice) spare(v view, thread int, address []int) []int {
	for range 20 {
		if at, _ := follow(v, thread, address); at[0] != 0 || at[1] > 2 || d.below(20) == 0 {
			return address
		}
		address = d.address(v, thread, true)
	}
	return nil
}

// toward is mostly an address that leads to a capability of one type.
func (d *dice) toward(v view, thread, kind int) []int {
	address := d.address(v, thread, true)
	for range 20 {
		if at, ok := follow(v, thread, address); ok {
			if c, _ := lying(v, at[0], at[1]); c.Type == kind {
				break
			}
		}
		address = d.address(v, thread, true)
	}
	return address
}

// follow an address to the slot that it leads to.
func follow(v view, thread int, address []int) (at [2]int, ok bool) {
	if len(address) == 0 {
		return at, false
	}
	node := v.threads[thread].Root
	for i, index := range address {
		if index < 0 || index >= slotsOf(v, node) {
			return at, false
		}
		at = [2]int{node, index}
		c, _ := lying(v, node, index)
		if i < len(address)-1 && c.Type != api.Node {
			return at, false
		}
		node = c.Base
	}
	return at, true
}

// thread is mostly one that is there; false, if none is.
func (d *dice) thread(v view) (int, bool) {
	bases := ready(v)
	if len(bases) == 0 {
		return 0, false
	}
	if d.below(10) == 0 {
		return d.odd(api.MaxWords), true
	}
	return bases[d.below(len(bases))], true
}

// ready are the threads that can make calls, in order.
func ready(v view) (bases []int) {
	for n := range api.MaxWords {
		if v.threads[n].State == api.Ready {
			bases = append(bases, n)
		}
	}
	return bases
}

// bits are few, and mostly false in every other list, so that many calls come to their end.
func (d *dice) bits() []bool {
	list, rare := make([]bool, d.below(6)), 2+3*d.below(2)
	for i := range list {
		list[i] = d.below(rare) == 0
	}
	return list
}

// interrupt is bits of which the last one alone is true.
func (d *dice) interrupt() []bool {
	list := make([]bool, 1+d.below(4))
	list[len(list)-1] = true
	return list
}

// takes tells whether a kind of call works off what is doomed.
func takes(kind int) bool {
	return kind == api.Retype || kind == api.Delete || kind == api.Revoke
}

// furnished has one or more of everything, so that any call has something to be done with.
func furnished(t *testing.T) *escheat.Kernel {
	t.Helper()
	k := escheat.Boot()
	must(t, k, retype(at(0), api.Task, 4, 3, 3))
	must(t, k, retype(at(0), api.Node, 5, 2, 6))
	must(t, k, retype(at(0), api.Endpoint, 2, 1, 8))
	must(t, k, retype(at(0), api.Untyped, 7, 2, 9))
	must(t, k, retype(at(9), api.Frame, 3, 1, 11))
	must(t, k, retype(at(10), api.Untyped, 6, 1, 6, 0))
	must(t, k, copied(at(7), at(6, 1), 7))
	must(t, k, retype(at(10), api.Node, 3, 2, 12))
	must(t, k, retype(at(10), api.Node, 4, 1, 12, 0))
	must(t, k, retype(at(10), api.Node, 3, 1, 12, 0, 1))
	return k
}

// P1: whatever comes, a call ends; beside an error there is nothing, and nothing is changed but where it is said.
// P2: it answers alike in a kernel that was used alike. P5 to P8 and P10 hold all the while.
func TestAnyCalls(t *testing.T) {
	done := map[int]int{}
	for seed := range 200 {
		d := dice(seed)
		one, other := furnished(t), furnished(t)
		before, bitsOf := look(one), map[int]int{}
		holds(t, before, bitsOf)
		for range 150 {
			thread, there := d.thread(before)
			if !there {
				break
			}
			c, bits := d.call(before, thread), d.bits()
			word, err := one.Do(thread, c, bits...)
			after := look(one)
			if w, e := other.Do(thread, c, bits...); w != word || e != err {
				t.Fatalf("Do(%d, %+v) = %d, %d, and %d, %d in a like kernel", thread, c, word, err, w, e)
			}
			if err == api.OK {
				done[c.Kind]++
			}
			keeps(t, before, after, thread, c, word, err)
			holds(t, after, bitsOf)
			before = after
		}
		if !reflect.DeepEqual(before, look(other)) {
			t.Fatalf("kernels that were used alike differ:\n%+v\n%+v", before, look(other))
		}
	}
	for kind := api.Retype; kind <= api.Root; kind++ {
		if done[kind] < 200 {
			t.Errorf("only %d calls of kind %d were OK: too few to tell", done[kind], kind)
		}
	}
}

// keeps checks P1, P8 and P10 of one call.
func keeps(t *testing.T, before, after view, thread int, c api.Call, word int, err api.Errno) {
	t.Helper()
	workedOff := takes(c.Kind) && len(before.doomed) > 0
	if err != api.OK {
		mayChange := workedOff || err == api.Preempted || err == api.ErrRoom
		if word != 0 || !mayChange && !reflect.DeepEqual(before, after) {
			t.Fatalf("P1: Do(%d, %+v) = %d, %d, but\n%+v\nbecame\n%+v", thread, c, word, err, before, after)
		}
	}
	if !takes(c.Kind) && !slices.Equal(before.doomed, after.doomed) {
		t.Fatalf("Do(%d, %+v): doomed %v became %v", thread, c, before.doomed, after.doomed)
	}
	if !(c.Kind == api.Retype && workedOff) {
		growsNot(t, before, after)
	}
	if c.Kind == api.Revoke && err == api.OK {
		at, _ := follow(before, thread, c.At)
		revokedAll(t, before, after, at)
	}
	if c.Kind == api.Retype && err == api.OK {
		at, _ := follow(before, thread, c.To)
		areNew(t, after, at, c.Count)
	}
}

// areNew checks P6 of what was just made: frames too have words 0 alone.
func areNew(t *testing.T, v view, at [2]int, count int) {
	t.Helper()
	for i := range count {
		c, _ := lying(v, at[0], at[1]+i)
		for n := c.Base; n < behind(c); n++ {
			if v.words[n] != 0 {
				t.Fatalf("P6: word %d of %v, which was just made, is %d", n, c, v.words[n])
			}
		}
	}
}

// powers that there are to objects: rights, and for an endpoint whether a capability has no badge.
func powers(v view) map[[2]int]int {
	all := map[[2]int]int{}
	for _, e := range v.caps {
		rights := e.Cap.Rights
		if e.Cap.Type == api.Endpoint && e.Cap.Badge == 0 {
			rights |= 8
		}
		all[[2]int{e.Cap.Type, e.Cap.Base}] |= rights
	}
	return all
}

// growsNot checks P8 of objects that were there before.
func growsNot(t *testing.T, before, after view) {
	t.Helper()
	had := powers(before)
	for object, has := range powers(after) {
		if had, was := had[object]; was && object[0] != api.Untyped && has&^had != 0 {
			t.Fatalf("P8: to %v there was %d, and is %d", object, had, has)
		}
	}
}

// bySlot has the entries by where they lie.
func bySlot(v view) map[[2]int]api.Entry {
	lies := map[[2]int]api.Entry{}
	for _, e := range v.caps {
		lies[[2]int{e.Node, e.Index}] = e
	}
	return lies
}

// revokedAll checks P10 of a Revoke that was OK.
func revokedAll(t *testing.T, before, after view, at [2]int) {
	t.Helper()
	if len(after.doomed) > 0 {
		t.Fatalf("P10: doomed %v", after.doomed)
	}
	was, is := bySlot(before), bySlot(after)
	if _, there := is[at]; !there {
		return // with it went what it was revoked by: those below it that were left have another parent
	}
	gone := fallen(before, was, at)
	for lay, e := range was {
		now, there := is[lay]
		if there == gone[lay] || there && now.Cap != e.Cap {
			t.Fatalf("P10: Revoke of %v: %v, gone %t, is %v, %t", at, e, gone[lay], now, there)
		}
		parent := [2]int{e.Parent, e.Place}
		for gone[parent] {
			parent = [2]int{was[parent].Parent, was[parent].Place}
		}
		if there && parent != [2]int{now.Parent, now.Place} {
			t.Fatalf("P10: Revoke of %v: %v has the parent %v", at, now, parent)
		}
		if parent == at && there {
			t.Fatalf("P10: Revoke of %v: it has the child %v", at, now)
		}
	}
	if before.words != after.words || len(was) < len(is) {
		t.Fatalf("P10: Revoke of %v changed words, or laid something", at)
	}
}

// fallen is what goes by a Revoke: all below a slot, what lies in nodes that all capabilities to go, and so on.
func fallen(v view, was map[[2]int]api.Entry, at [2]int) map[[2]int]bool {
	gone := map[[2]int]bool{}
	for lay, e := range was {
		for e.Parent != -1 {
			parent := [2]int{e.Parent, e.Place}
			if parent == at {
				gone[lay] = true
			}
			e = was[parent]
		}
	}
	for more := true; more; {
		more = false
		for lay := range was {
			if !gone[lay] && !isLeft(v, gone, lay[0]) {
				gone[lay], more = true, true
			}
		}
	}
	return gone
}

// isLeft tells whether a node has a capability that is not gone.
func isLeft(v view, gone map[[2]int]bool, base int) bool {
	for _, e := range v.caps {
		if e.Cap.Type == api.Node && e.Cap.Base == base && !gone[[2]int{e.Node, e.Index}] {
			return true
		}
	}
	return false
}

// holds checks P5, P6 and P7 of what can be seen; bitsOf keeps those of nodes, which the list of the doomed does not tell.
func holds(t *testing.T, v view, bitsOf map[int]int) {
	t.Helper()
	lies := bySlot(v)
	if len(lies) != len(v.caps) {
		t.Fatalf("two capabilities in one slot: %v", v.caps)
	}
	for i, e := range v.caps {
		parent, has := lies[[2]int{e.Parent, e.Place}]
		if has != (e.Parent != -1) || has != (e.Place != -1) {
			t.Fatalf("P4: the parent of %v", e)
		}
		if has && !comesOf(e.Cap, parent.Cap) {
			t.Fatalf("P7: %v came of %v", e, parent)
		}
		for _, f := range v.caps[:i] {
			if overlap(e.Cap, f.Cap) && !above(lies, f, e) && !sameObject(e.Cap, f.Cap) {
				t.Fatalf("P5: %v and %v", e, f)
			}
		}
		if e.Cap.Type == api.Node {
			bitsOf[e.Cap.Base] = e.Cap.Bits
		}
		for n := e.Cap.Base + e.Cap.Mark; n < behind(e.Cap) && e.Cap.Type != api.Frame; n++ {
			if v.words[n] != 0 {
				t.Fatalf("P4, P6: word %d of %v is %d", n, e, v.words[n])
			}
		}
	}
	for _, doom := range v.doomed {
		standsAlone(t, v, api.Cap{Type: api.Node, Base: doom.Node, Bits: bitsOf[doom.Node]})
	}
}

// standsAlone checks P5 of a doomed node, whose memory is below the Mark of all that it came of, and of no one else.
func standsAlone(t *testing.T, v view, doomed api.Cap) {
	t.Helper()
	for _, e := range v.caps {
		within := e.Cap.Type == api.Untyped && e.Cap.Base <= doomed.Base && behind(doomed) <= e.Cap.Base+e.Cap.Mark
		if overlap(e.Cap, doomed) && !within {
			t.Fatalf("P5: %v and the doomed node %v", e, doomed)
		}
	}
	for base, thread := range v.threads {
		if thread.Root == doomed.Base {
			t.Fatalf("P4: the doomed node %d is the root of %d", doomed.Base, base)
		}
	}
}

func behind(c api.Cap) int { return c.Base + 1<<c.Bits }

func overlap(c, d api.Cap) bool { return c.Base < behind(d) && d.Base < behind(c) }

func sameObject(c, d api.Cap) bool {
	return c.Type == d.Type && c.Type != api.Untyped && c.Base == d.Base && c.Bits == d.Bits
}

func comesOf(c, parent api.Cap) bool {
	if parent.Type == api.Untyped {
		return c.Base%(1<<c.Bits) == 0 && c.Base >= parent.Base && behind(c) <= parent.Base+parent.Mark && behind(c) <= behind(parent)
	}
	badgeKept := c.Badge == parent.Badge || parent.Badge == 0
	return sameObject(c, parent) && c.Rights&^parent.Rights == 0 && badgeKept
}

// above tells whether e is untyped memory that lies above f in the tree.
func above(lies map[[2]int]api.Entry, e, f api.Entry) bool {
	for f.Parent != -1 {
		f = lies[[2]int{f.Parent, f.Place}]
		if f == e {
			return e.Cap.Type == api.Untyped
		}
	}
	return false
}

// P9: a call that is preempted and called again comes to the same as one that is not, also where others have left something undone.
func TestAnyPreempted(t *testing.T) {
	compared, begun := map[int]int{}, 0
	for seed := range 200 {
		d := dice(seed + 1000)
		whole, broken := furnished(t), furnished(t)
		v := look(whole)
		for range 100 {
			thread, there := d.thread(v)
			if !there {
				break
			}
			c := d.taking(v, thread)
			if d.below(3) == 0 {
				c = d.call(v, thread)
			}
			if d.below(3) == 0 {
				v = leaveUndone(t, whole, broken, thread, c, d.interrupt())
				continue
			}
			_, want := whole.Do(thread, c)
			preemptions, got := again(t, broken, d, thread, c)
			if preemptions > 0 && (got == api.OK || got == api.ErrSlot && c.Kind == api.Delete) {
				compared[c.Kind]++
				begun += min(len(v.doomed), 1)
			} else if got != want {
				break // the caller, or its root, is no more: the kernels differ from here on
			}
			v = look(whole)
			if other := look(broken); !reflect.DeepEqual(v, other) {
				t.Fatalf("P9: %d, %+v, preempted %d times:\n%+v\nnot preempted:\n%+v", thread, c, preemptions, other, v)
			}
		}
	}
	for _, kind := range []int{api.Retype, api.Delete, api.Revoke} {
		if compared[kind] < 80 {
			t.Errorf("only %d calls of kind %d were preempted: too few to tell", compared[kind], kind)
		}
	}
	if begun < 50 {
		t.Errorf("only %d calls found something doomed: too few to tell", begun)
	}
}

// leaveUndone makes a call alike in two kernels, and tells how both stand.
func leaveUndone(t *testing.T, one, other *escheat.Kernel, thread int, c api.Call, bits []bool) view {
	t.Helper()
	_, got := one.Do(thread, c, bits...)
	_, want := other.Do(thread, c, bits...)
	v := look(one)
	if got != want || !reflect.DeepEqual(v, look(other)) {
		t.Fatalf("P2: Do(%d, %+v, %v): %d and %d", thread, c, bits, got, want)
	}
	return v
}

// again makes a call till it is not preempted any more, each time preempted sooner or later.
func again(t *testing.T, k *escheat.Kernel, d dice, thread int, c api.Call) (int, api.Errno) {
	t.Helper()
	for n := range 2000 {
		if _, err := k.Do(thread, c, d.interrupt()...); err != api.Preempted {
			return n, err
		}
	}
	t.Fatalf("P9: Do(%d, %+v): preempted without end", thread, c)
	return 0, 0
}
