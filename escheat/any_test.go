package escheat_test

import (
	"reflect"
	"testing"

	"escheat/api"
	"escheat/escheat"
)

// dice gives the same numbers in each run.
type dice uint64

func (d *dice) below(n int) int {
	*d = *d*6364136223846793005 + 1442695040888963407
	return int(uint64(*d)>>33) % n
}

// odd is mostly one of the low numbers, now and then one from far off.
func (d *dice) odd(n int) int {
	if d.below(12) > 0 {
		return d.below(n)
	}
	return []int{-1, -huge - 1, huge, n, n + 1, 1 << 32}[d.below(6)]
}

// address is mostly one that leads to a slot: any, or one that is full or empty as asked.
func (d *dice) address(v view, full bool) []int {
	if d.below(4) == 0 {
		list := make([]int, d.below(5))
		for i := range list {
			list[i] = d.odd(16)
		}
		return list
	}
	for {
		list, isFull := d.descend(v)
		if isFull == full || d.below(8) == 0 {
			return list
		}
	}
}

// descend from the root by up to 3 numbers, for as long as the way leads into a node.
func (d *dice) descend(v view) (list []int, full bool) {
	node, slots := 0, 16
	for range 3 {
		index := d.below(slots)
		list = append(list, index)
		c, found := lying(v, node, index)
		if c.Type != api.Node || d.below(3) == 0 {
			return list, found
		}
		node, slots = c.Base, 1<<c.Bits/4
	}
	return list, true
}

func lying(v view, node, index int) (api.Cap, bool) {
	for _, e := range v.caps {
		if e.Node == node && e.Index == index {
			return e.Cap, true
		}
	}
	return api.Cap{}, false
}

func (d *dice) call(v view) api.Call {
	kinds := []int{api.Retype, api.Retype, api.Copy, api.Copy, api.Mint, api.Move, api.Load, api.Store, api.Store, 0}
	c := api.Call{
		Kind: kinds[d.below(len(kinds))], At: d.address(v, true), To: d.address(v, false),
		Type: d.odd(6), Bits: 2 + d.odd(5), Count: 1 + d.odd(3), Rights: d.odd(8),
		Badge: d.odd(65536), Value: d.odd(1 << 31), Offset: d.odd(8),
	}
	if c.Kind == api.Retype && d.below(2) == 0 {
		c.At = []int{0}
	}
	return c
}

// P1: whatever comes, a call ends; beside an error there is nothing, and nothing is changed.
// P2: it answers alike in a kernel that was used alike. P5, P6 and P7 hold all the while.
func TestAnyCalls(t *testing.T) {
	done := 0
	for seed := range 60 {
		d := dice(seed)
		one, other := escheat.Boot(), escheat.Boot()
		before := look(one)
		for range 200 {
			thread, c, bits := d.thread(before), d.call(before), []bool{d.below(2) == 0}
			word, err := one.Do(thread, c, bits...)
			after := look(one)
			if err != api.OK && (word != 0 || !reflect.DeepEqual(before, after)) {
				t.Fatalf("Do(%d, %+v) = %d, %d, but\n%+v\nbecame\n%+v", thread, c, word, err, before, after)
			}
			if err == api.OK {
				done++
				holds(t, after)
			}
			if w, e := other.Do(thread, c, bits...); w != word || e != err {
				t.Fatalf("Do(%d, %+v) = %d, %d, and %d, %d in a like kernel", thread, c, word, err, w, e)
			}
			before = after
		}
		if !reflect.DeepEqual(before, look(other)) {
			t.Fatalf("kernels that were used alike differ:\n%+v\n%+v", before, look(other))
		}
	}
	if done < 1000 {
		t.Errorf("only %d calls were OK: too few to tell", done)
	}
}

// thread is mostly one that is there.
func (d *dice) thread(v view) int {
	bases := []int{}
	for n := range api.MaxWords {
		if _, there := v.threads[n]; there {
			bases = append(bases, n)
		}
	}
	if d.below(10) == 0 {
		return d.odd(api.MaxWords)
	}
	return bases[d.below(len(bases))]
}

// holds checks P5, P6 and P7 of what can be seen.
func holds(t *testing.T, v view) {
	t.Helper()
	lies := map[[2]int]api.Entry{}
	for _, e := range v.caps {
		if _, twice := lies[[2]int{e.Node, e.Index}]; twice {
			t.Fatalf("two capabilities in one slot: %v", v.caps)
		}
		lies[[2]int{e.Node, e.Index}] = e
	}
	for i, e := range v.caps {
		parent, has := lies[[2]int{e.Parent, e.Place}]
		if has != (e.Parent != -1) || has != (i > 0) {
			t.Fatalf("P4: the parent of %v", e)
		}
		if has && !comesOf(e.Cap, parent.Cap) {
			t.Fatalf("P7: %v came of %v", e, parent)
		}
		for _, f := range v.caps[:i] {
			if overlap(e.Cap, f.Cap) && !above(lies, f, e) && !above(lies, e, f) && !sameObject(e.Cap, f.Cap) {
				t.Fatalf("P5: %v and %v", e, f)
			}
		}
		if e.Cap.Type == api.Untyped {
			for n := e.Cap.Base + e.Cap.Mark; n < behind(e.Cap); n++ {
				if v.words[n] != 0 {
					t.Fatalf("P6: word %d of %v is %d", n, e, v.words[n])
				}
			}
		}
	}
}

func behind(c api.Cap) int { return c.Base + 1<<c.Bits }

func overlap(c, d api.Cap) bool { return c.Base < behind(d) && d.Base < behind(c) }

func sameObject(c, d api.Cap) bool {
	return c.Type == d.Type && c.Type != api.Untyped && c.Base == d.Base && c.Bits == d.Bits
}

func comesOf(c, parent api.Cap) bool {
	if parent.Type == api.Untyped {
		return c.Base%(1<<c.Bits) == 0 && c.Base >= parent.Base && behind(c) <= parent.Base+parent.Mark && behind(c) <= behind(parent)
	}
	badgeKept := c.Badge == parent.Badge || parent.Badge == 0
	return sameObject(c, parent) && c.Rights&^parent.Rights == 0 && badgeKept
}

// above tells whether e is untyped memory that lies above f in the tree.
func above(lies map[[2]int]api.Entry, e, f api.Entry) bool {
	for f.Parent != -1 {
		f = lies[[2]int{f.Parent, f.Place}]
		if f == e {
			return e.Cap.Type == api.Untyped
		}
	}
	return false
}
