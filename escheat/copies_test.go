package escheat_test

import (
	"testing"

	"escheat/api"
	"escheat/escheat"
)

// P3: a copy has those rights alone that both have; whatever the type but untyped.
func TestCopyRights(t *testing.T) {
	for _, kind := range []int{api.Node, api.Endpoint, api.Task, api.Frame} {
		bits := map[int]int{api.Node: 3, api.Endpoint: 2, api.Task: 4, api.Frame: 2}[kind]
		for had := range 8 {
			for asked := range 8 {
				k := escheat.Boot()
				must(t, k, retype(at(0), kind, bits, 1, 3))
				must(t, k, copied(at(3), at(4), had))
				must(t, k, copied(at(4), at(5), asked))
				c := api.Cap{Type: kind, Base: 80, Bits: bits, Rights: 7}
				want := append(atFirst(80+1<<bits), entry(3, c, 0))
				c.Rights = had
				want = append(want, entry(4, c, 3))
				c.Rights = had & asked
				wantCaps(t, k, append(want, entry(5, c, 4)))
			}
		}
	}
}

// P3, P4: a copy is the last child of what is copied.
func TestCopyOrder(t *testing.T) {
	k := escheat.Boot()
	must(t, k, retype(at(0), api.Frame, 2, 2, 3))
	must(t, k, copied(at(3), at(9), 7))
	must(t, k, copied(at(3), at(8), 7))
	must(t, k, copied(at(9), at(7), 7))
	must(t, k, copied(at(4), at(6), 7))
	must(t, k, copied(at(3), at(5), 7))
	one := api.Cap{Type: api.Frame, Base: 80, Bits: 2, Rights: 7}
	two := api.Cap{Type: api.Frame, Base: 84, Bits: 2, Rights: 7}
	wantCaps(t, k, append(atFirst(88), entry(3, one, 0), entry(9, one, 3), entry(7, one, 9),
		entry(8, one, 3), entry(5, one, 3), entry(4, two, 0), entry(6, two, 4)))
}

// P1, P3: what Copy refuses, the error named first ahead of the others.
func TestCopyErrors(t *testing.T) {
	k := escheat.Boot()
	must(t, k, retype(at(0), api.Untyped, 4, 1, 3))
	refused(t, k, first, copied(at(16), at(16), 8), api.ErrAddress)
	refused(t, k, first, copied(at(9), at(16), 8), api.ErrSlot)
	refused(t, k, first, copied(at(0), at(16), 8), api.ErrType)
	refused(t, k, first, copied(at(3), at(9), 7), api.ErrType)
	for _, rights := range []int{-1, 8, huge, -huge - 1} {
		refused(t, k, first, copied(at(1), at(16), rights), api.ErrArg)
		refused(t, k, first, copied(at(1), at(2), rights), api.ErrArg)
	}
	refused(t, k, first, copied(at(1), at(16), 7), api.ErrAddress)
	refused(t, k, first, copied(at(1), at(2), 7), api.ErrSlot)
	refused(t, k, first, copied(at(1), at(1), 7), api.ErrSlot)
}

// P3: a minted capability has the badge, and so has what is copied of it.
func TestMint(t *testing.T) {
	k := escheat.Boot()
	must(t, k, retype(at(0), api.Endpoint, 2, 1, 3))
	must(t, k, copied(at(3), at(4), 3))
	must(t, k, minted(at(4), at(5), 6, 1))
	must(t, k, minted(at(3), at(6), 0, 65535))
	must(t, k, copied(at(5), at(7), 7))
	end := func(rights, badge int) api.Cap {
		return api.Cap{Type: api.Endpoint, Base: 80, Bits: 2, Rights: rights, Badge: badge}
	}
	wantCaps(t, k, append(atFirst(84), entry(3, end(7, 0), 0), entry(4, end(3, 0), 3),
		entry(5, end(2, 1), 4), entry(7, end(2, 1), 5), entry(6, end(0, 65535), 3)))
}

// P3: Copy and the other calls give no heed to a Badge.
func TestCopyTakesNoBadge(t *testing.T) {
	k := escheat.Boot()
	must(t, k, retype(at(0), api.Endpoint, 2, 1, 3))
	c := copied(at(3), at(4), 7)
	c.Badge = 5
	must(t, k, c)
	if got := capAt(t, k, 0, 4).Cap.Badge; got != 0 {
		t.Errorf("a copy's Badge = %d", got)
	}
}

// P1, P3: what Mint refuses, the error named first ahead of the others.
func TestMintErrors(t *testing.T) {
	k := escheat.Boot()
	must(t, k, retype(at(0), api.Endpoint, 2, 1, 3))
	must(t, k, retype(at(0), api.Frame, 2, 1, 4))
	must(t, k, minted(at(3), at(5), 7, 9))
	refused(t, k, first, minted(at(16), at(16), 8, 0), api.ErrAddress)
	refused(t, k, first, minted(at(9), at(16), 8, 0), api.ErrSlot)
	for _, other := range []int{0, 1, 2, 4} {
		refused(t, k, first, minted(at(other), at(16), 8, 0), api.ErrType)
	}
	refused(t, k, first, minted(at(5), at(16), 8, 0), api.ErrRights)
	refused(t, k, first, minted(at(5), at(9), 7, 9), api.ErrRights)
	for _, badge := range []int{0, -1, 65536, huge, -huge - 1} {
		refused(t, k, first, minted(at(3), at(16), 7, badge), api.ErrArg)
	}
	for _, rights := range []int{8, -1, huge, -huge - 1} {
		refused(t, k, first, minted(at(3), at(4), rights, 1), api.ErrArg)
	}
	refused(t, k, first, minted(at(3), at(16), 7, 1), api.ErrAddress)
	refused(t, k, first, minted(at(3), at(4), 7, 1), api.ErrSlot)
}

// P3, P4: what is moved stays in its place in the tree, for its parent and its children.
func TestMove(t *testing.T) {
	k := escheat.Boot()
	must(t, k, retype(at(0), api.Frame, 2, 3, 3))
	must(t, k, copied(at(4), at(6), 1))
	must(t, k, copied(at(4), at(7), 2))
	must(t, k, copied(at(6), at(8), 1))
	must(t, k, moved(at(4), at(12)))
	must(t, k, moved(at(6), at(4)))
	must(t, k, copied(at(12), at(6), 4))
	frame := func(base, rights int) api.Cap {
		return api.Cap{Type: api.Frame, Base: base, Bits: 2, Rights: rights}
	}
	wantCaps(t, k, append(atFirst(92), entry(3, frame(80, 7), 0),
		entry(12, frame(84, 7), 0), entry(4, frame(84, 1), 12), entry(8, frame(84, 1), 4),
		entry(7, frame(84, 2), 12), entry(6, frame(84, 4), 12), entry(5, frame(88, 7), 0)))
}

// P3, P4: the capability that has no parent moves too, with its Mark.
func TestMoveTheFirstOne(t *testing.T) {
	k := escheat.Boot()
	must(t, k, moved(at(0), at(15)))
	refused(t, k, first, retype(at(0), api.Frame, 2, 1, 3), api.ErrType)
	must(t, k, retype(at(15), api.Frame, 2, 1, 0))
	want := atFirst(84)
	want[0].Index, want[1].Place, want[2].Place = 15, 15, 15
	wantCaps(t, k, append(want, entry(0, api.Cap{Type: api.Frame, Base: 80, Bits: 2, Rights: 7}, 15)))
}

// Example 4, without its Revokes: a node that lies in itself is there still, but nobody reaches it.
func TestMoveIntoItself(t *testing.T) {
	k := escheat.Boot()
	must(t, k, retype(at(0), api.Node, 3, 1, 7))
	must(t, k, moved(at(7), at(7, 0)))
	want := api.Entry{Node: 80, Index: 0, Cap: api.Cap{Type: api.Node, Base: 80, Bits: 3, Rights: 7}}
	wantCaps(t, k, append(atFirst(88), want))
	refused(t, k, first, moved(at(7, 0), at(7)), api.ErrAddress)
	refused(t, k, first, moved(at(7), at(8)), api.ErrSlot)
}

// P1, P3: what Move refuses, the error named first ahead of the others.
func TestMoveErrors(t *testing.T) {
	k := escheat.Boot()
	refused(t, k, first, moved(at(16), at(0)), api.ErrAddress)
	refused(t, k, first, moved(at(3), at(16)), api.ErrSlot)
	refused(t, k, first, moved(at(3), at(3)), api.ErrSlot)
	refused(t, k, first, moved(at(1), at(16)), api.ErrAddress)
	refused(t, k, first, moved(at(1), at(2)), api.ErrSlot)
	refused(t, k, first, moved(at(1), at(1)), api.ErrSlot)
	refused(t, k, first, moved(at(1), at(1, 1)), api.ErrSlot)
}
