package escheat_test

import (
	"testing"

	"escheat/api"
	"escheat/escheat"
)

// Example 2, without its Delete (P3, P4).
func TestRetypeFrames(t *testing.T) {
	k := escheat.Boot()
	must(t, k, retype(at(0), api.Frame, 3, 2, 3))
	wantCaps(t, k, append(atFirst(96),
		entry(3, api.Cap{Type: api.Frame, Base: 80, Bits: 3, Rights: 7}, 0),
		entry(4, api.Cap{Type: api.Frame, Base: 88, Bits: 3, Rights: 7}, 0)))
	must(t, k, store(at(3), 7, 9))
	if w, err := k.Word(87); w != 9 || err != api.OK {
		t.Errorf("Word(87) = %d, %d, want 9", w, err)
	}
	must(t, k, retype(at(0), api.Frame, 2, 1, 5))
	if mark := capAt(t, k, 0, 0).Cap.Mark; mark != 100 {
		t.Errorf("Mark = %d, want 100: memory that has children is not reset", mark)
	}
}

// Example 3, without its Delete (P3, P4): objects begin at multiples of their size, counted from word 0 of memory.
func TestRetypeUntyped(t *testing.T) {
	k := escheat.Boot()
	must(t, k, retype(at(0), api.Frame, 3, 2, 3))
	must(t, k, retype(at(0), api.Untyped, 6, 1, 5))
	must(t, k, retype(at(5), api.Frame, 2, 1, 6))
	must(t, k, retype(at(5), api.Frame, 4, 2, 7))
	wantCaps(t, k, append(atFirst(192),
		entry(3, api.Cap{Type: api.Frame, Base: 80, Bits: 3, Rights: 7}, 0),
		entry(4, api.Cap{Type: api.Frame, Base: 88, Bits: 3, Rights: 7}, 0),
		entry(5, api.Cap{Type: api.Untyped, Base: 128, Bits: 6, Rights: 7, Mark: 48}, 0),
		entry(6, api.Cap{Type: api.Frame, Base: 128, Bits: 2, Rights: 7}, 5),
		entry(7, api.Cap{Type: api.Frame, Base: 144, Bits: 4, Rights: 7}, 5),
		entry(8, api.Cap{Type: api.Frame, Base: 160, Bits: 4, Rights: 7}, 5)))
}

// P3: of each type the Bits that it may have, and no others.
func TestRetypeBits(t *testing.T) {
	allowed := map[int][2]int{api.Untyped: {4, 10}, api.Node: {3, 6}, api.Endpoint: {2, 2}, api.Task: {4, 4}, api.Frame: {2, 6}}
	for kind := -1; kind <= 7; kind++ {
		for bits := -1; bits <= 12; bits++ {
			k := escheat.Boot()
			c := retype(at(0), kind, bits, 1, 3)
			span, known := allowed[kind]
			switch {
			case !known || bits < span[0] || bits > span[1]:
				refused(t, k, first, c, api.ErrArg)
			case bits == 10:
				refused(t, k, first, c, api.ErrRoom)
			default:
				must(t, k, c)
				size := 1 << bits
				base := (80 + size - 1) / size * size
				want := entry(3, api.Cap{Type: kind, Base: base, Bits: bits, Rights: 7}, 0)
				if got := capAt(t, k, 0, 3); got != want {
					t.Errorf("Retype %d, %d: %v, want %v", kind, bits, got, want)
				}
				if mark := capAt(t, k, 0, 0).Cap.Mark; mark != base+size {
					t.Errorf("Retype %d, %d: Mark %d, want %d", kind, bits, mark, base+size)
				}
			}
		}
	}
	k := escheat.Boot()
	for _, n := range []int{huge, -huge - 1, 1 << 32, 64, 66} {
		refused(t, k, first, retype(at(0), api.Frame, n, 1, 3), api.ErrArg)
		refused(t, k, first, retype(at(0), n, 2, 1, 3), api.ErrArg)
	}
}

// P3: a new node has a quarter as many slots as words.
func TestRetypeNodeSlots(t *testing.T) {
	for bits, slots := range map[int]int{3: 2, 4: 4, 5: 8, 6: 16} {
		k := escheat.Boot()
		must(t, k, retype(at(0), api.Node, bits, 1, 3))
		must(t, k, retype(at(0), api.Frame, 2, 1, 3, slots-1))
		refused(t, k, first, retype(at(0), api.Frame, 2, 1, 3, slots), api.ErrAddress)
	}
}

// P3: Count, and the slots that it asks for.
func TestRetypeCount(t *testing.T) {
	k := escheat.Boot()
	for _, count := range []int{0, 9, -1, huge, -huge - 1} {
		refused(t, k, first, retype(at(0), api.Frame, 2, count, 3), api.ErrArg)
	}
	refused(t, k, first, retype(at(0), api.Frame, 2, 8, 9), api.ErrAddress)
	refused(t, k, first, retype(at(0), api.Frame, 2, 2, 15), api.ErrAddress)
	must(t, k, retype(at(0), api.Frame, 2, 8, 8))
	for i := range 8 {
		if got := capAt(t, k, 0, 8+i); got.Cap.Base != 80+4*i {
			t.Errorf("slot %d: %v", 8+i, got)
		}
	}
	must(t, k, retype(at(0), api.Node, 3, 1, 3))
	refused(t, k, first, retype(at(0), api.Frame, 2, 3, 3, 0), api.ErrAddress)
	refused(t, k, first, retype(at(0), api.Frame, 2, 2, 3, 1), api.ErrAddress)
	must(t, k, retype(at(0), api.Frame, 2, 2, 3, 0))
}

// P3: slots that are not empty, the first one, one within, the last one.
func TestRetypeFullSlots(t *testing.T) {
	k := escheat.Boot()
	must(t, k, retype(at(0), api.Frame, 2, 1, 6))
	for _, to := range []int{4, 5, 6} {
		refused(t, k, first, retype(at(0), api.Frame, 2, 3, to), api.ErrSlot)
	}
	refused(t, k, first, retype(at(0), api.Frame, 2, 1, 0), api.ErrSlot)
	must(t, k, retype(at(0), api.Frame, 2, 3, 3))
	must(t, k, retype(at(0), api.Frame, 2, 3, 7))
}

// P3: all of the objects fit in, or none is made.
func TestRetypeRoom(t *testing.T) {
	k := escheat.Boot()
	must(t, k, retype(at(0), api.Untyped, 4, 1, 3))
	refused(t, k, first, retype(at(3), api.Frame, 2, 5, 4), api.ErrRoom)
	refused(t, k, first, retype(at(3), api.Untyped, 5, 1, 4), api.ErrRoom)
	must(t, k, retype(at(3), api.Frame, 2, 1, 4))
	refused(t, k, first, retype(at(3), api.Frame, 3, 2, 5), api.ErrRoom)
	must(t, k, retype(at(3), api.Frame, 2, 3, 5))
	if got := capAt(t, k, 0, 3).Cap; got.Base != 80 || got.Mark != 16 {
		t.Errorf("full untyped memory: %v", got)
	}
	refused(t, k, first, retype(at(3), api.Endpoint, 2, 1, 8), api.ErrRoom)
	must(t, k, retype(at(0), api.Untyped, 9, 1, 8))
	refused(t, k, first, retype(at(0), api.Endpoint, 2, 1, 9), api.ErrRoom)
	must(t, k, retype(at(8), api.Untyped, 9, 1, 9))
	if got := capAt(t, k, 0, 9); got != entry(9, api.Cap{Type: api.Untyped, Base: 512, Bits: 9, Rights: 7}, 8) {
		t.Errorf("untyped memory of untyped memory of one size: %v", got)
	}
}

// P1: of several errors the one named first.
func TestRetypeErrorOrder(t *testing.T) {
	k := escheat.Boot()
	refused(t, k, first, retype(at(16), 0, 0, 0, 16), api.ErrAddress)
	refused(t, k, first, retype(at(3), 0, 0, 0, 16), api.ErrType)
	refused(t, k, first, retype(at(1), 0, 0, 0, 16), api.ErrType)
	refused(t, k, first, retype(at(0), api.Untyped, 10, 0, 16), api.ErrArg)
	refused(t, k, first, retype(at(0), api.Untyped, 3, 1, 0), api.ErrArg)
	refused(t, k, first, retype(at(0), api.Untyped, 10, 8, 16), api.ErrAddress)
	refused(t, k, first, retype(at(0), api.Untyped, 10, 8, 12), api.ErrAddress)
	refused(t, k, first, retype(at(0), api.Untyped, 10, 8, 2), api.ErrSlot)
	refused(t, k, first, retype(at(0), api.Untyped, 10, 8, 3), api.ErrRoom)
}

// P3: where nothing is reset there is no poll.
func TestRetypeWithoutPolls(t *testing.T) {
	k := escheat.Boot()
	if _, err := k.Do(first, retype(at(0), api.Untyped, 4, 1, 3), true); err != api.OK {
		t.Errorf("of memory that has children: %d", err)
	}
	if _, err := k.Do(first, retype(at(3), api.Frame, 2, 1, 4), true); err != api.OK {
		t.Errorf("of memory whose Mark is 0: %d", err)
	}
}
