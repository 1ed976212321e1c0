package escheat_test

import (
	"slices"
	"testing"

	"escheat/api"
	"escheat/escheat"
)

// used has untyped memory at 128 in slot 5, whose frames of 8 words, of which each was written, are gone;
// a word at 127 and one at 192 are those of frames beside it.
func used(t *testing.T, frames int) *escheat.Kernel {
	t.Helper()
	k := escheat.Boot()
	must(t, k, retype(at(0), api.Frame, 5, 1, 3))
	must(t, k, store(at(3), 31, 1))
	must(t, k, retype(at(0), api.Untyped, 6, 1, 5))
	must(t, k, retype(at(0), api.Frame, 2, 1, 4))
	must(t, k, store(at(4), 0, 1))
	must(t, k, retype(at(5), api.Frame, 3, frames, 6))
	for n := range 8 * frames {
		must(t, k, store(at(6+n/8), n%8, n+1))
	}
	for i := range frames {
		must(t, k, removed(6+i))
	}
	return k
}

// wantUsed checks the Mark in slot 5, and that the words below it alone are left of those that were stored.
func wantUsed(t *testing.T, k *escheat.Kernel, mark, left int) {
	t.Helper()
	if got := capAt(t, k, 0, 5).Cap.Mark; got != mark {
		t.Errorf("Mark = %d, want %d", got, mark)
	}
	for n := range 64 {
		want := 0
		if n < left {
			want = n + 1
		}
		wantWord(t, k, 128+n, want)
	}
	wantWord(t, k, 127, 1)
	wantWord(t, k, 192, 1)
}

// P3: memory that has no children is reset, from the Mark down, with a poll behind each 16 words.
func TestResetStepByStep(t *testing.T) {
	k := used(t, 5)
	wantUsed(t, k, 40, 40)
	for _, left := range []int{24, 8, 0} {
		answers(t, k, first, retype(at(5), api.Frame, 2, 1, 6), api.Preempted, true)
		wantUsed(t, k, left, left)
		wantEmpty(t, k, 0, 6)
	}
	must(t, k, retype(at(5), api.Frame, 2, 1, 6), true)
	wantUsed(t, k, 4, 0)
}

// P3: each poll takes one bit; those that are false, and those that are not there, let the call go on.
func TestResetAsksBitByBit(t *testing.T) {
	for _, c := range []struct {
		bits       []bool
		err        api.Errno
		mark, left int
	}{
		{nil, api.OK, 4, 0},
		{[]bool{false}, api.OK, 4, 0},
		{[]bool{false, true}, api.Preempted, 8, 8},
		{[]bool{false, false, true}, api.Preempted, 0, 0},
		{[]bool{false, false, false, true}, api.OK, 4, 0},
	} {
		k := used(t, 5)
		asked := slices.Clone(c.bits)
		answers(t, k, first, retype(at(5), api.Frame, 2, 1, 6), c.err, asked...)
		if !slices.Equal(asked, c.bits) {
			t.Errorf("P2: bits %v became %v", c.bits, asked)
		}
		wantUsed(t, k, c.mark, c.left)
	}
}

// P1, P3: nothing is reset by a call that is refused ahead of it; behind ErrRoom a reset stays done.
func TestResetAndErrors(t *testing.T) {
	k := used(t, 8)
	refused(t, k, first, retype(at(5), api.Frame, 7, 1, 6), api.ErrArg, true)
	refused(t, k, first, retype(at(5), api.Frame, 2, 0, 6), api.ErrArg, true)
	refused(t, k, first, retype(at(5), api.Frame, 2, 1, 16), api.ErrAddress, true)
	refused(t, k, first, retype(at(5), api.Frame, 2, 1, 2), api.ErrSlot, true)
	wantUsed(t, k, 64, 64)
	answers(t, k, first, retype(at(5), api.Untyped, 7, 1, 6), api.ErrRoom)
	wantUsed(t, k, 0, 0)
	refused(t, k, first, retype(at(5), api.Untyped, 7, 1, 6), api.ErrRoom, true)
}

// P3: no reset as long as there is a child: a copy of one that is gone is one.
func TestNoResetWithAChild(t *testing.T) {
	k := used(t, 1)
	must(t, k, retype(at(5), api.Frame, 3, 1, 6))
	must(t, k, copied(at(6), at(7), 1))
	must(t, k, removed(6))
	must(t, k, retype(at(5), api.Frame, 3, 1, 6), true)
	if got := capAt(t, k, 0, 6).Cap.Base; got != 136 {
		t.Errorf("Base = %d, want 136", got)
	}
	if got := capAt(t, k, 0, 7); got.Parent != 0 || got.Place != 5 {
		t.Errorf("the copy: %v", got)
	}
}

// Example 3 (P3, P6).
func TestExample3(t *testing.T) {
	k := escheat.Boot()
	must(t, k, retype(at(0), api.Frame, 3, 2, 3))
	must(t, k, retype(at(0), api.Untyped, 6, 1, 5))
	must(t, k, retype(at(5), api.Frame, 2, 1, 6))
	must(t, k, store(at(6), 0, 5))
	must(t, k, removed(6))
	wantWord(t, k, 128, 5)
	answers(t, k, first, retype(at(5), api.Frame, 2, 1, 6), api.Preempted, true)
	wantWord(t, k, 128, 0)
	must(t, k, retype(at(5), api.Frame, 2, 1, 6), true)
	if got := capAt(t, k, 0, 6).Cap; got.Base != 128 {
		t.Errorf("the frame: %v", got)
	}
	if w := must(t, k, load(at(6), 0)); w != 0 {
		t.Errorf("Load = %d of a frame that was just made", w)
	}
}
