package escheat

import (
	"slices"
	"testing"

	"escheat/api"
)

// The kinds that are counted here are those that callers name.
func TestKindsAreThoseOfTheAPI(t *testing.T) {
	counted := []int{kindRetype, kindCopy, kindMint, kindMove, kindDelete, kindRevoke, kindSend, kindReceive, kindLoad, kindStore, kindRoot}
	named := []int{api.Retype, api.Copy, api.Mint, api.Move, api.Delete, api.Revoke, api.Send, api.Receive, api.Load, api.Store, api.Root}
	for i, kind := range counted {
		if kind != named[i] {
			t.Errorf("kind %d is counted as %d", named[i], kind)
		}
	}
	for kind, method := range methods() {
		if (method == nil) != (kind == 0) {
			t.Errorf("the method of kind %d", kind)
		}
	}
}

// used has untyped memory at 128 in slot 5, whose Mark is as said and whose children are gone:
// no call takes capabilities away yet, so that the test lays the memory there itself.
func used(t *testing.T, mark int) *Kernel {
	t.Helper()
	k := Boot()
	if _, err := k.Do(64, api.Call{Kind: api.Retype, At: []int{0}, Type: api.Untyped, Bits: 6, Count: 1, To: []int{5}}); err != api.OK {
		t.Fatalf("Retype: %d", err)
	}
	k.held[slot{0, 5}] = untyped{extent{128, 6}, mark}
	for n := range mark {
		k.words[128+n] = uint32(n + 1)
	}
	k.words[127], k.words[192] = 1, 1
	return k
}

func frameOf5(bits int) api.Call {
	return api.Call{Kind: api.Retype, At: []int{5}, Type: api.Frame, Bits: bits, Count: 1, To: []int{6}}
}

// wantUsed checks the Mark in slot 5, and that the words below it alone are left of those that were stored.
func wantUsed(t *testing.T, k *Kernel, mark, left int) {
	t.Helper()
	if got := told(k.held[slot{0, 5}]).Mark; got != mark {
		t.Errorf("Mark = %d, want %d", got, mark)
	}
	for n := range 64 {
		want := 0
		if n < left {
			want = n + 1
		}
		if w, _ := k.Word(128 + n); w != want {
			t.Errorf("Word(%d) = %d, want %d", 128+n, w, want)
		}
	}
	if k.words[127] != 1 || k.words[192] != 1 {
		t.Errorf("words beside the memory were written")
	}
}

// P3: memory that has no children is reset, from the Mark down, with a poll behind each 16 words.
func TestResetStepByStep(t *testing.T) {
	k := used(t, 40)
	for _, left := range []int{24, 8, 0} {
		if word, err := k.Do(64, frameOf5(2), true); word != 0 || err != api.Preempted {
			t.Fatalf("Do = %d, %d, want 0, Preempted", word, err)
		}
		wantUsed(t, k, left, left)
	}
	if _, err := k.Do(64, frameOf5(2), true); err != api.OK {
		t.Errorf("Do: %d behind the whole reset", err)
	}
	wantUsed(t, k, 4, 0)
}

// P3: each poll takes one bit; those that are false, and those that are not there, let the call go on.
func TestResetAsksBitByBit(t *testing.T) {
	for _, c := range []struct {
		bits       []bool
		err        api.Errno
		mark, left int
	}{
		{nil, api.OK, 4, 0},
		{[]bool{false}, api.OK, 4, 0},
		{[]bool{false, true}, api.Preempted, 8, 8},
		{[]bool{false, false, true}, api.Preempted, 0, 0},
		{[]bool{false, false, false, true}, api.OK, 4, 0},
	} {
		k := used(t, 40)
		asked := slices.Clone(c.bits)
		if _, err := k.Do(64, frameOf5(2), asked...); err != c.err {
			t.Errorf("bits %v: %d, want %d", c.bits, err, c.err)
		}
		if !slices.Equal(asked, c.bits) {
			t.Errorf("P2: bits %v became %v", c.bits, asked)
		}
		wantUsed(t, k, c.mark, c.left)
	}
}

// P1, P3: nothing is reset by a call that is refused ahead of it; behind ErrRoom a reset stays done.
func TestResetAndErrors(t *testing.T) {
	k := used(t, 64)
	full := frameOf5(2)
	full.To = []int{2}
	for want, c := range map[api.Errno]api.Call{api.ErrArg: frameOf5(7), api.ErrSlot: full} {
		if _, err := k.Do(64, c, true); err != want {
			t.Errorf("Do: %d, want %d", err, want)
		}
		wantUsed(t, k, 64, 64)
	}
	great := frameOf5(7)
	great.Type = api.Untyped
	if _, err := k.Do(64, great); err != api.ErrRoom {
		t.Errorf("Do: %d, want ErrRoom", err)
	}
	wantUsed(t, k, 0, 0)
}

// A thread that has no root any more finds nothing.
func TestNoRoot(t *testing.T) {
	k := Boot()
	k.threads[64] = api.Thread{State: api.Ready, Root: -1}
	before := len(k.Caps())
	_, err := k.Do(64, api.Call{Kind: api.Copy, At: []int{1}, To: []int{3}, Rights: 7})
	if err != api.ErrAddress || len(k.Caps()) != before {
		t.Errorf("Do: %d, want ErrAddress", err)
	}
}

// A thread that waits makes no calls.
func TestWaitingThread(t *testing.T) {
	for _, state := range []int{api.Sending, api.Receiving} {
		k := Boot()
		k.threads[64] = api.Thread{State: state}
		if _, err := k.Do(64, api.Call{Kind: 99}); err != api.ErrThread {
			t.Errorf("Do: %d, want ErrThread", err)
		}
	}
}
