package escheat_test

import (
	"testing"

	"escheat/api"
	"escheat/escheat"
)

// Example 1 (P3, P4).
func TestBoot(t *testing.T) {
	k := escheat.Boot()
	wantCaps(t, k, atFirst(80))
	if thread, err := k.Thread(first); err != api.OK || thread != (api.Thread{State: api.Ready, Root: 0}) {
		t.Errorf("Thread(64) = %+v, %d", thread, err)
	}
	if l := k.Doomed(); len(l) != 0 {
		t.Errorf("Doomed = %v", l)
	}
	for n := range api.MaxWords {
		if w, err := k.Word(n); w != 0 || err != api.OK {
			t.Errorf("Word(%d) = %d, %d", n, w, err)
		}
	}
}

// P4: what is not there.
func TestNoSuchThreadOrWord(t *testing.T) {
	k := escheat.Boot()
	for _, base := range []int{-huge - 1, -1, 0, 63, 65, 80, 1024, huge} {
		if thread, err := k.Thread(base); err != api.ErrThread || thread != (api.Thread{}) {
			t.Errorf("Thread(%d) = %+v, %d", base, thread, err)
		}
		refused(t, k, base, load(at(0), 0), api.ErrThread)
		refused(t, k, base, api.Call{Kind: 99}, api.ErrThread)
	}
	for _, n := range []int{-huge - 1, -1, 1024, huge} {
		if w, err := k.Word(n); w != 0 || err != api.ErrArg {
			t.Errorf("Word(%d) = %d, %d", n, w, err)
		}
	}
}

// P3: any other Kind, whatever else is wrong.
func TestNoSuchKind(t *testing.T) {
	k := escheat.Boot()
	for _, kind := range []int{-huge - 1, -1, 0, 12, 13, huge} {
		refused(t, k, first, api.Call{Kind: kind}, api.ErrArg)
		refused(t, k, first, api.Call{Kind: kind, At: at(0), To: at(3)}, api.ErrArg, true)
	}
}

// P2: kernels have nothing in common.
func TestKernelsStandAlone(t *testing.T) {
	one, other := escheat.Boot(), escheat.Boot()
	must(t, one, retype(at(0), api.Frame, 2, 1, 3))
	must(t, one, store(at(3), 0, 8))
	wantCaps(t, other, atFirst(80))
	if w, _ := other.Word(80); w != 0 {
		t.Errorf("Word(80) = %d in a kernel that nothing was stored into", w)
	}
}

// P2: a list that comes out is the caller's.
func TestCapsAreNewMemory(t *testing.T) {
	k := escheat.Boot()
	must(t, k, retype(at(0), api.Frame, 2, 2, 3))
	want := k.Caps()
	l, again := k.Caps(), k.Caps()
	l = l[:cap(l)]
	clear(l)
	again = append(again, api.Entry{Node: 5})
	clear(again)
	wantCaps(t, k, want)
}

// P2: what is handed in is neither written into nor kept.
func TestArgumentsAreLeftAlone(t *testing.T) {
	k := escheat.Boot()
	must(t, k, retype(at(0), api.Node, 3, 1, 3))
	from, to := []int{0, 7, 7}, []int{3, 0, 7, 7}
	bits := []bool{false, true, false}
	c := api.Call{Kind: api.Retype, At: from[:1], To: to[:2], Type: api.Frame, Bits: 2, Count: 1}
	if _, err := k.Do(first, c, bits[:1]...); err != api.OK {
		t.Fatalf("Do: %d", err)
	}
	if from[0] != 0 || from[1] != 7 || from[2] != 7 || to[0] != 3 || to[1] != 0 || to[2] != 7 || to[3] != 7 {
		t.Errorf("addresses were written into: %v, %v", from, to)
	}
	if bits[0] || !bits[1] || bits[2] {
		t.Errorf("bits were written into: %v", bits)
	}
	want := k.Caps()
	clear(from)
	clear(to)
	bits[0] = true
	wantCaps(t, k, want)
}
