package escheat_test

import (
	"reflect"
	"slices"
	"testing"

	"escheat/api"
	"escheat/escheat"
)

const first = 64 // the thread that Boot makes

const huge = 1<<63 - 1

// must does a call of the first thread that has to answer OK.
func must(t *testing.T, k *escheat.Kernel, c api.Call, bits ...bool) int {
	t.Helper()
	return mustBy(t, k, first, c, bits...)
}

// mustBy does a call of any thread that has to answer OK.
func mustBy(t *testing.T, k *escheat.Kernel, thread int, c api.Call, bits ...bool) int {
	t.Helper()
	word, err := k.Do(thread, c, bits...)
	if err != api.OK {
		t.Fatalf("Do(%d, %+v, %v): error %d, want OK", thread, c, bits, err)
	}
	return word
}

// answers does a call that has to answer an error, whatever it may change.
func answers(t *testing.T, k *escheat.Kernel, thread int, c api.Call, want api.Errno, bits ...bool) {
	t.Helper()
	if word, err := k.Do(thread, c, bits...); word != 0 || err != want {
		t.Fatalf("Do(%d, %+v, %v) = %d, %d, want 0, %d", thread, c, bits, word, err, want)
	}
}

// refused does a call that has to answer an error, and to change nothing.
func refused(t *testing.T, k *escheat.Kernel, thread int, c api.Call, want api.Errno, bits ...bool) {
	t.Helper()
	before := look(k)
	word, err := k.Do(thread, c, bits...)
	if word != 0 || err != want {
		t.Errorf("Do(%d, %+v) = %d, %d, want 0, %d", thread, c, word, err, want)
	}
	if after := look(k); !reflect.DeepEqual(before, after) {
		t.Errorf("Do(%d, %+v): an error, but\n%+v\nbecame\n%+v", thread, c, before, after)
	}
}

// view is all that can be seen of a kernel.
type view struct {
	caps    []api.Entry
	doomed  []api.Doom
	threads map[int]api.Thread
	words   [api.MaxWords]int
}

func look(k *escheat.Kernel) view {
	v := view{threads: map[int]api.Thread{}}
	v.caps = append(v.caps, k.Caps()...)
	v.doomed = append(v.doomed, k.Doomed()...)
	for n := range v.words {
		v.words[n], _ = k.Word(n)
		if thread, err := k.Thread(n); err == api.OK {
			v.threads[n] = thread
		}
	}
	return v
}

// wantCaps compares all capabilities with those written down.
func wantCaps(t *testing.T, k *escheat.Kernel, want []api.Entry) {
	t.Helper()
	if got := k.Caps(); !slices.Equal(got, want) {
		t.Errorf("Caps =\n%v, want\n%v", got, want)
	}
}

// wantDoomed compares the list of doomed nodes with pairs of Node and Left.
func wantDoomed(t *testing.T, k *escheat.Kernel, want ...[2]int) {
	t.Helper()
	got := [][2]int{}
	for _, d := range k.Doomed() {
		got = append(got, [2]int{d.Node, d.Left})
	}
	if !slices.Equal(got, want) {
		t.Errorf("Doomed = %v, want %v", got, want)
	}
}

// wantThread compares how a thread stands.
func wantThread(t *testing.T, k *escheat.Kernel, base int, want api.Thread) {
	t.Helper()
	if got, err := k.Thread(base); got != want || err != api.OK {
		t.Errorf("Thread(%d) = %+v, %d, want %+v", base, got, err, want)
	}
}

// wantNoThread checks that one is no more.
func wantNoThread(t *testing.T, k *escheat.Kernel, base int) {
	t.Helper()
	if got, err := k.Thread(base); got != (api.Thread{}) || err != api.ErrThread {
		t.Errorf("Thread(%d) = %+v, %d, want ErrThread", base, got, err)
	}
}

// wantWord compares a word of memory.
func wantWord(t *testing.T, k *escheat.Kernel, n, want int) {
	t.Helper()
	if w, err := k.Word(n); w != want || err != api.OK {
		t.Errorf("Word(%d) = %d, %d, want %d", n, w, err, want)
	}
}

// wantEmpty checks that nothing lies in a slot.
func wantEmpty(t *testing.T, k *escheat.Kernel, node, index int) {
	t.Helper()
	for _, e := range k.Caps() {
		if e.Node == node && e.Index == index {
			t.Errorf("slot %d of node %d holds %v", index, node, e)
		}
	}
}

// polls counts those of a call of the first thread: as many as it can be preempted at.
func polls(t *testing.T, build func() *escheat.Kernel, c api.Call) int {
	t.Helper()
	for n := range 1000 {
		bits := make([]bool, n+1)
		bits[n] = true
		if _, err := build().Do(first, c, bits...); err != api.Preempted {
			return n
		}
	}
	t.Fatalf("Do(%+v): polls without end", c)
	return 0
}

// capAt is the entry of one slot.
func capAt(t *testing.T, k *escheat.Kernel, node, index int) api.Entry {
	t.Helper()
	for _, e := range k.Caps() {
		if e.Node == node && e.Index == index {
			return e
		}
	}
	t.Fatalf("slot %d of node %d is empty", index, node)
	return api.Entry{}
}

func at(numbers ...int) []int { return numbers }

func retype(from []int, kind, bits, count int, to ...int) api.Call {
	return api.Call{Kind: api.Retype, At: from, Type: kind, Bits: bits, Count: count, To: to}
}

func copied(from, to []int, rights int) api.Call {
	return api.Call{Kind: api.Copy, At: from, To: to, Rights: rights}
}

func minted(from, to []int, rights, badge int) api.Call {
	return api.Call{Kind: api.Mint, At: from, To: to, Rights: rights, Badge: badge}
}

func moved(from, to []int) api.Call { return api.Call{Kind: api.Move, At: from, To: to} }

func load(from []int, offset int) api.Call {
	return api.Call{Kind: api.Load, At: from, Offset: offset}
}

func store(to []int, offset, value int) api.Call {
	return api.Call{Kind: api.Store, At: to, Offset: offset, Value: value}
}

func removed(from ...int) api.Call { return api.Call{Kind: api.Delete, At: from} }

func revoked(from ...int) api.Call { return api.Call{Kind: api.Revoke, At: from} }

func sent(to []int, value int) api.Call {
	return api.Call{Kind: api.Send, At: to, Value: value}
}

func received(from ...int) api.Call { return api.Call{Kind: api.Receive, At: from} }

func rooted(thread, node []int) api.Call {
	return api.Call{Kind: api.Root, At: thread, To: node}
}

// entry in the root node, whose parent lies there too.
func entry(index int, c api.Cap, place int) api.Entry {
	return api.Entry{Index: index, Cap: c, Place: place}
}

// atFirst is what Boot makes, with the Mark that the memory has by now.
func atFirst(mark int) []api.Entry {
	return []api.Entry{
		{Cap: api.Cap{Type: api.Untyped, Bits: 10, Rights: 7, Mark: mark}, Parent: -1, Place: -1},
		entry(1, api.Cap{Type: api.Node, Bits: 6, Rights: 7}, 0),
		entry(2, api.Cap{Type: api.Task, Base: 64, Bits: 4, Rights: 7}, 0),
	}
}
