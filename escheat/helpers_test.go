package escheat_test

import (
	"reflect"
	"testing"

	"escheat/api"
	"escheat/escheat"
)

const first = 64 // the thread that Boot makes

const huge = 1<<63 - 1

// must does a call of the first thread that has to answer OK.
func must(t *testing.T, k *escheat.Kernel, c api.Call) int {
	t.Helper()
	word, err := k.Do(first, c)
	if err != api.OK {
		t.Fatalf("Do(%+v): error %d, want OK", c, err)
	}
	return word
}

// refused does a call that has to answer an error, and to change nothing.
func refused(t *testing.T, k *escheat.Kernel, thread int, c api.Call, want api.Errno, bits ...bool) {
	t.Helper()
	before := look(k)
	word, err := k.Do(thread, c, bits...)
	if word != 0 || err != want {
		t.Errorf("Do(%d, %+v) = %d, %d, want 0, %d", thread, c, word, err, want)
	}
	if after := look(k); !reflect.DeepEqual(before, after) {
		t.Errorf("Do(%d, %+v): an error, but\n%+v\nbecame\n%+v", thread, c, before, after)
	}
}

// view is all that can be seen of a kernel.
type view struct {
	caps    []api.Entry
	doomed  []api.Doom
	threads map[int]api.Thread
	words   [api.MaxWords]int
}

func look(k *escheat.Kernel) view {
	v := view{caps: k.Caps(), doomed: k.Doomed(), threads: map[int]api.Thread{}}
	for n := range v.words {
		v.words[n], _ = k.Word(n)
		if thread, err := k.Thread(n); err == api.OK {
			v.threads[n] = thread
		}
	}
	return v
}

// wantCaps compares all capabilities with those written down.
func wantCaps(t *testing.T, k *escheat.Kernel, want []api.Entry) {
	t.Helper()
	if got := k.Caps(); !reflect.DeepEqual(got, want) {
		t.Errorf("Caps =\n%v, want\n%v", got, want)
	}
}

// capAt is the entry of one slot.
func capAt(t *testing.T, k *escheat.Kernel, node, index int) api.Entry {
	t.Helper()
	for _, e := range k.Caps() {
		if e.Node == node && e.Index == index {
			return e
		}
	}
	t.Fatalf("slot %d of node %d is empty", index, node)
	return api.Entry{}
}

func at(numbers ...int) []int { return numbers }

func retype(from []int, kind, bits, count int, to ...int) api.Call {
	return api.Call{Kind: api.Retype, At: from, Type: kind, Bits: bits, Count: count, To: to}
}

func copied(from, to []int, rights int) api.Call {
	return api.Call{Kind: api.Copy, At: from, To: to, Rights: rights}
}

func minted(from, to []int, rights, badge int) api.Call {
	return api.Call{Kind: api.Mint, At: from, To: to, Rights: rights, Badge: badge}
}

func moved(from, to []int) api.Call { return api.Call{Kind: api.Move, At: from, To: to} }

func load(from []int, offset int) api.Call {
	return api.Call{Kind: api.Load, At: from, Offset: offset}
}

func store(to []int, offset, value int) api.Call {
	return api.Call{Kind: api.Store, At: to, Offset: offset, Value: value}
}

// entry in the root node, whose parent lies there too.
func entry(index int, c api.Cap, place int) api.Entry {
	return api.Entry{Index: index, Cap: c, Place: place}
}

// atFirst is what Boot makes, with the Mark that the memory has by now.
func atFirst(mark int) []api.Entry {
	return []api.Entry{
		{Cap: api.Cap{Type: api.Untyped, Bits: 10, Rights: 7, Mark: mark}, Parent: -1, Place: -1},
		entry(1, api.Cap{Type: api.Node, Bits: 6, Rights: 7}, 0),
		entry(2, api.Cap{Type: api.Task, Base: 64, Bits: 4, Rights: 7}, 0),
	}
}
