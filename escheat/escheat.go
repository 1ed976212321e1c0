// Package escheat: a kernel in which whatever was given away can be taken back: see DOC.md.
package escheat

import (
	"slices"

	"escheat/api"
)

// Kernel of threads, memory and capabilities.
type Kernel struct {
	words   [api.MaxWords]uint32
	held    map[slot]capability
	tree    tree
	nodes   map[int]int // by base: how many slots
	doomed  []api.Doom
	threads map[int]api.Thread
	queues  map[int]queue // by base of the endpoint
}

// Where the first objects lie, and how much memory they leave in use.
const (
	firstNode   = 0
	firstThread = 64
	firstMark   = 80
)

// Boot makes a kernel (P3).
func Boot() *Kernel {
	k := &Kernel{
		held:    map[slot]capability{},
		tree:    tree{},
		nodes:   map[int]int{},
		threads: map[int]api.Thread{},
		queues:  map[int]queue{},
	}
	memory := slot{firstNode, 0}
	k.lay(memory, untyped{extent{0, 10}, firstMark}, nowhere)
	k.found(slot{firstNode, 1}, made(api.Node, extent{firstNode, 6}), memory, firstNode)
	k.found(slot{firstNode, 2}, made(api.Task, extent{firstThread, 4}), memory, firstNode)
	return k
}

// Do a thread's call (P3).
func (k *Kernel) Do(thread int, c api.Call, bits ...bool) (word int, err api.Errno) {
	caller, there := k.threads[thread]
	if !there || caller.State != api.Ready {
		return 0, api.ErrThread
	}
	if c.Kind < kindRetype || c.Kind >= kinds {
		return 0, api.ErrArg
	}
	defer func() {
		if r := recover(); r != nil {
			given, ok := r.(givenUp)
			if !ok {
				panic(r) // a fault of the kernel's own: to hide it would tell a wrong OK
			}
			word, err = 0, given.err
		}
	}()
	return methods()[c.Kind](&turn{kernel: k, call: c, thread: thread, root: caller.Root, bits: bits})
}

// Thread tells how one stands (P4).
func (k *Kernel) Thread(base int) (api.Thread, api.Errno) {
	t, there := k.threads[base]
	if !there {
		return api.Thread{}, api.ErrThread
	}
	return t, api.OK
}

// Caps tells all capabilities (P4).
func (k *Kernel) Caps() []api.Entry {
	var all []api.Entry
	for at := range k.tree.inOrder() {
		parent := k.tree[at].parent
		all = append(all, api.Entry{
			Node: at.node, Index: at.index,
			Cap:    told(k.held[at]),
			Parent: parent.node, Place: parent.index,
		})
	}
	return all
}

// Doomed tells the doomed nodes (P4).
func (k *Kernel) Doomed() []api.Doom { return slices.Clone(k.doomed) }

// Word of memory (P4).
func (k *Kernel) Word(n int) (int, api.Errno) {
	if n < 0 || n >= api.MaxWords {
		return 0, api.ErrArg
	}
	return int(k.words[n]), api.OK
}

// lay a capability into an empty slot, as its parent's last child.
func (k *Kernel) lay(at slot, c capability, parent slot) {
	k.held[at] = c
	k.tree.add(at, parent)
}

// found an object that was not there before, by its first capability.
func (k *Kernel) found(at slot, c capability, parent slot, root int) {
	switch c := c.(type) {
	case node:
		k.nodes[c.base] = c.slots()
	case endpoint:
		k.queues[c.base] = newQueue()
	case task:
		k.threads[c.base] = api.Thread{State: api.Ready, Root: root}
	}
	k.lay(at, c, parent)
}
