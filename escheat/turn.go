package escheat

import "escheat/api"

// Kinds of calls, as package api numbers them.
const (
	_ = iota
	kindRetype
	kindCopy
	kindMint
	kindMove
	kindDelete
	kindRevoke
	kindSend
	kindReceive
	kindLoad
	kindStore
	kindRoot
	kinds
)

// methods by which the kinds of calls are done.
func methods() [kinds]func(*turn) (int, api.Errno) {
	return [kinds]func(*turn) (int, api.Errno){
		kindRetype:  (*turn).retype,
		kindCopy:    (*turn).copy,
		kindMint:    (*turn).mint,
		kindMove:    (*turn).move,
		kindDelete:  (*turn).delete,
		kindRevoke:  (*turn).revoke,
		kindSend:    (*turn).send,
		kindReceive: (*turn).receive,
		kindLoad:    (*turn).load,
		kindStore:   (*turn).store,
		kindRoot:    (*turn).setRoot,
	}
}

// turn is one call of a thread, from its beginning to its end; nothing of it is kept behind that.
type turn struct {
	kernel *Kernel
	call   api.Call
	thread int
	root   int    // what the caller had at the beginning: look-ups go by it to the end
	bits   []bool // those not asked yet
}

// givenUp is what a panic carries to Do from deep down.
type givenUp struct{ err api.Errno }

const maxAddress = 3

// find the slot that an address leads to, or give up.
func (t *turn) find(address []int) slot {
	if len(address) < 1 || len(address) > maxAddress {
		panic(givenUp{api.ErrAddress})
	}
	at := t.slotOf(t.root, address[0])
	for _, index := range address[1:] {
		at = t.slotOf(t.nodeIn(at), index)
	}
	return at
}

// slotOf a node that is there, or give up.
func (t *turn) slotOf(base, index int) slot {
	if index < 0 || index >= t.kernel.nodes[base] {
		panic(givenUp{api.ErrAddress})
	}
	return slot{base, index}
}

// nodeIn is the base of the node that a slot holds a capability to; else give up.
func (t *turn) nodeIn(at slot) int {
	n, ok := t.kernel.held[at].(node)
	if !ok {
		panic(givenUp{api.ErrAddress})
	}
	return n.base
}

// findEmpty is find for a slot that something shall be laid into.
func (t *turn) findEmpty(address []int) (slot, api.Errno) {
	at := t.find(address)
	if _, full := t.kernel.held[at]; full {
		return slot{}, api.ErrSlot
	}
	return at, api.OK
}

// steps of long work: they may be left behind any one of them, and gone on with later.
type steps func(yield func() bool)

// polled goes through the steps, with a poll behind each.
func (t *turn) polled(s steps) api.Errno {
	for range s {
		if t.poll() {
			return api.Preempted
		}
	}
	return api.OK
}

// poll asks the caller's next bit: true, if the call is to end at once.
func (t *turn) poll() bool {
	if len(t.bits) == 0 {
		return false
	}
	next := t.bits[0]
	t.bits = t.bits[1:]
	return next
}
