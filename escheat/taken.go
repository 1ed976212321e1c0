package escheat

import "escheat/api"

// delete takes one capability away, and all that falls with it.
func (t *turn) delete() (int, api.Errno) {
	at, err := t.findToTake()
	if err != api.OK {
		return 0, err
	}
	return 0, t.take(at)
}

// revoke all that came of a capability, the last child first.
func (t *turn) revoke() (int, api.Errno) {
	at, err := t.findToTake()
	if err != api.OK {
		return 0, err
	}
	for t.kernel.tree.hasChildren(at) {
		if err := t.take(t.kernel.tree.lastChild(at)); err != api.OK {
			return 0, err
		}
	}
	return 0, api.OK
}

// findToTake is the full slot that the call's At leads to, once nothing is doomed.
func (t *turn) findToTake() (slot, api.Errno) {
	if err := t.polled(t.kernel.workOff()); err != api.OK {
		return slot{}, err
	}
	at := t.find(t.call.At)
	if _, full := t.kernel.held[at]; !full {
		return slot{}, api.ErrSlot
	}
	return at, api.OK
}

// take away what a slot holds, and work off what that has doomed.
func (t *turn) take(at slot) api.Errno {
	t.kernel.takeAway(at)
	if t.poll() {
		return api.Preempted
	}
	return t.polled(t.kernel.workOff())
}

// takeAway what a slot holds; its object is no more, if that was the last capability to it.
func (k *Kernel) takeAway(at slot) {
	gone := k.held[at]
	delete(k.held, at)
	k.tree.remove(at)
	if k.isHeld(gone) {
		return
	}
	switch gone := gone.(type) {
	case endpoint:
		k.abandon(gone.base)
	case task:
		k.end(gone.base)
	case node:
		k.doom(gone.base)
	}
}

// isHeld tells whether any slot holds a capability to the object that this one is to.
func (k *Kernel) isHeld(c capability) bool {
	object := told(c)
	for _, other := range k.held {
		if o := told(other); o.Type == object.Type && o.Base == object.Base {
			return true
		}
	}
	return false
}

// doom a node: what it holds falls slot by slot, but from now on nobody reaches it.
func (k *Kernel) doom(base int) {
	k.doomed = append(k.doomed, api.Doom{Node: base, Left: k.nodes[base]})
	delete(k.nodes, base)
	for thread, t := range k.threads {
		if t.Root == base {
			t.Root = noRoot
			k.threads[thread] = t
		}
	}
}

// workOff what is doomed, till nothing is.
func (k *Kernel) workOff() steps {
	return func(yield func() bool) {
		for len(k.doomed) > 0 {
			k.workOffLast()
			if !yield() {
				return
			}
		}
	}
}

// workOffLast does one step at the last doomed node: what it holds may doom another one, which is then the last.
func (k *Kernel) workOffLast() {
	last := len(k.doomed) - 1
	if k.doomed[last].Left == 0 {
		k.doomed = k.doomed[:last]
		return
	}
	k.doomed[last].Left--
	at := slot{k.doomed[last].Node, k.doomed[last].Left}
	if _, full := k.held[at]; full {
		k.takeAway(at)
	}
}
