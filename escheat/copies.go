package escheat

import "escheat/api"

const maxBadge = 65535

// copy lays a capability, with some of its rights, below itself.
func (t *turn) copy() (int, api.Errno) {
	at := t.find(t.call.At)
	c, full := t.kernel.held[at]
	if !full {
		return 0, api.ErrSlot
	}
	if _, free := c.(untyped); free {
		return 0, api.ErrType
	}
	if !areRights(t.call.Rights) {
		return 0, api.ErrArg
	}
	return 0, t.layChild(lessened(c, t.call.Rights), at)
}

// mint is copy for an endpoint's capability, which gets a badge.
func (t *turn) mint() (int, api.Errno) {
	at := t.find(t.call.At)
	c, full := t.kernel.held[at]
	if !full {
		return 0, api.ErrSlot
	}
	e, ok := c.(endpoint)
	if !ok {
		return 0, api.ErrType
	}
	if e.badge != 0 {
		return 0, api.ErrRights
	}
	if !areRights(t.call.Rights) || t.call.Badge < 1 || t.call.Badge > maxBadge {
		return 0, api.ErrArg
	}
	e.badge = t.call.Badge
	return 0, t.layChild(lessened(e, t.call.Rights), at)
}

// move a capability to another slot; who handed it on, and to whom it was, stays.
func (t *turn) move() (int, api.Errno) {
	k := t.kernel
	from := t.find(t.call.At)
	c, full := k.held[from]
	if !full {
		return 0, api.ErrSlot
	}
	to, err := t.findEmpty(t.call.To)
	if err != api.OK {
		return 0, err
	}
	delete(k.held, from)
	k.held[to] = c
	k.tree.move(from, to)
	return 0, api.OK
}

// layChild lays a capability where the call's To says.
func (t *turn) layChild(c capability, parent slot) api.Errno {
	to, err := t.findEmpty(t.call.To)
	if err == api.OK {
		t.kernel.lay(to, c, parent)
	}
	return err
}

func areRights(n int) bool { return 0 <= n && n <= allRights }
