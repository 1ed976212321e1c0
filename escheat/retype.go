package escheat

import "escheat/api"

// resetStep is how many words become 0 between two polls.
const resetStep = 16

// retype makes objects of free memory.
func (t *turn) retype() (int, api.Errno) {
	k := t.kernel
	if err := t.polled(k.workOff()); err != api.OK {
		return 0, err
	}
	from := t.find(t.call.At)
	if _, free := k.held[from].(untyped); !free {
		return 0, api.ErrType
	}
	if !isObject(t.call.Type, t.call.Bits) || t.call.Count < 1 || t.call.Count > api.MaxCount {
		return 0, api.ErrArg
	}
	to, err := t.findEmptyRow(t.call.To, t.call.Count)
	if err != api.OK {
		return 0, err
	}
	if !k.tree.hasChildren(from) {
		if err := t.polled(k.reset(from)); err != api.OK {
			return 0, err
		}
	}
	return 0, t.carve(from, to)
}

// findEmptyRow is the slots of one node, from an address on, that objects shall be laid into.
func (t *turn) findEmptyRow(address []int, count int) ([]slot, api.Errno) {
	first := t.find(address)
	t.slotOf(first.node, first.index+count-1) // gives up, if the row leaves the node
	row := make([]slot, count)
	for i := range row {
		row[i] = slot{first.node, first.index + i}
		if _, full := t.kernel.held[row[i]]; full {
			return nil, api.ErrSlot
		}
	}
	return row, api.OK
}

// reset of untyped memory: from its Mark down, so that what is left undone is still below the Mark.
func (k *Kernel) reset(at slot) steps {
	return func(yield func() bool) {
		for {
			u, free := k.held[at].(untyped)
			if !free || u.mark == 0 {
				return
			}
			low := max(u.mark-resetStep, 0)
			clear(k.words[u.base+low : u.base+u.mark])
			u.mark = low
			k.held[at] = u
			if !yield() {
				return
			}
		}
	}
}

// carve the call's objects out of untyped memory, one for each slot, or none if there is no room for all.
func (t *turn) carve(from slot, to []slot) api.Errno {
	k := t.kernel
	u, free := k.held[from].(untyped)
	if !free {
		return api.ErrType
	}
	next := extent{roundUp(u.base+u.mark, 1<<t.call.Bits), t.call.Bits}
	if next.base+len(to)*next.size() > u.behind() {
		return api.ErrRoom
	}
	for _, at := range to {
		k.found(at, made(t.call.Type, next), from, t.root)
		next.base = next.behind()
	}
	u.mark = next.base - u.base
	k.held[from] = u
	return api.OK
}

// roundUp to a multiple of size, a power of two.
func roundUp(n, size int) int { return (n + size - 1) &^ (size - 1) }
