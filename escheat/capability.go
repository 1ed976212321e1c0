package escheat

import "escheat/api"

const allRights = api.Read | api.Write | api.Grant

// capability is what a slot holds: one of the types below, one for each type of object.
type capability interface {
	memory() extent
}

// extent is the memory of an object.
type extent struct{ base, bits int }

func (e extent) memory() extent { return e }

// size in words.
func (e extent) size() int { return 1 << e.bits }

// behind is the first word that is no longer of the object.
func (e extent) behind() int { return e.base + e.size() }

// untyped has no rights of its own: they are always all.
type untyped struct {
	extent
	mark int
}

type node struct {
	extent
	rights int
}

const wordsPerSlot = 4

func (n node) slots() int { return n.size() / wordsPerSlot }

type endpoint struct {
	extent
	rights, badge int
}

type task struct {
	extent
	rights int
}

type frame struct {
	extent
	rights int
}

const threadBits = 4

// bitsOf has, for each type of object, the least and the most Bits; the row of no type lets none through.
var bitsOf = [...]struct{ least, most int }{
	0:            {1, 0},
	api.Untyped:  {4, 10},
	api.Node:     {3, 6},
	api.Endpoint: {2, 2},
	api.Task:     {threadBits, threadBits},
	api.Frame:    {2, 6},
}

// isObject tells whether there are objects of that type and of these Bits.
func isObject(kind, bits int) bool {
	if kind < 0 || kind >= len(bitsOf) {
		return false
	}
	return bitsOf[kind].least <= bits && bits <= bitsOf[kind].most
}

// made is the first capability to a new object.
func made(kind int, e extent) capability {
	switch kind {
	case api.Untyped:
		return untyped{extent: e}
	case api.Node:
		return node{e, allRights}
	case api.Endpoint:
		return endpoint{extent: e, rights: allRights}
	case api.Task:
		return task{e, allRights}
	}
	return frame{e, allRights}
}

// lessened is the capability with those of its rights alone that are among the ones given.
func lessened(c capability, rights int) capability {
	switch c := c.(type) {
	case node:
		c.rights &= rights
		return c
	case endpoint:
		c.rights &= rights
		return c
	case task:
		c.rights &= rights
		return c
	case frame:
		c.rights &= rights
		return c
	}
	return c
}

// told is the capability as callers see it.
func told(c capability) api.Cap {
	e := c.memory()
	t := api.Cap{Base: e.base, Bits: e.bits}
	switch c := c.(type) {
	case untyped:
		t.Type, t.Rights, t.Mark = api.Untyped, allRights, c.mark
	case node:
		t.Type, t.Rights = api.Node, c.rights
	case endpoint:
		t.Type, t.Rights, t.Badge = api.Endpoint, c.rights, c.badge
	case task:
		t.Type, t.Rights = api.Task, c.rights
	case frame:
		t.Type, t.Rights = api.Frame, c.rights
	}
	return t
}
