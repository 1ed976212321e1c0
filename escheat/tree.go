package escheat

import (
	"iter"
	"slices"
)

// slot of a node: where a capability may lie.
type slot struct{ node, index int }

// nowhere stands above all capabilities that have no parent, so that these have an order like any children.
var nowhere = slot{-1, -1}

// stand is where a capability stands in the tree.
type stand struct {
	parent   slot
	children []slot
}

// tree of capabilities, each named by the slot that it lies in.
type tree map[slot]stand

// add a capability as its parent's last child.
func (t tree) add(at, parent slot) {
	t[at] = stand{parent: parent}
	above := t[parent]
	above.children = append(above.children, at)
	t[parent] = above
}

// move gives a capability the name of another slot; all that it stands between stays.
func (t tree) move(from, to slot) {
	s := t[from]
	delete(t, from)
	t[to] = s
	siblings := t[s.parent].children
	siblings[slices.Index(siblings, from)] = to
	t.setParent(s.children, to)
}

// remove a capability; its children stand where it stood, but behind all others where there is no parent.
func (t tree) remove(at slot) {
	s := t[at]
	delete(t, at)
	above := t[s.parent]
	place := slices.Index(above.children, at)
	if s.parent == nowhere {
		above.children = append(slices.Delete(above.children, place, place+1), s.children...)
	} else {
		above.children = slices.Replace(above.children, place, place+1, s.children...)
	}
	t[s.parent] = above
	t.setParent(s.children, s.parent)
}

// setParent of those who have another one so far.
func (t tree) setParent(children []slot, parent slot) {
	for _, child := range children {
		below := t[child]
		below.parent = parent
		t[child] = below
	}
}

// hasChildren tells whether anything came of a capability that is there yet.
func (t tree) hasChildren(at slot) bool { return len(t[at].children) > 0 }

// lastChild of a capability that has children.
func (t tree) lastChild(at slot) slot {
	children := t[at].children
	return children[len(children)-1]
}

// inOrder goes through all capabilities, each one ahead of its children.
func (t tree) inOrder() iter.Seq[slot] {
	return func(yield func(slot) bool) { t.walk(nowhere, yield) }
}

// walk what is below a slot; false, if whoever ranges has left.
func (t tree) walk(at slot, yield func(slot) bool) bool {
	for _, child := range t[at].children {
		if !yield(child) || !t.walk(child, yield) {
			return false
		}
	}
	return true
}
