package escheat

import "escheat/api"

// noRoot is the root of a thread that has none.
const noRoot = -1

// setRoot of a thread to a node.
func (t *turn) setRoot() (int, api.Errno) {
	who, ok := t.kernel.held[t.find(t.call.At)].(task)
	if !ok {
		return 0, api.ErrType
	}
	if who.rights&api.Grant == 0 {
		return 0, api.ErrRights
	}
	root, ok := t.kernel.held[t.find(t.call.To)].(node)
	if !ok {
		return 0, api.ErrType
	}
	if root.rights&api.Grant == 0 {
		return 0, api.ErrRights
	}
	thread := t.kernel.threads[who.base]
	thread.Root = root.base
	t.kernel.threads[who.base] = thread
	return 0, api.OK
}

// gets makes a thread ready, with what has come to it.
func (k *Kernel) gets(base, value, badge int, err api.Errno) {
	thread := k.threads[base]
	thread.State = api.Ready
	thread.Value, thread.Badge, thread.Err = value, badge, err
	k.threads[base] = thread
}

// setState of a thread, which keeps what it last got.
func (k *Kernel) setState(base, state int) {
	thread := k.threads[base]
	thread.State = state
	k.threads[base] = thread
}

// end a thread, wherever it waits.
func (k *Kernel) end(base int) {
	delete(k.threads, base)
	for _, q := range k.queues {
		leave(q.senders, base)
		leave(q.receivers, base)
	}
}
