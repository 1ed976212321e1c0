package escheat

import "escheat/api"

// maxThreads is how many threads memory has room for, so that a channel of that many never blocks.
const maxThreads = api.MaxWords >> threadBits

// waiter is a thread that waits at an endpoint; value and badge are those of one that sends.
type waiter struct{ thread, value, badge int }

// queue of an endpoint: who waits there, in the order in which they came; one of the two is always empty.
type queue struct{ senders, receivers chan waiter }

func newQueue() queue {
	return queue{make(chan waiter, maxThreads), make(chan waiter, maxThreads)}
}

// send a word to the first thread that waits for one, or wait.
func (t *turn) send() (int, api.Errno) {
	e, err := t.findEndpoint(api.Write)
	if err != api.OK {
		return 0, err
	}
	if !isWord(t.call.Value) {
		return 0, api.ErrArg
	}
	k, q := t.kernel, t.kernel.queues[e.base]
	select {
	case receiver := <-q.receivers:
		k.gets(receiver.thread, t.call.Value, e.badge, api.OK)
	default:
		q.senders <- waiter{t.thread, t.call.Value, e.badge}
		k.setState(t.thread, api.Sending)
	}
	return 0, api.OK
}

// receive the word of the first thread that waits to send one, or wait.
func (t *turn) receive() (int, api.Errno) {
	e, err := t.findEndpoint(api.Read)
	if err != api.OK {
		return 0, err
	}
	k, q := t.kernel, t.kernel.queues[e.base]
	select {
	case sender := <-q.senders:
		k.setState(sender.thread, api.Ready)
		k.gets(t.thread, sender.value, sender.badge, api.OK)
	default:
		q.receivers <- waiter{thread: t.thread}
		k.setState(t.thread, api.Receiving)
	}
	return 0, api.OK
}

// findEndpoint is the capability that the call's At leads to, if it has that right.
func (t *turn) findEndpoint(right int) (endpoint, api.Errno) {
	e, ok := t.kernel.held[t.find(t.call.At)].(endpoint)
	if !ok {
		return endpoint{}, api.ErrType
	}
	if e.rights&right == 0 {
		return endpoint{}, api.ErrRights
	}
	return e, api.OK
}

// abandon an endpoint: whoever waits there goes on without what it waited for.
func (k *Kernel) abandon(base int) {
	q := k.queues[base]
	delete(k.queues, base)
	for _, waiting := range [...]chan waiter{q.senders, q.receivers} {
		close(waiting)
		for w := range waiting {
			k.gets(w.thread, 0, 0, api.ErrGone)
		}
	}
}

// leave lets all but that one thread stand in line, in their order.
func leave(waiting chan waiter, thread int) {
	for range len(waiting) {
		if w := <-waiting; w.thread != thread {
			waiting <- w
		}
	}
}
