package escheat

import (
	"math"

	"escheat/api"
)

// load answers a word of a frame.
func (t *turn) load() (int, api.Errno) {
	n, err := t.wordOfFrame(api.Read)
	if err != api.OK {
		return 0, err
	}
	return int(t.kernel.words[n]), api.OK
}

// store writes a word of a frame.
func (t *turn) store() (int, api.Errno) {
	n, err := t.wordOfFrame(api.Write)
	if err != api.OK {
		return 0, err
	}
	if !isWord(t.call.Value) {
		return 0, api.ErrArg
	}
	t.kernel.words[n] = uint32(t.call.Value)
	return 0, api.OK
}

// wordOfFrame is the number, in memory, of the word that the call names by At and Offset.
func (t *turn) wordOfFrame(right int) (int, api.Errno) {
	f, ok := t.kernel.held[t.find(t.call.At)].(frame)
	if !ok {
		return 0, api.ErrType
	}
	if f.rights&right == 0 {
		return 0, api.ErrRights
	}
	if t.call.Offset < 0 || t.call.Offset >= f.size() {
		return 0, api.ErrArg
	}
	return f.base + t.call.Offset, api.OK
}

func isWord(n int) bool { return 0 <= n && n <= math.MaxUint32 }
