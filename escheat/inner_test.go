package escheat

import (
	"testing"

	"escheat/api"
)

// The kinds that are counted here are those that callers name.
func TestKindsAreThoseOfTheAPI(t *testing.T) {
	counted := []int{kindRetype, kindCopy, kindMint, kindMove, kindDelete, kindRevoke, kindSend, kindReceive, kindLoad, kindStore, kindRoot}
	named := []int{api.Retype, api.Copy, api.Mint, api.Move, api.Delete, api.Revoke, api.Send, api.Receive, api.Load, api.Store, api.Root}
	for i, kind := range counted {
		if kind != named[i] {
			t.Errorf("kind %d is counted as %d", named[i], kind)
		}
	}
	for kind, method := range methods() {
		if (method == nil) != (kind == 0) {
			t.Errorf("the method of kind %d", kind)
		}
	}
}
