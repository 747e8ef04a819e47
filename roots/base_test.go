package roots_test

import (
	"runtime"
	"slices"
	"testing"

	"trug/api"
	"trug/roots"
)

// P15.2, P15.4: the greatest base, and one more than that. The test stands in the first file, as Go would clear all these bytes one by one once it had used some of the memory.
func TestLoadBase(t *testing.T) {
	l := items(70)
	// The tests behind this one are faster if Go knows that all of it is gone.
	t.Cleanup(runtime.GC)
	// Most of these bytes are never touched, so that they need no memory.
	b := make([]byte, maxBase+5000)
	for base := maxBase - 1; base <= maxBase+2; base++ {
		pages, s := dumped(l, 3, base)
		copy(b[base:], pages)
		if base <= maxBase {
			// Without a copy of so many bytes.
			if got, e := roots.Load(b, s); e != api.OK || !slices.Equal(got, l) {
				t.Errorf("Load at %d: %d items, %d", base, len(got), e)
			}
		} else {
			lost(t, "a base above the greatest", b, s, api.ErrPage)
		}
	}
}
