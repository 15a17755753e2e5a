package frame

import (
	"slices"
	"testing"

	"handbell/api"
)

// A scanner lives as long as a kernel does: it must not keep what came before.
func TestOnlyWhatWaitsIsKept(t *testing.T) {
	s := New()
	wantRoom := func() {
		t.Helper()
		if room := cap(s.held); room > 2*(api.MaxPay+around) {
			t.Errorf("%d wait, in room for %d", s.Held(), room)
		}
	}
	s.Feed(slices.Repeat([]byte{0x55}, 100000))
	wantRoom()
	long := Frame(make([]byte, api.MaxPay))
	s.Feed(slices.Repeat(long, 1000)[:1000*len(long)-1])
	wantRoom()
	for range 1000 {
		s.Feed(long[:1])
		wantRoom()
	}
}
