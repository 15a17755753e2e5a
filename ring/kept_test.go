package ring

import "testing"

// A ring lives as long as a kernel does: what has gone from it must not stay reachable.
func TestNothingGoneIsKept(t *testing.T) {
	r := New[*int](3)
	for range 4 {
		r.Force(new(int))
	}
	r.Pop()
	r.Pop()
	kept := 0
	for _, p := range r.items {
		if p != nil {
			kept++
		}
	}
	if kept != r.Len() {
		t.Errorf("%d are kept, %d are there", kept, r.Len())
	}
}
