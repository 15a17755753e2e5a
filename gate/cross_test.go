package gate_test

import (
	"math"
	"reflect"
	"testing"

	"handbell/api"
	"handbell/gate"
)

func wantCross(t *testing.T, r api.Rule, value int, in, out bool) {
	t.Helper()
	if i, o := gate.Cross(r, value); i != in || o != out {
		t.Errorf("Cross of kind %d, Limit %d, Back %d, %d: %t, %t, want %t, %t", r.Kind, r.Limit, r.Back, value, i, o, in, out)
	}
}

// cross is a value, and what it is of a rule.
type cross struct {
	value   int
	in, out bool
}

func TestAbove(t *testing.T) {
	r := api.Rule{Kind: api.Above, Limit: 120, Back: 110}
	for _, c := range []cross{
		{math.MinInt, false, true}, {math.MinInt32, false, true}, {-120, false, true}, {0, false, true},
		{109, false, true}, {110, false, true}, {111, false, false}, {115, false, false},
		{119, false, false}, {120, false, false}, {121, true, false},
		{1000, true, false}, {math.MaxInt32, true, false}, {math.MaxInt, true, false},
	} {
		wantCross(t, r, c.value, c.in, c.out)
	}
}

func TestBelow(t *testing.T) {
	r := api.Rule{Kind: api.Below, Limit: 50, Back: 60}
	for _, c := range []cross{
		{math.MinInt, true, false}, {math.MinInt32, true, false}, {-50, true, false}, {0, true, false},
		{49, true, false}, {50, false, false}, {51, false, false}, {55, false, false},
		{59, false, false}, {60, false, true}, {61, false, true},
		{1000, false, true}, {math.MaxInt32, false, true}, {math.MaxInt, false, true},
	} {
		wantCross(t, r, c.value, c.in, c.out)
	}
}

// Where Back is Limit, a value that isn't in is out.
func TestBackAtLimit(t *testing.T) {
	for _, limit := range []int{-7, 0, 7, math.MinInt32, math.MaxInt32} {
		above := api.Rule{Kind: api.Above, Limit: limit, Back: limit}
		wantCross(t, above, limit-1, false, true)
		wantCross(t, above, limit, false, true)
		wantCross(t, above, limit+1, true, false)
		below := api.Rule{Kind: api.Below, Limit: limit, Back: limit}
		wantCross(t, below, limit-1, true, false)
		wantCross(t, below, limit, false, true)
		wantCross(t, below, limit+1, false, true)
	}
}

// Each is asked for itself: where Back is beyond Limit, a value may be both.
func TestBackBeyondLimit(t *testing.T) {
	above := api.Rule{Kind: api.Above, Limit: 10, Back: 12}
	for _, c := range []cross{{9, false, true}, {10, false, true}, {11, true, true}, {12, true, true}, {13, true, false}} {
		wantCross(t, above, c.value, c.in, c.out)
	}
	below := api.Rule{Kind: api.Below, Limit: 12, Back: 10}
	for _, c := range []cross{{9, true, false}, {10, true, true}, {11, true, true}, {12, false, true}, {13, false, true}} {
		wantCross(t, below, c.value, c.in, c.out)
	}
}

// Where a number is at an end of what an int holds, nothing wraps round.
func TestEndsOfNumbers(t *testing.T) {
	above := api.Rule{Kind: api.Above, Limit: math.MaxInt, Back: math.MinInt}
	wantCross(t, above, math.MaxInt, false, false)
	wantCross(t, above, 0, false, false)
	wantCross(t, above, math.MinInt, false, true)
	above = api.Rule{Kind: api.Above, Limit: math.MinInt, Back: math.MinInt}
	wantCross(t, above, math.MinInt, false, true)
	wantCross(t, above, math.MinInt+1, true, false)
	wantCross(t, above, math.MaxInt, true, false)
	below := api.Rule{Kind: api.Below, Limit: math.MinInt, Back: math.MaxInt}
	wantCross(t, below, math.MinInt, false, false)
	wantCross(t, below, 0, false, false)
	wantCross(t, below, math.MaxInt, false, true)
	below = api.Rule{Kind: api.Below, Limit: math.MaxInt, Back: math.MaxInt}
	wantCross(t, below, math.MaxInt, false, true)
	wantCross(t, below, math.MaxInt-1, true, false)
	wantCross(t, below, math.MinInt, true, false)
}

// Every value about every pair of limits, held against the chapter's words.
func TestEveryPair(t *testing.T) {
	for limit := -4; limit <= 4; limit++ {
		for back := -4; back <= 4; back++ {
			for value := -6; value <= 6; value++ {
				wantCross(t, api.Rule{Kind: api.Above, Limit: limit, Back: back}, value, value > limit, !(value > back))
				wantCross(t, api.Rule{Kind: api.Below, Limit: limit, Back: back}, value, value < limit, !(value < back))
			}
		}
	}
}

func TestOtherKinds(t *testing.T) {
	for kind := range 256 {
		if kind == api.Above || kind == api.Below {
			continue
		}
		for _, limits := range [][2]int{{0, 0}, {10, 8}, {8, 10}, {-10, 10}, {math.MinInt, math.MaxInt}, {math.MaxInt, math.MinInt}} {
			r := api.Rule{Kind: byte(kind), Limit: limits[0], Back: limits[1]}
			for _, value := range []int{math.MinInt, -11, -10, -9, -1, 0, 1, 7, 8, 9, 10, 11, math.MaxInt} {
				wantCross(t, r, value, false, false)
			}
		}
	}
}

// A rule's other fields say nothing here, and the rule stays.
func TestOtherFields(t *testing.T) {
	full := func(kind byte) api.Rule {
		return api.Rule{
			Kind: kind, Signal: -3, Limit: 5, Back: 5, Delay: -9, Span: 1 << 50, Priority: 77, Latch: true,
			Stages: []api.Stage{{Wait: 4, Priority: api.High}, {Wait: -4, Priority: 0}},
		}
	}
	for _, kind := range []byte{api.Above, api.Below, api.Quiet} {
		r := full(kind)
		wantCross(t, r, 4, kind == api.Below, kind == api.Above)
		wantCross(t, r, 5, false, kind != api.Quiet)
		wantCross(t, r, 6, kind == api.Above, kind == api.Below)
		if !reflect.DeepEqual(r, full(kind)) {
			t.Errorf("%v, was %v", r, full(kind))
		}
	}
}
