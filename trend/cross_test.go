package trend_test

import (
	"math"
	"reflect"
	"testing"

	"handbell/api"
	"handbell/cell"
	"handbell/trend"
)

func wantCross(t *testing.T, r api.Rule, change int, in, out bool) {
	t.Helper()
	if i, o := trend.Cross(r, change); i != in || o != out {
		t.Errorf("Cross of kind %d, Limit %d, Back %d, %d: %t, %t, want %t, %t", r.Kind, r.Limit, r.Back, change, i, o, in, out)
	}
}

// cross is a change, and what it is of a rule.
type cross struct {
	change  int
	in, out bool
}

func TestRise(t *testing.T) {
	r := api.Rule{Kind: api.Rise, Limit: 20, Back: 5}
	for _, c := range []cross{
		{-1 << 33, false, true}, {math.MinInt32, false, true}, {-20, false, true}, {-5, false, true}, {-1, false, true}, {0, false, true},
		{4, false, true}, {5, false, false}, {6, false, false}, {12, false, false},
		{19, false, false}, {20, true, false}, {21, true, false},
		{300, true, false}, {math.MaxInt32, true, false}, {1 << 33, true, false},
	} {
		wantCross(t, r, c.change, c.in, c.out)
	}
}

func TestFall(t *testing.T) {
	r := api.Rule{Kind: api.Fall, Limit: 20, Back: 5}
	for _, c := range []cross{
		{1 << 33, false, true}, {math.MaxInt32, false, true}, {20, false, true}, {5, false, true}, {1, false, true}, {0, false, true},
		{-4, false, true}, {-5, false, false}, {-6, false, false}, {-12, false, false},
		{-19, false, false}, {-20, true, false}, {-21, true, false},
		{-300, true, false}, {math.MinInt32, true, false}, {-1 << 33, true, false},
	} {
		wantCross(t, r, c.change, c.in, c.out)
	}
}

func TestBackOfNought(t *testing.T) {
	for _, c := range []cross{{-2, false, true}, {-1, false, true}, {0, false, false}, {1, true, false}, {2, true, false}} {
		wantCross(t, api.Rule{Kind: api.Rise, Limit: 1}, c.change, c.in, c.out)
		wantCross(t, api.Rule{Kind: api.Fall, Limit: 1}, -c.change, c.in, c.out)
	}
}

// Where Back is Limit, a change that isn't in is out.
func TestBackAtLimit(t *testing.T) {
	for _, limit := range []int{1, 2, 7, math.MaxInt32} {
		for _, c := range []cross{{limit - 1, false, true}, {limit, true, false}, {limit + 1, true, false}} {
			wantCross(t, api.Rule{Kind: api.Rise, Limit: limit, Back: limit}, c.change, c.in, c.out)
			wantCross(t, api.Rule{Kind: api.Fall, Limit: limit, Back: limit}, -c.change, c.in, c.out)
		}
	}
}

// Each is asked for itself: where Back is beyond Limit, a change may be both; a
// Limit below 0 is met by a change that goes the other way.
func TestEveryPair(t *testing.T) {
	for limit := -4; limit <= 4; limit++ {
		for back := -4; back <= 4; back++ {
			for change := -6; change <= 6; change++ {
				wantCross(t, api.Rule{Kind: api.Rise, Limit: limit, Back: back}, change, change >= limit, change < back)
				wantCross(t, api.Rule{Kind: api.Fall, Limit: limit, Back: back}, change, -limit >= change, -back < change)
			}
		}
	}
}

// Changes at both ends of what is promised, of limits that four bytes hold.
func TestGreatest(t *testing.T) {
	for _, limits := range [][2]int{{1, 0}, {1, 1}, {math.MaxInt32, 0}, {math.MaxInt32, math.MaxInt32}} {
		rise := api.Rule{Kind: api.Rise, Limit: limits[0], Back: limits[1]}
		fall := api.Rule{Kind: api.Fall, Limit: limits[0], Back: limits[1]}
		for _, far := range []int{1<<33 - 1, 1 << 33} {
			wantCross(t, rise, far, true, false)
			wantCross(t, rise, -far, false, true)
			wantCross(t, fall, far, false, true)
			wantCross(t, fall, -far, true, false)
		}
	}
	for _, kind := range []byte{api.Rise, api.Fall} {
		r := api.Rule{Kind: kind, Limit: 1 << 33, Back: 1 << 33}
		toward := 1
		if kind == api.Fall {
			toward = -1
		}
		wantCross(t, r, toward*(1<<33), true, false)
		wantCross(t, r, toward*(1<<33-1), false, true)
		wantCross(t, r, -toward*(1<<33), false, true)
	}
}

// Of changes beyond that nothing is promised but that each call ends, and none panics.
func TestBeyondWhatIsPromised(t *testing.T) {
	for kind := range 256 {
		for _, limit := range []int{math.MinInt, 0, math.MaxInt} {
			for _, change := range []int{math.MinInt, math.MinInt + 1, -1<<33 - 1, 1<<33 + 1, math.MaxInt} {
				trend.Cross(api.Rule{Kind: byte(kind), Limit: limit, Back: limit}, change)
			}
		}
	}
}

func TestOtherKinds(t *testing.T) {
	for kind := range 256 {
		if kind == api.Rise || kind == api.Fall {
			continue
		}
		for _, limits := range [][2]int{{0, 0}, {10, 8}, {8, 10}, {-10, 10}, {math.MinInt, math.MaxInt}, {math.MaxInt, math.MinInt}} {
			r := api.Rule{Kind: byte(kind), Limit: limits[0], Back: limits[1]}
			for _, change := range []int{-1 << 33, -11, -10, -9, -8, -1, 0, 1, 7, 8, 9, 10, 11, 1 << 33} {
				wantCross(t, r, change, false, false)
			}
		}
	}
}

// A rule's other fields say nothing here, and the rule stays.
func TestOtherFields(t *testing.T) {
	full := func(kind byte) api.Rule {
		return api.Rule{
			Kind: kind, Signal: -3, Limit: 5, Back: 3, Delay: -9, Span: 1 << 50, Priority: 77, Latch: true,
			Stages: []api.Stage{{Wait: 4, Priority: api.High}, {Wait: -4, Priority: 0}},
		}
	}
	for _, kind := range []byte{api.Rise, api.Fall, api.Bad} {
		r := full(kind)
		wantCross(t, r, 5, kind == api.Rise, kind == api.Fall)
		wantCross(t, r, 4, false, kind == api.Fall)
		wantCross(t, r, 0, false, kind != api.Bad)
		wantCross(t, r, -4, false, kind == api.Rise)
		wantCross(t, r, -5, kind == api.Fall, kind == api.Rise)
		if !reflect.DeepEqual(r, full(kind)) {
			t.Errorf("%v, was %v", r, full(kind))
		}
	}
}

// What a signal changes by within a span, and what that is of a rule.
func TestChangeIsCrossed(t *testing.T) {
	s := cell.New(1)
	rise := api.Rule{Kind: api.Rise, Limit: 10, Back: 4, Span: 5}
	fall := api.Rule{Kind: api.Fall, Limit: 10, Back: 4, Span: 5}
	for at, c := range []struct {
		value, change                  int
		rises, backDown, falls, backUp bool
	}{
		{80, 0, false, true, false, true},
		{89, 9, false, false, false, true},
		{90, 10, true, false, false, true},
		{79, -1, false, true, false, true},
		{70, -10, false, true, true, false},
		{76, -4, false, true, false, false},
		{79, -10, false, true, true, false}, // less 89: 80 came too long ago
		{79, -11, false, true, true, false},
		{83, 4, false, false, false, true},
	} {
		put(t, s, int64(at), api.Sample{Value: c.value})
		wantChange(t, s, 0, int64(at), rise.Span, c.change)
		wantCross(t, rise, c.change, c.rises, c.backDown)
		wantCross(t, fall, c.change, c.falls, c.backUp)
	}
}
