package task_test

import (
	"math"
	"testing"

	"handbell/api"
	"handbell/cell"
	"handbell/gate"
	"handbell/task"
)

// kinds are the six, and some that there aren't.
var kinds = []byte{0, api.Above, api.Below, api.Rise, api.Fall, api.Quiet, api.Bad, 7, 100, 255}

// others are numbers that are no signals of a store of three.
var others = []int{
	math.MinInt, -1 << 32, math.MinInt32, -256, -255, -3, -2, -1, 3, 4, 8, 255, 256, 257, math.MaxInt32, 1 << 32, 1<<32 + 1, math.MaxInt,
}

func TestWrongKinds(t *testing.T) {
	for _, kind := range []byte{0, 7, 255} {
		for _, delay := range []int64{0, 3, least} {
			r := late(above(), delay)
			r.Kind = kind
			walk(t, r,
				look{1, nil, off()},
				look{2, then(good(2, 300)), off()},
				look{3, then(bad(3, 300)), off()},
				look{9, then(good(9, -300)), off()},
				look{last, nil, off()},
			)
		}
	}
}

// wantNothingCame: as of a signal of which nothing ever came.
func wantNothingCame(t *testing.T, s *cell.Store, signal int) {
	t.Helper()
	for _, kind := range kinds {
		r := api.Rule{Kind: kind, Signal: signal, Limit: 1, Back: 1, Span: 7}
		for _, now := range times() {
			is := kind == api.Quiet && now >= 7
			wantObserve(t, r, s, now, is, !is && kind >= api.Rise && kind <= api.Bad)
		}
		k := task.New(r)
		wantRun(t, k, s, 6, off())
		if kind == api.Quiet {
			wantRun(t, k, s, 7, on())
			wantRun(t, k, s, 0, off())
		} else {
			wantRun(t, k, s, 7, off())
		}
	}
}

func TestNoSuchSignal(t *testing.T) {
	s := store(t, good(0, -90), good(5, 90), bad(6, 90), other(6, -90), came{6, api.Sample{Value: 4}})
	for _, signal := range others {
		wantNothingCame(t, s, signal)
	}
	for _, signal := range append([]int{0, 1, 2}, others...) {
		wantNothingCame(t, nil, signal)
		wantNothingCame(t, cell.New(0), signal)
		wantNothingCame(t, &cell.Store{}, signal)
	}
}

// A task that is On goes, or stays, by what a nil store tells.
func TestNilStoreBehindOn(t *testing.T) {
	for _, c := range []struct {
		r    api.Rule
		s    *cell.Store
		want gate.Gate
	}{
		{above(), store(t, good(1, 200)), on()},
		{below(), store(t, good(1, 10)), on()},
		{rise(9), store(t, good(1, 10), good(4, 200)), off()},
		{fall(9), store(t, good(1, 200), good(4, 10)), off()},
		{quiet(2), store(t, good(4, 1)), on()}, // nothing came since 0
		{badness(), store(t, bad(4, 3)), off()},
	} {
		k := task.New(c.r)
		wantRun(t, k, c.s, 6, on())
		wantRun(t, k, nil, 7, c.want)
	}
}

func TestNil(t *testing.T) {
	var k *task.Task
	for _, s := range stores(t) {
		for _, now := range times() {
			wantRun(t, k, s, now, off())
		}
	}
}

// A task that wasn't made, though it isn't nil, must not panic either.
func TestZeroTask(t *testing.T) {
	k := &task.Task{}
	wantGate(t, k, off())
	for _, s := range stores(t) {
		for _, now := range times() {
			wantRun(t, k, s, now, off())
		}
	}
}

// At all arguments each call ends, none panics, and Run, On and Gate say the same.
func TestAnyArguments(t *testing.T) {
	numbers := []int{math.MinInt, -1, 0, 1, 20, math.MaxInt}
	spans := []int64{least, -1, 0, 1, 4, most, last}
	for _, s := range append(stores(t), store(t, good(least, math.MinInt), good(0, 0), good(last, math.MaxInt))) {
		for _, kind := range kinds {
			for _, n := range numbers {
				for _, span := range spans {
					r := api.Rule{Kind: kind, Signal: n & 1, Limit: n, Back: -n, Delay: span, Span: span}
					k := task.New(r)
					for _, now := range times() {
						task.Observe(r, s, now)
						is := k.Run(now, s)
						if g := k.Gate(); g.On != is || k.On() != is || g.On && g.Held {
							t.Fatalf("%v at %d: %t, %t, %v", r, now, is, k.On(), g)
						}
					}
				}
			}
		}
	}
}
