package task_test

import (
	"math"
	"testing"

	"handbell/api"
	"handbell/cell"
	"handbell/task"
)

const (
	most  = int64(api.MaxTick)
	last  = int64(math.MaxInt64)
	least = int64(math.MinInt64)
)

// came is a sample, and when it came.
type came struct {
	at int64
	x  api.Sample
}

// good is a value of signal 1.
func good(at int64, value int) came { return came{at, api.Sample{Signal: 1, Value: value}} }

// bad is a Bad sample of signal 1.
func bad(at int64, value int) came { return came{at, api.Sample{Signal: 1, Value: value, Bad: true}} }

// other is a value of signal 2, of which no rule here tells.
func other(at int64, value int) came { return came{at, api.Sample{Signal: 2, Value: value}} }

// store is one of three signals, to which these came, in this order.
func store(t *testing.T, all ...came) *cell.Store {
	t.Helper()
	s := cell.New(3)
	fill(t, s, all...)
	return s
}

func fill(t *testing.T, s *cell.Store, all ...came) {
	t.Helper()
	for _, c := range all {
		if !s.Put(c.at, c.x) {
			t.Fatalf("Put at %d of %v: false", c.at, c.x)
		}
	}
}

func wantObserve(t *testing.T, r api.Rule, s *cell.Store, now int64, in, out bool) {
	t.Helper()
	if i, o := task.Observe(r, s, now); i != in || o != out {
		t.Errorf("Observe of %v at %d: %t, %t, want %t, %t", r, now, i, o, in, out)
	}
}

// times are those about which the bounds of ticks and of 64 bits lie.
func times() []int64 {
	return []int64{least, least + 1, -most, -1, 0, 1, 5, 9, 20, api.MaxSpan, most - 1, most, most + 1, last - 1, last}
}

// wantAlways: the same at each time.
func wantAlways(t *testing.T, r api.Rule, s *cell.Store, in, out bool) {
	t.Helper()
	for _, now := range times() {
		wantObserve(t, r, s, now, in, out)
	}
}

func above() api.Rule { return api.Rule{Kind: api.Above, Signal: 1, Limit: 120, Back: 110} }

func below() api.Rule { return api.Rule{Kind: api.Below, Signal: 1, Limit: 50, Back: 60} }

func rise(span int64) api.Rule {
	return api.Rule{Kind: api.Rise, Signal: 1, Limit: 20, Back: 5, Span: span}
}

func fall(span int64) api.Rule {
	return api.Rule{Kind: api.Fall, Signal: 1, Limit: 20, Back: 5, Span: span}
}

func quiet(span int64) api.Rule { return api.Rule{Kind: api.Quiet, Signal: 1, Span: span} }

func badness() api.Rule { return api.Rule{Kind: api.Bad, Signal: 1} }

// crossed is a number, and what it is of a rule.
type crossed struct {
	n       int
	in, out bool
}

func TestAbove(t *testing.T) {
	for _, c := range []crossed{
		{math.MinInt32, false, true}, {0, false, true}, {109, false, true}, {110, false, true}, {111, false, false},
		{119, false, false}, {120, false, false}, {121, true, false}, {300, true, false}, {math.MaxInt32, true, false},
	} {
		wantAlways(t, above(), store(t, good(9, c.n)), c.in, c.out)
	}
}

func TestBelow(t *testing.T) {
	for _, c := range []crossed{
		{math.MinInt32, true, false}, {0, true, false}, {49, true, false}, {50, false, false}, {51, false, false},
		{59, false, false}, {60, false, true}, {61, false, true}, {300, false, true}, {math.MaxInt32, false, true},
	} {
		wantAlways(t, below(), store(t, good(9, c.n)), c.in, c.out)
	}
}

// It is the last value that tells, however long ago it came.
func TestLastValue(t *testing.T) {
	s := store(t, good(2, 130), good(4, 30), good(9, 115))
	wantAlways(t, above(), s, false, false)
	wantAlways(t, below(), s, false, true)
	fill(t, s, good(9, 121)) // one more at that time
	wantAlways(t, above(), s, true, false)
	fill(t, s, good(10, 40), other(11, 130))
	wantAlways(t, above(), s, false, true)
	wantAlways(t, below(), s, true, false)
	for i := range int64(3 * api.MaxKeep) {
		fill(t, s, good(20+i, 100+int(i)))
		wantObserve(t, above(), s, 20+i, i > 20, i <= 10)
	}
}

func TestNoValueYet(t *testing.T) {
	for _, s := range []*cell.Store{store(t), store(t, other(5, 300)), store(t, other(0, -300), other(9, 300))} {
		wantAlways(t, above(), s, false, false)
		wantAlways(t, below(), s, false, false)
		wantAlways(t, rise(3), s, false, true)
		wantAlways(t, fall(3), s, false, true)
		wantAlways(t, badness(), s, false, true)
	}
}

// A signal of which only Bad samples came has no value, whatever they said.
func TestBadOnly(t *testing.T) {
	s := cell.New(3)
	for i := range int64(40) {
		fill(t, s, bad(i, int(100*i)-2000), other(i, 80))
		wantAlways(t, above(), s, false, false)
		wantAlways(t, below(), s, false, false)
		wantAlways(t, rise(most), s, false, true)
		wantAlways(t, fall(most), s, false, true)
		wantAlways(t, badness(), s, true, false)
	}
}

// Where the last one is Bad the values that stand there say nothing to a limit.
func TestBadLast(t *testing.T) {
	for _, v := range []int{-300, 30, 50, 55, 60, 80, 110, 115, 120, 130, 300} {
		s := store(t, good(1, v), good(4, v), bad(9, v))
		wantAlways(t, above(), s, false, false)
		wantAlways(t, below(), s, false, false)
		fill(t, s, bad(9, 80), other(9, 80))
		wantAlways(t, above(), s, false, false)
		wantAlways(t, below(), s, false, false)
	}
	s := store(t, good(1, 30), bad(4, 30), good(4, 130)) // a good one again, also at that time
	wantAlways(t, above(), s, true, false)
	wantAlways(t, below(), s, false, true)
}

func TestRise(t *testing.T) {
	for _, c := range []crossed{
		{-300, false, true}, {-20, false, true}, {0, false, true}, {4, false, true}, {5, false, false}, {6, false, false},
		{19, false, false}, {20, true, false}, {21, true, false}, {300, true, false},
	} {
		s := store(t, good(6, 80), good(9, 80+c.n))
		wantObserve(t, rise(3), s, 9, c.in, c.out)
		wantObserve(t, rise(90), s, 9, c.in, c.out)
		wantObserve(t, rise(14), s, 20, c.in, c.out)
	}
}

func TestFall(t *testing.T) {
	for _, c := range []crossed{
		{300, false, true}, {20, false, true}, {0, false, true}, {-4, false, true}, {-5, false, false}, {-6, false, false},
		{-19, false, false}, {-20, true, false}, {-21, true, false}, {-300, true, false},
	} {
		s := store(t, good(6, 80), good(9, 80+c.n))
		wantObserve(t, fall(3), s, 9, c.in, c.out)
		wantObserve(t, fall(90), s, 9, c.in, c.out)
		wantObserve(t, fall(14), s, 20, c.in, c.out)
	}
}

// A span that just reaches a value's time, and one that just doesn't.
func TestSpanReaches(t *testing.T) {
	s := store(t, good(3, 10), good(5, 60), good(8, 35))
	wantObserve(t, rise(5), s, 8, true, false) // 35 less 10
	wantObserve(t, fall(5), s, 8, false, true)
	wantObserve(t, rise(4), s, 8, false, true) // 35 less 60
	wantObserve(t, fall(4), s, 8, true, false)
	wantObserve(t, fall(3), s, 8, true, false)
	wantObserve(t, fall(2), s, 8, false, true) // 35 less 35
	wantObserve(t, rise(6), s, 9, true, false)
	wantObserve(t, rise(5), s, 9, false, true)
	wantObserve(t, fall(4), s, 9, true, false)
	wantObserve(t, fall(3), s, 9, false, true)
}

// A change of 0 is one: with no way back it is neither in nor out. Where nothing came within it is out.
func TestFewWithinSpan(t *testing.T) {
	for _, kind := range []byte{api.Rise, api.Fall} {
		r := api.Rule{Kind: kind, Signal: 1, Limit: 1, Back: 0, Span: 3}
		s := store(t, good(5, 70))
		wantObserve(t, r, s, 5, false, false)
		wantObserve(t, r, s, 8, false, false)
		wantObserve(t, r, s, 9, false, true)
		wantObserve(t, r, s, most, false, true)
		wantObserve(t, r, s, 0, false, false) // no value is earlier than that span
		fill(t, s, bad(9, 200), other(9, 200))
		wantObserve(t, r, s, 8, false, false)
		wantObserve(t, r, s, 9, false, true) // what is Bad is none that came within
		fill(t, s, good(10, 90))
		wantObserve(t, r, s, 13, false, false) // one value alone
		wantObserve(t, r, s, 14, false, true)
	}
}

// What is Bad is no value, and a change is asked also where the last sample was Bad.
func TestChangeBehindBad(t *testing.T) {
	s := store(t, good(2, 10), bad(3, 900), good(4, 50), bad(5, -900), other(5, 7))
	wantObserve(t, rise(3), s, 5, true, false)
	wantObserve(t, fall(3), s, 5, false, true)
	wantObserve(t, rise(2), s, 5, false, true)
	wantObserve(t, fall(2), s, 5, false, true)
	s = store(t, good(2, 50), good(4, 10), bad(5, 900))
	wantObserve(t, rise(3), s, 5, false, true)
	wantObserve(t, fall(3), s, 5, true, false)
}

// Just as many ticks as the span, one fewer, and one more.
func TestQuiet(t *testing.T) {
	for _, span := range []int64{1, 2, 7, api.MaxSpan - 1, api.MaxSpan} {
		for _, c := range []struct {
			s  *cell.Store
			at int64 // when a sample came last
		}{
			{store(t), 0}, // none ever came: since 0
			{store(t, other(9, 3)), 0},
			{store(t, good(0, 3)), 0},
			{store(t, good(2, 3), good(9, 4)), 9},
			{store(t, good(2, 3), bad(9, 4)), 9},
			{store(t, bad(9, 4), bad(12, 4), other(13, 5)), 12},
			{store(t, bad(4, 4), good(12, 4)), 12},
		} {
			r := quiet(span)
			wantObserve(t, r, c.s, c.at, false, true)
			wantObserve(t, r, c.s, c.at+span-1, false, true)
			wantObserve(t, r, c.s, c.at+span, true, false)
			wantObserve(t, r, c.s, c.at+span+1, true, false)
			wantObserve(t, r, c.s, most, true, false)
			wantObserve(t, r, c.s, -1, false, true)
			wantObserve(t, r, c.s, least, false, true)
			wantObserve(t, r, c.s, last, true, false)
		}
	}
}

// Quiet is a Since: from 0 to MaxTick.
func TestQuietSpansBeyond(t *testing.T) {
	for _, s := range []*cell.Store{store(t), store(t, good(9, 3))} {
		for _, span := range []int64{0, -1, -most, least} {
			wantAlways(t, quiet(span), s, true, false)
		}
		for _, span := range []int64{most + 1, last} {
			wantAlways(t, quiet(span), s, false, true)
		}
		wantObserve(t, quiet(most), s, last, true, false)
	}
}

func TestBad(t *testing.T) {
	s := store(t)
	wantAlways(t, badness(), s, false, true)
	for _, c := range []struct {
		c   came
		bad bool
	}{
		{other(1, 5), false}, {good(2, 5), false}, {bad(3, 5), true}, {other(4, 5), true}, {bad(5, 5), true},
		{good(5, 5), false}, {bad(5, 5), true}, {good(9, 5), false}, {came{9, api.Sample{Signal: 2, Bad: true}}, false},
	} {
		fill(t, s, c.c)
		wantAlways(t, badness(), s, c.bad, !c.bad)
	}
}

// It is the rule's own signal that is asked.
func TestEachSignal(t *testing.T) {
	s := cell.New(api.MaxSignals)
	for signal := range api.MaxSignals {
		fill(t, s, came{6, api.Sample{Signal: signal, Value: 80}})
		fill(t, s, came{int64(10 + signal), api.Sample{Signal: signal, Value: 80 + 10*signal, Bad: signal == 7}})
	}
	for signal := range api.MaxSignals {
		a, r, q, b := above(), rise(14), quiet(12), badness()
		a.Signal, r.Signal, q.Signal, b.Signal = signal, signal, signal, signal
		wantObserve(t, a, s, 20, signal == 5 || signal == 6, signal <= 3)
		wantObserve(t, r, s, 20, signal >= 2 && signal <= 6, signal == 0 || signal == 7)
		wantObserve(t, q, s, 25, signal <= 3, signal > 3)
		wantObserve(t, b, s, 20, signal == 7, signal != 7)
	}
}

func stores(t *testing.T) []*cell.Store {
	t.Helper()
	return []*cell.Store{
		store(t), store(t, good(0, 300)), store(t, good(1, -300)), store(t, bad(2, 300)), store(t, good(2, 0), good(5, 300)),
		store(t, good(2, 300), good(5, -300)), store(t, good(2, 3), bad(9, 5)), cell.New(0), {}, nil,
	}
}

// A kind that there isn't is neither in nor out.
func TestOtherKinds(t *testing.T) {
	for kind := range 256 {
		if kind >= api.Above && kind <= api.Bad {
			continue
		}
		for _, s := range stores(t) {
			for _, r := range []api.Rule{{}, above(), below(), rise(3), quiet(1)} {
				r.Kind = byte(kind)
				wantAlways(t, r, s, false, false)
			}
		}
	}
}

// What a kind doesn't name says nothing to it.
func TestOtherFields(t *testing.T) {
	for _, s := range stores(t) {
		for _, r := range []api.Rule{above(), below(), rise(4), fall(4), quiet(4), badness()} {
			for _, now := range times() {
				in, out := task.Observe(r, s, now)
				full := r
				full.Delay, full.Priority, full.Latch = -7, 200, true
				full.Stages = []api.Stage{{Wait: -3, Priority: 9}}
				wantObserve(t, full, s, now, in, out)
				if r.Kind != api.Rise && r.Kind != api.Fall && r.Kind != api.Quiet {
					full.Span = 2
					wantObserve(t, full, s, now, in, out)
				}
				if r.Kind == api.Quiet || r.Kind == api.Bad {
					full.Limit, full.Back = -900, 900
					wantObserve(t, full, s, now, in, out)
				}
			}
		}
	}
}
