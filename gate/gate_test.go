package gate_test

import (
	"math"
	"testing"

	"handbell/api"
	"handbell/gate"
)

const (
	most  = int64(api.MaxTick)
	last  = int64(math.MaxInt64)
	least = int64(math.MinInt64)
)

var bools = []bool{false, true}

func held(since int64) gate.Gate { return gate.Gate{Held: true, Since: since} }

func on() gate.Gate { return gate.Gate{On: true} }

func wantStep(t *testing.T, g gate.Gate, now int64, in, out bool, delay int64, want gate.Gate) {
	t.Helper()
	if got := g.Step(now, in, out, delay); got != want {
		t.Errorf("%v: Step(%d, %t, %t, %d): %v, want %v", g, now, in, out, delay, got, want)
	}
}

// step is what a gate is told, and what it is then.
type step struct {
	now     int64
	in, out bool
	want    gate.Gate
}

// walk steps a gate that is all 0 at first.
func walk(t *testing.T, delay int64, steps ...step) {
	t.Helper()
	var g gate.Gate
	for i, x := range steps {
		if g = g.Step(x.now, x.in, x.out, delay); g != x.want {
			t.Fatalf("delay %d, step %d at %d: %v, want %v", delay, i, x.now, g, x.want)
		}
	}
}

func TestExample(t *testing.T) {
	walk(t, 2, step{5, true, false, held(5)}, step{6, true, false, held(5)}, step{7, true, false, on()})
}

func TestManyTicks(t *testing.T) {
	walk(t, 3,
		step{0, false, false, gate.Gate{}},
		step{1, false, true, gate.Gate{}},
		step{2, true, false, held(2)},
		step{3, true, false, held(2)},
		step{4, false, false, gate.Gate{}}, // it ended too soon
		step{5, true, false, held(5)},      // and counts from here
		step{6, true, false, held(5)},
		step{7, true, false, held(5)},
		step{8, true, false, on()},
		step{9, true, false, on()},
		step{10, false, false, on()}, // not in, but not well past
		step{11, true, false, on()},
		step{12, false, true, gate.Gate{}},
		step{13, false, false, gate.Gate{}},
		step{14, true, false, held(14)}, // anew, and as long again
		step{16, true, false, held(14)},
		step{30, true, false, on()}, // ticks that weren't told count, too
		step{30, false, true, gate.Gate{}},
		step{30, true, true, held(30)},
		step{33, true, true, on()}, // out is asked of one that is on alone
		step{34, true, true, gate.Gate{}},
	)
}

// Each gate that comes of stepping, told each pair.
func TestEachPair(t *testing.T) {
	for _, c := range []struct {
		g            gate.Gate
		neither, out gate.Gate
		in, both     gate.Gate
	}{
		{g: gate.Gate{}, in: held(20), both: held(20)},
		{g: held(20), in: held(20), both: held(20)},
		{g: held(16), in: held(16), both: held(16)},
		{g: held(15), in: on(), both: on()},
		{g: held(0), in: on(), both: on()},
		{g: on(), neither: on(), in: on()},
	} {
		wantStep(t, c.g, 20, false, false, 5, c.neither)
		wantStep(t, c.g, 20, false, true, 5, c.out)
		wantStep(t, c.g, 20, true, false, 5, c.in)
		wantStep(t, c.g, 20, true, true, 5, c.both)
	}
}

// One that is On goes by out alone, whatever the time and the delay; and stays just as it was.
func TestOn(t *testing.T) {
	for _, g := range []gate.Gate{on(), {On: true, Since: 7}, {On: true, Held: true, Since: 7}, {On: true, Held: true}, {On: true, Since: least}} {
		for _, in := range bools {
			for _, now := range times() {
				for _, delay := range times() {
					wantStep(t, g, now, in, false, delay, g)
					wantStep(t, g, now, in, true, delay, gate.Gate{})
				}
			}
		}
	}
}

// One that isn't On is all 0 where in isn't so, whatever else it was.
func TestNotIn(t *testing.T) {
	for _, g := range []gate.Gate{{}, held(0), held(7), held(-3), held(last), {Since: 9}, {Since: least}} {
		for _, out := range bools {
			for _, now := range times() {
				for _, delay := range times() {
					wantStep(t, g, now, false, out, delay, gate.Gate{})
				}
			}
		}
	}
}

// A Since counts only where the gate is Held.
func TestNotHeld(t *testing.T) {
	for _, since := range []int64{0, 1, 20, 30, -5, least, last} {
		wantStep(t, gate.Gate{Since: since}, 20, true, false, 5, held(20))
		wantStep(t, gate.Gate{Since: since}, 20, true, true, 1, held(20))
		wantStep(t, gate.Gate{Since: since}, 20, true, false, 0, on())
	}
}

func TestDelayOfNought(t *testing.T) {
	for _, now := range times() {
		for _, out := range bools {
			wantStep(t, gate.Gate{}, now, true, out, 0, on())
			wantStep(t, held(3), now, true, out, 0, on())
			wantStep(t, gate.Gate{}, now, true, out, 1, held(now))
		}
	}
	walk(t, 0,
		step{4, true, false, on()},
		step{4, false, false, on()},
		step{5, false, true, gate.Gate{}},
		step{5, true, true, on()},
		step{6, true, true, gate.Gate{}},
		step{7, true, true, on()},
	)
}

// A delay below 0 is over at once, also where the time is earlier than Since.
func TestDelayBelowNought(t *testing.T) {
	for _, delay := range []int64{-1, -2, -most, least + 1, least} {
		wantStep(t, gate.Gate{}, 0, true, false, delay, on())
		wantStep(t, gate.Gate{}, 5, true, true, delay, on())
		wantStep(t, held(9), 5, true, false, delay, on())
		wantStep(t, held(9), 5, false, false, delay, gate.Gate{})
	}
}

// One tick short of it, just reached, and one tick more.
func TestDelayReached(t *testing.T) {
	for _, delay := range []int64{1, 2, 3, 10, api.MaxSpan - 1, api.MaxSpan, api.MaxSpan + 1, most - 1, most} {
		for _, since := range []int64{0, 1, 77, -1, -most, most, most + 5} {
			wantStep(t, held(since), since, true, false, delay, held(since))
			wantStep(t, held(since), since+delay-1, true, false, delay, held(since))
			wantStep(t, held(since), since+delay, true, false, delay, on())
			wantStep(t, held(since), since+delay+1, true, false, delay, on())
		}
	}
}

// Nothing is a delay of more than MaxTick or more long: so long is no Since.
func TestDelayBeyondMaxTick(t *testing.T) {
	for _, since := range []int64{0, 5, least, -most} {
		for _, now := range []int64{most, most + 6, 2 * most, last} {
			wantStep(t, held(since), now, true, false, most+1, held(since))
			wantStep(t, held(since), now, true, false, last, held(since))
		}
	}
}

// At a time that is earlier than Since no tick has gone by, and Since stays.
func TestEarlierThanSince(t *testing.T) {
	for _, now := range []int64{8, 1, 0, -1, -most, least} {
		wantStep(t, held(9), now, true, false, 1, held(9))
		wantStep(t, held(9), now, true, true, last, held(9))
		wantStep(t, held(9), now, true, false, 0, on())
		wantStep(t, held(last), now, true, false, 1, held(last))
		wantStep(t, held(9), now, false, false, 1, gate.Gate{})
	}
	walk(t, 2, step{9, true, false, held(9)}, step{4, true, false, held(9)}, step{10, true, false, held(9)}, step{11, true, false, on()})
}

// A time is kept as it was told, also below 0 and beyond MaxTick.
func TestTimesBeyond(t *testing.T) {
	for _, now := range times() {
		wantStep(t, gate.Gate{}, now, true, false, 3, held(now))
	}
	wantStep(t, held(most), most+2, true, false, 3, held(most))
	wantStep(t, held(most), most+3, true, false, 3, on())
	wantStep(t, held(least), last, true, false, most, on()) // 64 bits don't hold how far they are apart
	wantStep(t, held(least), least+2, true, false, 3, held(least))
	wantStep(t, held(least), least+3, true, false, 3, on())
	wantStep(t, held(last), least, true, false, 3, held(last))
	wantStep(t, held(last-3), last, true, false, 3, on())
	wantStep(t, held(last-2), last, true, false, 3, held(last-2))
	wantStep(t, held(-2), 1, true, false, 3, on())
	wantStep(t, held(-2), 0, true, false, 3, held(-2))
}

// What is stepped stays: the answer is another gate.
func TestGateStays(t *testing.T) {
	for _, was := range []gate.Gate{{}, held(4), on(), {On: true, Held: true, Since: 4}} {
		for _, in := range bools {
			for _, out := range bools {
				g := was
				g.Step(9, in, out, 2)
				if g != was {
					t.Errorf("%v, was %v", g, was)
				}
			}
		}
	}
}

// times are those about which the bounds of ticks and of 64 bits lie.
func times() []int64 {
	return []int64{least, least + 1, -most - 1, -most, -1, 0, 1, 2, 7, 20, most - 1, most, most + 1, last - 1, last}
}
