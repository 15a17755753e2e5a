package task_test

import (
	"reflect"
	"testing"

	"handbell/api"
	"handbell/cell"
	"handbell/gate"
	"handbell/task"
)

func held(since int64) gate.Gate { return gate.Gate{Held: true, Since: since} }

func on() gate.Gate { return gate.Gate{On: true} }

func off() gate.Gate { return gate.Gate{} }

// late is a rule with a delay.
func late(r api.Rule, delay int64) api.Rule {
	r.Delay = delay
	return r
}

func wantGate(t *testing.T, k *task.Task, want gate.Gate) {
	t.Helper()
	if g := k.Gate(); g != want {
		t.Errorf("Gate: %v, want %v", g, want)
	}
	if is := k.On(); is != want.On {
		t.Errorf("On: %t, want %t", is, want.On)
	}
}

func wantRun(t *testing.T, k *task.Task, s *cell.Store, now int64, want gate.Gate) {
	t.Helper()
	if is := k.Run(now, s); is != want.On {
		t.Errorf("Run at %d: %t, want %t", now, is, want.On)
	}
	wantGate(t, k, want)
}

// look is a tick at which a task is looked at: what came ahead of that, and what it is then.
type look struct {
	now  int64
	came []came
	want gate.Gate
}

func walk(t *testing.T, r api.Rule, looks ...look) {
	t.Helper()
	k, s := task.New(r), cell.New(3)
	wantGate(t, k, off())
	for _, l := range looks {
		fill(t, s, l.came...)
		wantRun(t, k, s, l.now, l.want)
		if t.Failed() {
			t.Fatalf("%v, looked at at %d", r, l.now)
		}
	}
}

// then is what came ahead of a look.
func then(all ...came) []came { return all }

func TestExample(t *testing.T) {
	walk(t, badness(), look{1, then(bad(1, 7)), on()}, look{2, then(good(2, 7)), off()})
}

func TestNew(t *testing.T) {
	for _, r := range []api.Rule{{}, above(), late(below(), 3), rise(2), fall(2), quiet(0), badness()} {
		k := task.New(r)
		if k == nil {
			t.Fatalf("New of %v is nil", r)
		}
		wantGate(t, k, off())
	}
}

// A delay of 0, one just reached, and one tick short of it.
func TestDelay(t *testing.T) {
	walk(t, above(), look{4, then(good(4, 121)), on()})
	walk(t, late(above(), 5), look{4, then(good(4, 121)), held(4)}, look{8, nil, held(4)}, look{9, nil, on()})
	walk(t, late(above(), 5), look{4, then(good(4, 121)), held(4)}, look{10, nil, on()})
	walk(t, late(quiet(3), 1), look{2, nil, off()}, look{3, nil, held(3)}, look{4, nil, on()})
	walk(t, late(badness(), api.MaxSpan),
		look{0, then(bad(0, 1)), held(0)},
		look{api.MaxSpan - 1, nil, held(0)},
		look{api.MaxSpan, nil, on()},
	)
	walk(t, late(above(), most+1), look{0, then(good(0, 121)), held(0)}, look{last, nil, held(0)})
	walk(t, late(above(), -1), look{0, then(good(0, 121)), on()})
}

// The delay counts from the look at which it is so, not from the sample's time.
func TestDelayFromLook(t *testing.T) {
	walk(t, late(above(), 5),
		look{3, then(good(1, 121)), held(3)},
		look{7, then(good(5, 130), other(6, 0)), held(3)},
		look{8, nil, on()},
	)
}

func TestDelayBeginsAnew(t *testing.T) {
	walk(t, late(below(), 4),
		look{1, then(good(1, 49)), held(1)},
		look{3, then(good(3, 50)), off()}, // neither in nor out: it doesn't last
		look{5, then(good(5, 10)), held(5)},
		look{7, then(good(7, 70)), off()},
		look{9, then(good(9, 49)), held(9)},
		look{11, then(bad(11, 49)), off()},
		look{12, then(good(12, 49)), held(12)},
		look{15, nil, held(12)},
		look{16, nil, on()},
	)
}

// A task that is On stays so while what it observes is neither in nor out.
func TestBetween(t *testing.T) {
	walk(t, late(above(), 2),
		look{1, then(good(1, 121)), held(1)},
		look{3, nil, on()},
		look{4, then(good(4, 120)), on()},
		look{5, then(good(5, 111)), on()},
		look{6, then(bad(6, 0)), on()},
		look{7, then(good(7, 121)), on()},
		look{8, then(good(8, 110)), off()},
		look{9, then(good(9, 111)), off()},
		look{10, then(good(10, 120)), off()},
		look{11, then(good(11, 121)), held(11)},
	)
	walk(t, below(),
		look{1, then(good(1, 49)), on()},
		look{2, then(good(2, 50)), on()},
		look{3, then(good(3, 59)), on()},
		look{4, then(bad(4, 99)), on()},
		look{5, then(good(5, 60)), off()},
		look{6, then(good(6, 50)), off()},
	)
	walk(t, rise(2),
		look{2, then(good(1, 80), good(2, 100)), on()},
		look{3, then(good(3, 85)), on()},             // 5: not below Back
		look{4, then(good(4, 105)), on()},            // 5 again
		look{5, then(good(5, 104), bad(5, 0)), on()}, // 19
		look{7, nil, off()},                          // 0
		look{8, nil, off()},                          // none
	)
	walk(t, fall(2),
		look{2, then(good(1, 100), good(2, 80)), on()},
		look{3, then(good(3, 95)), on()},
		look{4, then(good(4, 76)), off()}, // -4
		look{5, then(good(5, 76)), off()}, // -19
		look{6, then(good(6, 56)), on()},  // -20
		look{9, nil, off()},               // none
	)
}

func TestQuietAndBack(t *testing.T) {
	walk(t, quiet(5),
		look{4, nil, off()},
		look{5, nil, on()},
		look{6, then(other(6, 1)), on()},
		look{7, then(good(7, 1)), off()},
		look{11, nil, off()},
		look{12, nil, on()},
		look{12, then(bad(12, 1)), off()},
		look{16, nil, off()},
		look{18, then(bad(17, 1)), off()},
		look{22, nil, on()},
	)
}

// What comes and goes between two looks isn't seen.
func TestBetweenLooks(t *testing.T) {
	walk(t, above(), look{3, then(good(1, 80), good(2, 300), good(3, 115)), off()}, look{9, then(bad(7, 1), good(8, 121), bad(9, 1)), off()})
	walk(t, badness(), look{3, then(bad(3, 1), good(3, 1)), off()}, look{6, then(good(4, 1), bad(5, 1), other(6, 1)), on()})
	walk(t, late(above(), 4),
		look{1, then(good(1, 121)), held(1)},
		look{5, then(good(2, 80), good(5, 121)), on()},
		look{9, then(good(7, 80), good(9, 115)), on()},
	)
}

func TestTwoLooksAtOneTick(t *testing.T) {
	walk(t, late(above(), 1),
		look{5, then(good(5, 121)), held(5)},
		look{5, nil, held(5)}, // no tick has gone by
		look{6, nil, on()},
		look{6, nil, on()},
	)
	walk(t, badness(),
		look{5, then(bad(5, 1)), on()},
		look{5, nil, on()},
		look{5, then(good(5, 1)), off()},
		look{5, nil, off()},
		look{5, then(bad(5, 1)), on()},
	)
	walk(t, late(badness(), 2),
		look{5, then(bad(5, 1)), held(5)},
		look{5, then(good(5, 1)), off()},
		look{5, then(bad(5, 1)), held(5)},
		look{7, nil, on()},
	)
}

// Times are what they are told to be, also beyond what a tick may be.
func TestTimesBeyond(t *testing.T) {
	walk(t, late(quiet(0), 3), look{least, nil, held(least)}, look{least + 2, nil, held(least)}, look{least + 3, nil, on()})
	walk(t, late(quiet(most), 3), look{most - 1, nil, off()}, look{most, nil, held(most)}, look{last, nil, on()})
	walk(t, late(quiet(1), 3), look{9, nil, held(9)}, look{4, nil, held(9)}, look{-4, nil, off()}, look{1, nil, held(1)})
}

// To ask is not to look.
func TestAsked(t *testing.T) {
	k, s := task.New(late(quiet(2), 2)), store(t)
	wantRun(t, k, s, 2, held(2))
	fill(t, s, good(3, 1))
	for range 5 {
		wantGate(t, k, held(2))
		wantObserve(t, quiet(2), s, 3, false, true)
	}
	wantRun(t, k, s, 3, off())
}

func TestGateMayBeWrittenOver(t *testing.T) {
	k, s := task.New(late(badness(), 3)), store(t, bad(1, 5))
	wantRun(t, k, s, 1, held(1))
	for _, over := range []gate.Gate{{}, on(), held(-90), {On: true, Held: true, Since: 9}} {
		g := k.Gate()
		g.On, g.Held, g.Since = over.On, over.Held, over.Since
		wantGate(t, k, held(1))
	}
	wantRun(t, k, s, 3, held(1))
	g := k.Gate()
	g.Step(90, true, false, 3)
	wantRun(t, k, s, 4, on())
	g = k.Gate()
	g.On = false
	wantRun(t, k, s, 5, on())
}

// Two tasks of one rule are each its own, and a task keeps to no store.
func TestTasksAreApart(t *testing.T) {
	r := late(above(), 2)
	a, b := task.New(r), task.New(r)
	high, low := store(t, good(0, 200)), store(t, good(0, 10))
	wantRun(t, a, high, 1, held(1))
	wantRun(t, b, low, 1, off())
	wantRun(t, a, high, 3, on())
	wantRun(t, b, high, 3, held(3))
	wantRun(t, a, low, 4, off())
	wantGate(t, b, held(3))
	wantRun(t, b, high, 5, on())
	wantGate(t, a, off())
}

// A rule that is handed in stays as it is, and what becomes of its variable says nothing to the task.
func TestRuleStays(t *testing.T) {
	full := func(kind byte) api.Rule {
		return api.Rule{
			Kind: kind, Signal: 1, Limit: 20, Back: 5, Delay: 2, Span: 4, Priority: api.Medium, Latch: true,
			Stages: []api.Stage{{Wait: 4, Priority: api.Medium}, {Wait: 9, Priority: api.High}},
		}
	}
	for kind := range 256 {
		r := full(byte(kind))
		k, s := task.New(r), cell.New(2)
		for i := range int64(30) {
			fill(t, s, came{i, api.Sample{Signal: 1, Value: int(i*i) % 50, Bad: i%9 == 8}})
			k.Run(i, s)
			k.On()
			k.Gate()
			task.Observe(r, s, i)
		}
		if !reflect.DeepEqual(r, full(byte(kind))) {
			t.Errorf("%v, was %v", r, full(byte(kind)))
		}
	}
	r := late(above(), 2)
	k, s := task.New(r), store(t, good(1, 121))
	r.Kind, r.Signal, r.Limit, r.Back, r.Delay = api.Below, 0, 0, 0, 0
	wantRun(t, k, s, 1, held(1))
	wantRun(t, k, s, 3, on())
	fill(t, s, good(4, 110))
	wantRun(t, k, s, 4, off())
}

// A store that is looked at is just as one that isn't.
func TestStoreStays(t *testing.T) {
	rules := []api.Rule{{}, above(), below(), rise(6), fall(6), quiet(3), badness()}
	s, twin := cell.New(3), cell.New(3)
	for i := range int64(60) {
		x := came{i, api.Sample{Signal: int(i % 3), Value: int(i * i % 41), Bad: i%7 == 0}}
		fill(t, s, x)
		fill(t, twin, x)
		for _, r := range rules {
			for signal := -1; signal <= 3; signal++ {
				r.Signal = signal
				k := task.New(r)
				for _, now := range times() {
					k.Run(now, s)
					task.Observe(r, s, now)
				}
			}
		}
		if !reflect.DeepEqual(s, twin) {
			t.Fatalf("behind %d: %v, want %v", i, s, twin)
		}
	}
}
