package life_test

import (
	"fmt"
	"math"
	"testing"

	"handbell/api"
	"handbell/life"
)

const (
	most  = int64(api.MaxTick)
	last  = int64(math.MaxInt64)
	least = int64(math.MinInt64)
)

var bools = []bool{false, true}

// times are those about which the bounds of ticks and of 64 bits lie.
func times() []int64 {
	return []int64{least, least + 1, -most - 1, -most, -1, 0, 1, 7, 20, most - 1, most, most + 1, last - 1, last}
}

// of is a life of these letters: O of On, L of Lit, A of Acked, each in its place, or a dash.
func of(letters string, since int64, stage int) life.Life {
	return life.Life{On: letters[0] == 'O', Lit: letters[1] == 'L', Acked: letters[2] == 'A', Since: since, Stage: stage}
}

// none is a life that is all 0.
func none() life.Life { return life.Life{} }

// deed is what is done to a life.
type deed struct {
	name string
	do   func(l life.Life) life.Life
}

func comes(now int64, latch bool) deed {
	name := fmt.Sprintf("its cause comes at %d, latch %t", now, latch)
	return deed{name, func(l life.Life) life.Life { return l.Event(now, true, latch) }}
}

func goes(now int64, latch bool) deed {
	name := fmt.Sprintf("its cause goes at %d, latch %t", now, latch)
	return deed{name, func(l life.Life) life.Life { return l.Event(now, false, latch) }}
}

func ack() deed { return deed{"Ack", life.Life.Ack} }

func reset() deed { return deed{"Reset", life.Life.Reset} }

// grows sets the Stage, as the layer above does.
func grows(stage int) deed {
	return deed{fmt.Sprintf("its Stage is %d", stage), func(l life.Life) life.Life { l.Stage = stage; return l }}
}

func wantDeed(t *testing.T, l life.Life, d deed, want life.Life) {
	t.Helper()
	if got := d.do(l); got != want {
		t.Errorf("%+v, %s: %+v, want %+v", l, d.name, got, want)
	}
}

func wantLoud(t *testing.T, l life.Life, want bool) {
	t.Helper()
	if got := l.Loud(); got != want {
		t.Errorf("%+v: Loud %t, want %t", l, got, want)
	}
}

// step is what is done to a life, what it is then, and whether that is Loud.
type step struct {
	deed
	want life.Life
	loud bool
}

// walk does all that to a life that is all 0 at first.
func walk(t *testing.T, steps ...step) {
	t.Helper()
	l := none()
	for i, x := range steps {
		wantDeed(t, l, x.deed, x.want)
		wantLoud(t, x.want, x.loud)
		if l = x.do(l); t.Failed() {
			t.Fatalf("at the step %d", i)
		}
	}
}

func TestExample(t *testing.T) {
	walk(t,
		step{comes(4, true), of("OL-", 4, 0), true},
		step{ack(), of("OLA", 4, 0), false},
		step{goes(9, true), of("-LA", 4, 0), false},
		step{reset(), none(), false},
	)
}

func TestNewLife(t *testing.T) {
	wantLoud(t, none(), false)
	wantDeed(t, none(), ack(), none())
	wantDeed(t, none(), reset(), none())
	for _, now := range times() {
		for _, latch := range bools {
			wantDeed(t, none(), goes(now, latch), none())
			wantDeed(t, none(), comes(now, latch), of("OL-", now, 0))
		}
	}
}

func TestWithLatch(t *testing.T) {
	walk(t,
		step{goes(1, true), none(), false},
		step{comes(2, true), of("OL-", 2, 0), true},
		step{comes(3, true), of("OL-", 2, 0), true}, // it is there already
		step{reset(), of("OL-", 2, 0), true},        // and stays
		step{goes(5, true), of("-L-", 2, 0), true},  // latched, and still Loud
		step{goes(6, true), of("-L-", 2, 0), true},
		step{ack(), of("-LA", 2, 0), false},
		step{goes(7, true), of("-LA", 2, 0), false},
		step{reset(), none(), false},
		step{reset(), none(), false},
		step{ack(), none(), false}, // nothing is Lit any more
		step{comes(8, true), of("OL-", 8, 0), true},
	)
}

func TestWithoutLatch(t *testing.T) {
	walk(t,
		step{goes(1, false), none(), false},
		step{comes(2, false), of("OL-", 2, 0), true},
		step{comes(3, false), of("OL-", 2, 0), true},
		step{goes(4, false), none(), false}, // Loud or not
		step{reset(), none(), false},
		step{comes(5, false), of("OL-", 5, 0), true},
		step{ack(), of("OLA", 5, 0), false},
		step{comes(6, false), of("OLA", 5, 0), false},
		step{goes(7, false), none(), false},
		step{goes(8, false), none(), false},
		step{comes(9, false), of("OL-", 9, 0), true},
	)
}

// A cause that comes again begins anew, whatever is Lit behind the one before.
func TestComesToWhatIsLit(t *testing.T) {
	for _, latch := range bools {
		walk(t,
			step{comes(2, true), of("OL-", 2, 0), true},
			step{goes(3, true), of("-L-", 2, 0), true},
			step{comes(4, latch), of("OL-", 4, 0), true},
			step{ack(), of("OLA", 4, 0), false},
			step{goes(5, true), of("-LA", 4, 0), false},
			step{comes(6, latch), of("OL-", 6, 0), true},
			step{grows(3), of("OL-", 6, 3), true},
			step{goes(7, true), of("-L-", 6, 3), true},
			step{comes(8, latch), of("OL-", 8, 0), true},
			step{grows(2), of("OL-", 8, 2), true},
			step{ack(), of("OLA", 8, 2), false},
			step{goes(9, true), of("-LA", 8, 2), false},
			step{comes(9, latch), of("OL-", 9, 0), true}, // at the very tick
		)
	}
}

// Latch is asked as the cause goes, not as it comes.
func TestLatchAsItGoes(t *testing.T) {
	walk(t,
		step{comes(1, true), of("OL-", 1, 0), true},
		step{goes(2, false), none(), false},
		step{comes(3, false), of("OL-", 3, 0), true},
		step{goes(4, true), of("-L-", 3, 0), true},
		step{goes(5, false), of("-L-", 3, 0), true}, // it is gone already
		step{reset(), none(), false},
	)
}

func TestAckTwice(t *testing.T) {
	walk(t,
		step{ack(), none(), false},
		step{ack(), none(), false},
		step{comes(3, true), of("OL-", 3, 0), true}, // what was acknowledged ahead of it says nothing
		step{grows(1), of("OL-", 3, 1), true},
		step{ack(), of("OLA", 3, 1), false},
		step{ack(), of("OLA", 3, 1), false},
		step{goes(6, true), of("-LA", 3, 1), false},
		step{ack(), of("-LA", 3, 1), false},
	)
}

func TestResetTwice(t *testing.T) {
	walk(t,
		step{reset(), none(), false},
		step{comes(3, true), of("OL-", 3, 0), true}, // nor does what was reset
		step{reset(), of("OL-", 3, 0), true},
		step{reset(), of("OL-", 3, 0), true},
		step{ack(), of("OLA", 3, 0), false},
		step{reset(), of("OLA", 3, 0), false},
		step{goes(4, true), of("-LA", 3, 0), false}, // a Reset ahead of that isn't kept
		step{reset(), none(), false},
		step{reset(), none(), false},
	)
}

// A Stage stays with all that was, and goes with it.
func TestStage(t *testing.T) {
	for _, stage := range stages() {
		for _, latch := range bools {
			wantDeed(t, of("OL-", 3, stage), comes(9, latch), of("OL-", 3, stage))
			wantDeed(t, of("OLA", 3, stage), comes(9, latch), of("OLA", 3, stage))
			wantDeed(t, of("-L-", 3, stage), comes(9, latch), of("OL-", 9, 0))
			wantDeed(t, of("-LA", 3, stage), comes(9, latch), of("OL-", 9, 0))
			wantDeed(t, of("-L-", 3, stage), goes(9, latch), of("-L-", 3, stage))
			wantDeed(t, of("-LA", 3, stage), goes(9, latch), of("-LA", 3, stage))
		}
		wantDeed(t, of("OL-", 3, stage), goes(9, true), of("-L-", 3, stage))
		wantDeed(t, of("OLA", 3, stage), goes(9, true), of("-LA", 3, stage))
		wantDeed(t, of("OL-", 3, stage), goes(9, false), none())
		wantDeed(t, of("OLA", 3, stage), goes(9, false), none())
		wantDeed(t, of("OL-", 3, stage), ack(), of("OLA", 3, stage))
		wantDeed(t, of("-L-", 3, stage), ack(), of("-LA", 3, stage))
		wantDeed(t, of("OL-", 3, stage), reset(), of("OL-", 3, stage))
		wantDeed(t, of("OLA", 3, stage), reset(), of("OLA", 3, stage))
		wantDeed(t, of("-L-", 3, stage), reset(), none())
		wantDeed(t, of("-LA", 3, stage), reset(), none())
	}
}

// A time is kept as it was told, also below 0 and beyond MaxTick.
func TestTimes(t *testing.T) {
	for _, now := range times() {
		walk(t,
			step{comes(now, true), of("OL-", now, 0), true},
			step{comes(5, true), of("OL-", now, 0), true},
			step{ack(), of("OLA", now, 0), false},
			step{goes(6, true), of("-LA", now, 0), false},
			step{comes(now, true), of("OL-", now, 0), true},
			step{goes(now, true), of("-L-", now, 0), true},
			step{reset(), none(), false},
			step{comes(now, false), of("OL-", now, 0), true},
			step{goes(now, false), none(), false},
		)
		// Also where it is earlier than the one before.
		wantDeed(t, of("-LA", 8, 1), comes(now, false), of("OL-", now, 0))
		wantDeed(t, of("OL-", 8, 1), comes(now, false), of("OL-", 8, 1))
	}
}

// A life that is asked stays: the answer is another one.
func TestLifeStays(t *testing.T) {
	for _, letters := range everyLetters() {
		for _, stage := range stages() {
			l := of(letters, 8, stage)
			asked := &l
			for _, on := range bools {
				for _, latch := range bools {
					asked.Event(9, on, latch)
				}
			}
			asked.Ack()
			asked.Reset()
			asked.Loud()
			if l != of(letters, 8, stage) {
				t.Errorf("%+v, was %+v", l, of(letters, 8, stage))
			}
		}
	}
}

// What was answered may be written over: an answer hangs on nothing that was asked before.
func TestAnswersAreTheirOwn(t *testing.T) {
	for range 2 {
		l := of("OL-", 4, 1)
		acked := l.Ack()
		acked.On, acked.Lit, acked.Since, acked.Stage = false, false, 99, 99
		wantDeed(t, l, ack(), of("OLA", 4, 1))
		left := l.Event(9, false, true)
		left.Acked, left.Since = true, 50
		wantDeed(t, l, goes(9, true), of("-L-", 4, 1))
		wantDeed(t, l, reset(), of("OL-", 4, 1))
	}
}
