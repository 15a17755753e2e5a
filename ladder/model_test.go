package ladder_test

import (
	"math/rand"
	"testing"

	"handbell/api"
	"handbell/ladder"
	"handbell/life"
)

// counted: the stages that are reached behind d ticks, counted tick by tick:
// each wait begins when the one before is over.
func counted(stages []api.Stage, d int64) int {
	reached, waited := 0, int64(0)
	for range d {
		if reached == len(stages) {
			break
		}
		waited++
		if waited == stages[reached].Wait {
			reached, waited = reached+1, 0
		}
	}
	return reached
}

// drawRule is one that keeps layer 7's 9 and 10, of short waits or, at times, of any.
func drawRule(draw *rand.Rand) api.Rule {
	r := rule(byte(api.Low + draw.Intn(3)))
	priority := r.Priority
	for range draw.Intn(api.MaxStages + 1) {
		wait := int64(1 + draw.Intn(12))
		if draw.Intn(20) == 0 {
			wait = int64(1 + draw.Intn(api.MaxWait))
		}
		priority += byte(draw.Intn(api.High - int(priority) + 1))
		r.Stages = append(r.Stages, stage(wait, priority))
	}
	return r
}

// Behind each number of ticks.
func TestReachedTickByTick(t *testing.T) {
	draw := rand.New(rand.NewSource(16))
	for range 500 {
		r := drawRule(draw)
		if !isRight(r) {
			t.Fatalf("%+v isn't right", r)
		}
		for d := int64(-2); d < 60; d++ {
			wantReached(t, r.Stages, d, counted(r.Stages, d))
		}
	}
}

// Sum is the first tick at which so many are reached.
func TestSumIsWhereItIsReached(t *testing.T) {
	draw := rand.New(rand.NewSource(17))
	for range 200 {
		stages := drawRule(draw).Stages
		for k := 1; k <= len(stages); k++ {
			sum := ladder.Sum(stages, k)
			if at, ahead := counted(stages, sum), counted(stages, sum-1); at != k || ahead != k-1 {
				t.Errorf("%v: Sum of %d is %d: %d are reached there, and %d ahead of it", stages, k, sum, at, ahead)
			}
		}
	}
}

// plain is a condition that is counted tick by tick.
type plain struct {
	on, lit, acked bool
	ticks          int64 // since its cause came
	stage          int
}

// deed is what is done at a tick.
type deed int

const (
	nothing deed = iota
	comes
	goes
	acks
	resets
)

func (d deed) toPlain(p plain, latch bool) plain {
	switch {
	case d == comes && !p.on:
		return plain{on: true, lit: true}
	case d == goes && p.on && latch:
		p.on = false
	case d == goes && p.on, d == resets && p.lit && !p.on:
		return plain{}
	case d == acks && p.lit:
		p.acked = true
	}
	return p
}

func (d deed) toLife(l life.Life, now int64, latch bool) life.Life {
	switch d {
	case comes, goes:
		return l.Event(now, d == comes, latch)
	case acks:
		return l.Ack()
	case resets:
		return l.Reset()
	}
	return l
}

// climbed: p, counted anew if it is loud.
func (p plain) climbed(stages []api.Stage) plain {
	if p.lit && !p.acked {
		p.stage = counted(stages, p.ticks)
	}
	return p
}

func (p plain) is(l life.Life) bool {
	return p.on == l.On && p.lit == l.Lit && p.acked == l.Acked && p.stage == l.Stage
}

// wantCounted: a life of r that is driven for many ticks climbs as a plain
// count does, where it is asked at one of seldom ticks.
func wantCounted(t *testing.T, draw *rand.Rand, r api.Rule, start int64, seldom int) {
	t.Helper()
	var l life.Life
	var p plain
	latch := draw.Intn(2) == 0
	for now := start; now < start+120; now++ {
		p.ticks++
		d := deed(draw.Intn(30)) // mostly nothing
		l, p = d.toLife(l, now, latch), d.toPlain(p, latch)
		if draw.Intn(seldom) > 0 {
			continue
		}
		was := l
		l, p = ladder.Climb(r, l, now), p.climbed(r.Stages)
		if !p.is(l) || l.Since != was.Since {
			t.Fatalf("%v, %+v at %d: %+v, want %+v", r.Stages, was, now, l, p)
		}
	}
}

func TestLivesTickByTick(t *testing.T) {
	draw := rand.New(rand.NewSource(18))
	for range 300 {
		for _, start := range []int64{0, 1000, -60, most - 60, last - 200, least} {
			wantCounted(t, draw, drawRule(draw), start, 1)
			wantCounted(t, draw, drawRule(draw), start, 5)
		}
	}
}

// While its cause is there, and nobody acknowledges it, what it is told as grows, and never falls.
func TestPriorityNeverFalls(t *testing.T) {
	draw := rand.New(rand.NewSource(19))
	for range 300 {
		r := drawRule(draw)
		l := life.Life{}.Event(5, true, true)
		before := r.Priority
		for now := int64(5); now < 70; now++ {
			l = ladder.Climb(r, l, now)
			priority := ladder.Priority(r, l.Stage)
			if priority < before {
				t.Fatalf("%d and %v at %d: %d, was %d", r.Priority, r.Stages, now, priority, before)
			}
			if k := counted(r.Stages, now-5); k > 0 && priority != r.Stages[k-1].Priority || k == 0 && priority != r.Priority {
				t.Fatalf("%d and %v at %d: %d", r.Priority, r.Stages, now, priority)
			}
			before = priority
		}
	}
}
