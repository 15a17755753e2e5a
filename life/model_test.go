package life_test

import (
	"math/rand"
	"testing"

	"handbell/life"
)

// kind is which deed one is.
type kind int

const (
	on     kind = iota // its cause is there, of one with latch
	onBare             // and of one without
	off                // its cause isn't there, of one with latch
	offBare
	acks
	resets
	rises // by a Stage, as the layer above has it
	kinds
)

// told is what was done at a time.
type told struct {
	kind kind
	now  int64
}

func (x told) isOn() bool { return x.kind == on || x.kind == onBare }

func (x told) isOff() bool { return x.kind == off || x.kind == offBare }

// done to a life.
func (x told) done(l life.Life) life.Life {
	switch x.kind {
	case on, onBare:
		return l.Event(x.now, true, x.kind == on)
	case off, offBare:
		return l.Event(x.now, false, x.kind == off)
	case acks:
		return l.Ack()
	case resets:
		return l.Reset()
	}
	if l.Loud() {
		l.Stage++
	}
	return l
}

// lastCame: the place at which the cause came last, and whether it did.
func lastCame(all []told) (int, bool) {
	place, came, is := 0, false, false
	for i, x := range all {
		if x.isOn() && !is {
			place, came = i, true
		}
		is = x.isOn() || is && !x.isOff()
	}
	return place, came
}

// model: what a life is behind all that was done to it, worked out of the whole
// of it: all that is, is of the cause that came last, till that went without
// latch, or was reset behind it.
func model(all []told) life.Life {
	place, came := lastCame(all)
	if !came {
		return none()
	}
	want := of("OL-", all[place].now, 0)
	for _, x := range all[place+1:] {
		switch {
		case x.kind == offBare && want.On, x.kind == resets && !want.On:
			return none()
		case x.kind == off:
			want.On = false
		case x.kind == acks:
			want.Acked = true
		case x.kind == rises && !want.Acked:
			want.Stage++
		}
	}
	return want
}

// wantModel: a life to which all that is done, one behind the other, is what the model says, at each.
func wantModel(t *testing.T, all []told) {
	t.Helper()
	var l life.Life
	for i, x := range all {
		l = x.done(l)
		want := model(all[:i+1])
		if l != want {
			t.Fatalf("%v: %+v, want %+v", all[:i+1], l, want)
		}
		if loud := want.Lit && !want.Acked; l.Loud() != loud {
			t.Fatalf("%v: Loud %t, want %t", all[:i+1], l.Loud(), loud)
		}
	}
}

// Each sequence of so many deeds.
func TestEverySequence(t *testing.T) {
	const steps = 6
	all := make([]told, steps)
	var fill func(place int)
	fill = func(place int) {
		if place == steps {
			wantModel(t, all)
			return
		}
		for k := range kinds {
			all[place] = told{k, 10 + int64(place)}
			fill(place + 1)
		}
	}
	fill(0)
}

func TestDrawnSequences(t *testing.T) {
	draw := rand.New(rand.NewSource(15))
	for range 500 {
		now := int64(draw.Intn(5))
		all := make([]told, 100)
		for i := range all {
			now += int64(draw.Intn(3)) // times rise, or stay
			all[i] = told{kind(draw.Intn(int(kinds))), now}
		}
		wantModel(t, all)
	}
}

// Of one rule, which has latch or hasn't.
func TestDrawnRules(t *testing.T) {
	draw := rand.New(rand.NewSource(16))
	for _, some := range [][]kind{{on, off, acks, resets, rises}, {onBare, offBare, acks, resets, rises}} {
		for range 500 {
			all := make([]told, 100)
			for i := range all {
				all[i] = told{some[draw.Intn(len(some))], int64(draw.Intn(1000) - 100)}
			}
			wantModel(t, all)
		}
	}
}
