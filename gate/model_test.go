package gate_test

import (
	"math/rand"
	"testing"

	"handbell/gate"
)

// told is what a gate was told at a time.
type told struct {
	now     int64
	in, out bool
}

// lastsAt: the place at which the condition has lasted for the delay, of those
// from first on; where in was so all along, but not for so long: the last place
// and false; where it was not: a place beyond all.
func lastsAt(all []told, first int, delay int64) (int, bool) {
	for i := first; i < len(all); i++ {
		if !all[i].in {
			return len(all), false
		}
		if all[i].now-all[first].now >= delay {
			return i, true
		}
	}
	return len(all) - 1, false
}

// goesAt: the first place behind one at which out was so; a place beyond all: none.
func goesAt(all []told, behind int) int {
	for i := behind + 1; i < len(all); i++ {
		if all[i].out {
			return i
		}
	}
	return len(all)
}

// model: what a gate is behind all that it was told, worked out of the whole of it.
func model(all []told, delay int64) gate.Gate {
	first := 0
	for first < len(all) {
		i, lasts := lastsAt(all, first, delay)
		switch {
		case lasts:
			gone := goesAt(all, i)
			if gone == len(all) {
				return on()
			}
			first = gone + 1
		case i < len(all):
			return held(all[first].now)
		default: // a condition begins behind the next one that isn't in
			for all[first].in {
				first++
			}
			first++
		}
	}
	return gate.Gate{}
}

// Each sequence of so many pairs, at each delay that may be reached in it.
func TestEverySequence(t *testing.T) {
	const steps = 6
	for delay := int64(0); delay <= steps; delay++ {
		for n := range 1 << (2 * steps) {
			var g gate.Gate
			var all []told
			for i := range steps {
				x := told{10 + int64(i), n>>(2*i)&1 == 1, n>>(2*i+1)&1 == 1}
				all = append(all, x)
				if g = g.Step(x.now, x.in, x.out, delay); g != model(all, delay) {
					t.Fatalf("delay %d, %v: %v, want %v", delay, all, g, model(all, delay))
				}
			}
		}
	}
}

func TestAgainstModel(t *testing.T) {
	draw := rand.New(rand.NewSource(11))
	for range 400 {
		delay := int64(draw.Intn(12) - 1)
		often := 2 + draw.Intn(6) // how seldom in isn't so
		now := int64(draw.Intn(10))
		var g gate.Gate
		var all []told
		for range 120 {
			now += int64(draw.Intn(4)) // times rise, or stay
			x := told{now, draw.Intn(often) > 0, draw.Intn(5) == 0}
			all = append(all, x)
			if g = g.Step(x.now, x.in, x.out, delay); g != model(all, delay) {
				t.Fatalf("delay %d, %v: %v, want %v", delay, all, g, model(all, delay))
			}
		}
	}
}
