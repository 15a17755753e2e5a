package cell_test

import (
	"math/rand"
	"testing"

	"handbell/api"
	"handbell/cell"
	"handbell/clock"
)

// arrival is a sample, and when it came.
type arrival struct {
	at int64
	x  api.Sample
}

// model is all that ever came: what is known is worked out of it anew each time.
type model struct {
	has int
	all []arrival
}

func (m *model) put(now int64, x api.Sample) bool {
	if x.Signal < 0 || x.Signal >= m.has {
		return false
	}
	m.all = append(m.all, arrival{now, x})
	return true
}

// came: all that came of a signal, Bad ones, too.
func (m *model) came(signal int) []arrival {
	var came []arrival
	for _, a := range m.all {
		if a.x.Signal == signal {
			came = append(came, a)
		}
	}
	return came
}

// kept: the last ones that weren't Bad, the oldest first.
func (m *model) kept(signal int) []arrival {
	var kept []arrival
	for _, a := range m.came(signal) {
		if !a.x.Bad {
			kept = append(kept, a)
		}
	}
	return kept[max(len(kept)-api.MaxKeep, 0):]
}

// wantModel asks all that can be asked of a signal, at all the times about which something may change.
func wantModel(t *testing.T, s *cell.Store, m *model, signal int) {
	t.Helper()
	came, kept := m.came(signal), m.kept(signal)
	wantKept(t, s, signal, len(kept))
	times := []int64{least, -most, -1, 0, 1, most, most + 1, last}
	lastCame := int64(0)
	if len(came) == 0 {
		wantBad(t, s, signal, false)
	} else {
		newest := came[len(came)-1]
		wantBad(t, s, signal, newest.x.Bad)
		lastCame = newest.at
		times = append(times, lastCame-1, lastCame, lastCame+1, lastCame+most, lastCame+most+1)
	}
	if len(kept) == 0 {
		wantNoValue(t, s, signal)
	} else {
		newest := kept[len(kept)-1]
		wantValue(t, s, signal, newest.x.Value, newest.at)
	}
	for _, a := range kept {
		times = append(times, a.at-1, a.at, a.at+1)
	}
	for _, at := range times {
		wantQuiet(t, s, signal, at, clock.Since(at, lastCame))
		wantModelOldest(t, s, kept, signal, at)
	}
}

func wantModelOldest(t *testing.T, s *cell.Store, kept []arrival, signal int, from int64) {
	t.Helper()
	for _, a := range kept {
		if a.at >= from {
			wantOldest(t, s, signal, from, a.x.Value)
			return
		}
	}
	wantNoOldest(t, s, signal, from)
}

func TestAgainstModel(t *testing.T) {
	draw := rand.New(rand.NewSource(101))
	for range 150 {
		told := draw.Intn(14) - 2
		s, m := cell.New(told), &model{has: min(max(told, 0), api.MaxSignals)}
		now := int64(draw.Intn(40) - 20)
		few := 1 + draw.Intn(12) // often so few signals that their room is full
		for range 200 {
			if draw.Intn(2) == 0 { // times rise, or stay
				now += int64(draw.Intn(5))
			}
			x := api.Sample{
				Signal: draw.Intn(few+2) - 1, Seq: byte(draw.Intn(3)), Value: draw.Intn(2000) - 1000, Bad: draw.Intn(4) == 0,
			}
			if got, want := s.Put(now, x), m.put(now, x); got != want {
				t.Fatalf("Put at %d of %v: %t, want %t", now, x, got, want)
			}
			wantModel(t, s, m, x.Signal)
			wantModel(t, s, m, draw.Intn(few+2)-1) // another one, of which nothing came now
			if t.Failed() {
				return
			}
		}
		for signal := -1; signal <= api.MaxSignals; signal++ {
			wantModel(t, s, m, signal)
		}
	}
}
