package trend_test

import (
	"math/rand"
	"reflect"
	"testing"

	"handbell/api"
	"handbell/cell"
	"handbell/trend"
)

// modelChange: of all values that ever came, in the order in which they came.
func modelChange(all []kept, now, span int64) (int, bool) {
	from := min(max(now-span, 0), most)
	for _, v := range all[max(len(all)-api.MaxKeep, 0):] {
		if v.at >= from {
			return all[len(all)-1].value - v.value, true
		}
	}
	return 0, false
}

func wantModel(t *testing.T, s *cell.Store, signal int, all []kept, now, span int64) {
	t.Helper()
	if d, ok := modelChange(all, now, span); ok {
		wantChange(t, s, signal, now, span, d)
	} else {
		wantNone(t, s, signal, now, span)
	}
}

// Spans of every length, at each time.
func TestEverySpan(t *testing.T) {
	all := []kept{{0, 10}, {3, 12}, {3, 9}, {4, 20}, {9, 5}, {10, 5}, {17, 31}, {17, 30}, {17, 2}, {21, 8}}
	s := cell.New(2)
	came := 0
	for now := range int64(30) {
		for came < len(all) && all[came].at <= now {
			put(t, s, all[came].at, api.Sample{Signal: 1, Value: all[came].value})
			came++
		}
		for span := int64(-5); span < 40; span++ {
			wantModel(t, s, 1, all[:came], now, span)
		}
	}
}

func TestAgainstModel(t *testing.T) {
	draw := rand.New(rand.NewSource(12))
	for range 100 {
		s := cell.New(2)
		all := make([][]kept, 2)
		now := int64(draw.Intn(20))
		for range 60 {
			if draw.Intn(3) > 0 { // times rise, or stay
				now += int64(draw.Intn(6))
			}
			x := api.Sample{Signal: draw.Intn(2), Value: draw.Intn(400) - 200, Bad: draw.Intn(5) == 0}
			put(t, s, now, x)
			if !x.Bad {
				all[x.Signal] = append(all[x.Signal], kept{now, x.Value})
			}
			later := now + int64(draw.Intn(10))
			for signal := range 2 {
				for span := range later + 3 {
					wantModel(t, s, signal, all[signal], later, span)
				}
			}
			if t.Failed() {
				return
			}
		}
	}
}

// known is all that a store tells.
type known struct {
	value, kept int
	at, quiet   int64
	ok, bad     bool
	oldest      []int
}

func ask(s *cell.Store) []known {
	var all []known
	for signal := range api.MaxSignals {
		k := known{kept: s.Kept(signal), quiet: s.Quiet(signal, 100), bad: s.Bad(signal)}
		k.value, k.at, k.ok = s.Value(signal)
		for from := range int64(60) {
			v, ok := s.Oldest(signal, from)
			if !ok {
				v = -1000
			}
			k.oldest = append(k.oldest, v)
		}
		all = append(all, k)
	}
	return all
}

func TestStoreStays(t *testing.T) {
	s := cell.New(4)
	for i := range 50 {
		put(t, s, int64(i), api.Sample{Signal: i % 3, Value: i * i % 41, Bad: i%7 == 0})
		was := ask(s)
		for signal := -1; signal <= api.MaxSignals; signal++ {
			for _, now := range times() {
				for _, span := range times() {
					trend.Change(s, signal, now, span)
				}
			}
			wantSame(t, s, signal, int64(i), 10)
		}
		if is := ask(s); !reflect.DeepEqual(is, was) {
			t.Fatalf("behind %d: %v, was %v", i, is, was)
		}
	}
}

// wantSame: asked anew, it answers the same.
func wantSame(t *testing.T, s *cell.Store, signal int, now, span int64) {
	t.Helper()
	a, ok := trend.Change(s, signal, now, span)
	b, too := trend.Change(s, signal, now, span)
	if a != b || ok != too {
		t.Errorf("Change of %d at %d within %d: %d, %t, then %d, %t", signal, now, span, a, ok, b, too)
	}
}
