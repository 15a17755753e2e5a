package cell_test

import (
	"math"
	"testing"

	"handbell/api"
	"handbell/cell"
)

// sizes are how many signals a store is told, and how many it has.
var sizes = []struct{ told, has int }{
	{math.MinInt, 0}, {math.MinInt32, 0}, {-9, 0}, {-1, 0}, {0, 0}, {1, 1}, {2, 2}, {3, 3}, {4, 4}, {5, 5}, {6, 6}, {7, 7}, {8, 8},
	{9, 8}, {10, 8}, {255, 8}, {256, 8}, {257, 8}, {1 << 32, 8}, {math.MaxInt, 8},
}

// others are numbers that are no signals, whatever a store was told.
var others = []int{
	math.MinInt, math.MinInt + 1, -1 << 32, math.MinInt32, -257, -256, -255, -8, -2, -1,
	8, 9, 10, 255, 256, 257, 1<<31 - 1, 1 << 32, 1<<32 + 1, math.MaxInt - 1, math.MaxInt,
}

// wantNoSignal: false, and as if none came, behind samples that are Bad and that aren't.
func wantNoSignal(t *testing.T, s *cell.Store, signal int) {
	t.Helper()
	for _, x := range []api.Sample{{Signal: signal, Value: 5}, {Signal: signal, Value: 6, Bad: true}} {
		if s.Put(3, x) {
			t.Errorf("Put of %v: true", x)
		}
		wantNothing(t, s, signal)
	}
}

func TestSizes(t *testing.T) {
	for _, c := range sizes {
		s := cell.New(c.told)
		if s == nil {
			t.Fatal("a store is one, however many it is told")
		}
		for signal := range c.has {
			wantNothing(t, s, signal)
			put(t, s, int64(signal), api.Sample{Signal: signal, Value: 100 + signal, Bad: signal%3 == 2})
		}
		for signal := c.has; signal < api.MaxSignals; signal++ {
			wantNoSignal(t, s, signal)
		}
		for _, signal := range others {
			wantNoSignal(t, s, signal)
		}
		for signal := range c.has { // and those that there aren't have changed nothing
			wantQuiet(t, s, signal, 20, int64(20-signal))
			wantBad(t, s, signal, signal%3 == 2)
			if signal%3 == 2 {
				wantNoValue(t, s, signal)
				continue
			}
			wantValue(t, s, signal, 100+signal, int64(signal))
			wantOldest(t, s, signal, 0, 100+signal)
			wantKept(t, s, signal, 1)
		}
	}
}

func TestNil(t *testing.T) {
	var s *cell.Store
	for _, signal := range append([]int{0, 1, 7}, others...) {
		wantNoSignal(t, s, signal)
	}
}

// A store that wasn't made, though it isn't nil, must not panic either.
func TestZeroStore(t *testing.T) {
	s := &cell.Store{}
	for _, signal := range append([]int{0, 1, 7}, others...) {
		wantNoSignal(t, s, signal)
	}
}

// Times that fall aren't promised anything but that each call ends, and none panics.
func TestTimesThatFall(t *testing.T) {
	s := cell.New(1)
	for _, at := range []int64{5, 3, last, least, 0, -1, most, 4} {
		put(t, s, at, api.Sample{Value: 1})
		put(t, s, at, api.Sample{Value: 2, Bad: true})
		for _, when := range []int64{least, -1, 0, 4, most, last} {
			s.Oldest(0, when)
			s.Quiet(0, when)
		}
	}
	wantKept(t, s, 0, 8)
}
