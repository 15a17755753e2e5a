package cell_test

import (
	"math"
	"slices"
	"testing"

	"handbell/api"
	"handbell/cell"
)

const (
	most  = int64(api.MaxTick)
	last  = int64(math.MaxInt64)
	least = int64(math.MinInt64)
)

func put(t *testing.T, s *cell.Store, now int64, x api.Sample) {
	t.Helper()
	if !s.Put(now, x) {
		t.Errorf("Put at %d of %v: false", now, x)
	}
}

// good puts, at each of these times, the value that is ten times it.
func good(t *testing.T, s *cell.Store, signal int, times ...int64) {
	t.Helper()
	for _, at := range times {
		put(t, s, at, api.Sample{Signal: signal, Value: int(10 * at)})
	}
}

func wantValue(t *testing.T, s *cell.Store, signal, value int, at int64) {
	t.Helper()
	if v, when, ok := s.Value(signal); v != value || when != at || !ok {
		t.Errorf("Value of %d: %d, %d, %t, want %d, %d", signal, v, when, ok, value, at)
	}
}

func wantNoValue(t *testing.T, s *cell.Store, signal int) {
	t.Helper()
	if v, when, ok := s.Value(signal); v != 0 || when != 0 || ok {
		t.Errorf("Value of %d: %d, %d, %t, want none", signal, v, when, ok)
	}
}

func wantOldest(t *testing.T, s *cell.Store, signal int, from int64, value int) {
	t.Helper()
	if v, ok := s.Oldest(signal, from); v != value || !ok {
		t.Errorf("Oldest of %d from %d: %d, %t, want %d", signal, from, v, ok, value)
	}
}

func wantNoOldest(t *testing.T, s *cell.Store, signal int, froms ...int64) {
	t.Helper()
	for _, from := range froms {
		if v, ok := s.Oldest(signal, from); v != 0 || ok {
			t.Errorf("Oldest of %d from %d: %d, %t, want none", signal, from, v, ok)
		}
	}
}

func wantQuiet(t *testing.T, s *cell.Store, signal int, now, want int64) {
	t.Helper()
	if got := s.Quiet(signal, now); got != want {
		t.Errorf("Quiet of %d at %d: %d, want %d", signal, now, got, want)
	}
}

func wantBad(t *testing.T, s *cell.Store, signal int, want bool) {
	t.Helper()
	if got := s.Bad(signal); got != want {
		t.Errorf("Bad of %d: %t, want %t", signal, got, want)
	}
}

func wantKept(t *testing.T, s *cell.Store, signal, want int) {
	t.Helper()
	if got := s.Kept(signal); got != want {
		t.Errorf("Kept of %d: %d, want %d", signal, got, want)
	}
}

// wantNothing: as of a signal of which no sample came, or that there isn't.
func wantNothing(t *testing.T, s *cell.Store, signal int) {
	t.Helper()
	wantNoValue(t, s, signal)
	wantNoOldest(t, s, signal, least, -most, -1, 0, 1, most, most+1, last)
	wantBad(t, s, signal, false)
	wantKept(t, s, signal, 0)
	for _, c := range []struct{ now, quiet int64 }{
		{least, 0}, {-most, 0}, {-1, 0}, {0, 0}, {1, 1}, {7, 7}, {most - 1, most - 1}, {most, most}, {most + 1, most}, {last, most},
	} {
		wantQuiet(t, s, signal, c.now, c.quiet)
	}
}

func TestExample(t *testing.T) {
	s := cell.New(1)
	put(t, s, 3, api.Sample{Value: 7})
	put(t, s, 5, api.Sample{Value: 9})
	wantValue(t, s, 0, 9, 5)
	wantOldest(t, s, 0, 4, 9)
	wantQuiet(t, s, 0, 8, 3)
	wantOldest(t, s, 0, 3, 7)
	wantBad(t, s, 0, false)
	wantKept(t, s, 0, 2)
}

func TestNew(t *testing.T) {
	s := cell.New(api.MaxSignals)
	for signal := range api.MaxSignals {
		wantNothing(t, s, signal)
	}
	other := cell.New(api.MaxSignals)
	good(t, s, 3, 5)
	wantNothing(t, other, 3) // a store's signals are its own
	good(t, other, 3, 6)
	wantValue(t, s, 3, 50, 5)
	wantKept(t, other, 3, 1)
}

func TestOneAfterAnother(t *testing.T) {
	s := cell.New(1)
	for i := range 40 {
		at := int64(3 * i)
		good(t, s, 0, at)
		kept := min(i+1, api.MaxKeep)
		first := int64(3 * (i + 1 - kept))
		wantKept(t, s, 0, kept)
		wantValue(t, s, 0, int(10*at), at)
		wantOldest(t, s, 0, least, int(10*first))
		wantOldest(t, s, 0, at, int(10*at))
		wantNoOldest(t, s, 0, at+1)
		wantQuiet(t, s, 0, at+5, 5)
		wantBad(t, s, 0, false)
	}
}

// Just as many as there is room for, then one more, then many more.
func TestRoom(t *testing.T) {
	s := cell.New(2)
	for i := range int64(api.MaxKeep) {
		good(t, s, 1, i)
	}
	wantKept(t, s, 1, 16)
	wantOldest(t, s, 1, 0, 0)
	wantOldest(t, s, 1, 1, 10)
	wantValue(t, s, 1, 150, 15)
	good(t, s, 1, 16)
	wantKept(t, s, 1, 16)
	wantOldest(t, s, 1, 0, 10) // what came at 0 has gone
	wantOldest(t, s, 1, 1, 10)
	wantOldest(t, s, 1, 2, 20)
	wantValue(t, s, 1, 160, 16)
	for i := range int64(5000) {
		good(t, s, 1, 17+i)
	}
	wantKept(t, s, 1, 16)
	wantOldest(t, s, 1, 0, 50010)
	wantOldest(t, s, 1, 5001, 50010)
	wantOldest(t, s, 1, 5002, 50020)
	wantValue(t, s, 1, 50160, 5016)
	wantNothing(t, s, 0)
}

func TestOldest(t *testing.T) {
	s := cell.New(1)
	good(t, s, 0, 0, 4, 5, 9)
	for _, c := range []struct {
		from  int64
		value int
	}{
		{least, 0}, {least + 1, 0}, {-most, 0}, {-2, 0}, {-1, 0}, {0, 0}, {1, 40}, {3, 40}, {4, 40}, {5, 50}, {6, 90}, {8, 90}, {9, 90},
	} {
		wantOldest(t, s, 0, c.from, c.value)
	}
	wantNoOldest(t, s, 0, 10, 11, 90, most-1, most, most+1, last-1, last)
}

// Each value's time, and one ahead of it and one behind, also where the places go round.
func TestOldestAroundEach(t *testing.T) {
	for came := 1; came <= 3*api.MaxKeep; came++ {
		s := cell.New(1)
		for i := range came {
			good(t, s, 0, int64(10+5*i))
		}
		first := max(came-api.MaxKeep, 0)
		for i := first; i < came; i++ {
			at := int64(10 + 5*i)
			wantOldest(t, s, 0, at, int(10*at))
			wantOldest(t, s, 0, at-1, int(10*at))
			if i < came-1 {
				wantOldest(t, s, 0, at+1, int(10*at+50))
			} else {
				wantNoOldest(t, s, 0, at+1)
			}
		}
	}
}

func TestValuesOfOneTime(t *testing.T) {
	s := cell.New(1)
	for i, at := range []int64{2, 6, 6, 6, 8, 8} {
		put(t, s, at, api.Sample{Value: 100 - i})
	}
	wantKept(t, s, 0, 6)
	wantValue(t, s, 0, 95, 8) // the one that came last
	wantOldest(t, s, 0, 2, 100)
	for from := int64(3); from <= 6; from++ {
		wantOldest(t, s, 0, from, 99) // the one that came first
	}
	wantOldest(t, s, 0, 7, 96)
	wantOldest(t, s, 0, 8, 96)
	wantNoOldest(t, s, 0, 9)
	for i := range 13 { // the first three go: one of 2, and two of 6
		put(t, s, 8, api.Sample{Value: i})
	}
	wantKept(t, s, 0, 16)
	wantOldest(t, s, 0, 0, 97)
	wantOldest(t, s, 0, 7, 96)
	wantValue(t, s, 0, 12, 8)
	for i := range 20 { // all of one time, at last
		put(t, s, 8, api.Sample{Value: 1000 + i})
	}
	wantOldest(t, s, 0, 8, 1004)
	wantOldest(t, s, 0, 0, 1004)
	wantNoOldest(t, s, 0, 9)
	wantValue(t, s, 0, 1019, 8)
}

func TestBadFirst(t *testing.T) {
	s := cell.New(1)
	put(t, s, 4, api.Sample{Value: 7, Bad: true})
	wantBad(t, s, 0, true)
	wantNoValue(t, s, 0)
	wantNoOldest(t, s, 0, least, 0, 3, 4, 5)
	wantKept(t, s, 0, 0)
	wantQuiet(t, s, 0, 4, 0)
	wantQuiet(t, s, 0, 10, 6)
	put(t, s, 6, api.Sample{Value: 8})
	wantBad(t, s, 0, false)
	wantValue(t, s, 0, 8, 6)
	wantOldest(t, s, 0, 0, 8)
	wantKept(t, s, 0, 1)
	wantQuiet(t, s, 0, 10, 4)
}

func TestBadBetween(t *testing.T) {
	s := cell.New(1)
	put(t, s, 1, api.Sample{Value: 11})
	put(t, s, 2, api.Sample{Value: 22, Bad: true})
	put(t, s, 3, api.Sample{Value: 33})
	wantBad(t, s, 0, false)
	wantValue(t, s, 0, 33, 3)
	wantOldest(t, s, 0, 1, 11)
	wantOldest(t, s, 0, 2, 33) // what was Bad isn't kept
	wantKept(t, s, 0, 2)
	wantQuiet(t, s, 0, 3, 0)
}

func TestBadLast(t *testing.T) {
	s := cell.New(1)
	put(t, s, 1, api.Sample{Value: 11})
	put(t, s, 5, api.Sample{Value: 55, Bad: true})
	wantBad(t, s, 0, true)
	wantValue(t, s, 0, 11, 1) // the last one that is kept
	wantOldest(t, s, 0, 1, 11)
	wantNoOldest(t, s, 0, 2, 5)
	wantKept(t, s, 0, 1)
	wantQuiet(t, s, 0, 7, 2)
	put(t, s, 5, api.Sample{Value: 56, Bad: true})
	put(t, s, 6, api.Sample{Value: 57, Bad: true})
	wantBad(t, s, 0, true)
	wantValue(t, s, 0, 11, 1)
	wantQuiet(t, s, 0, 7, 1)
	put(t, s, 6, api.Sample{Value: 66})
	wantBad(t, s, 0, false) // also of one that comes at the very time
	wantValue(t, s, 0, 66, 6)
}

// However many are Bad, none of what is kept goes.
func TestBadTakeNoRoom(t *testing.T) {
	s := cell.New(1)
	for i := range int64(api.MaxKeep) {
		good(t, s, 0, 10+i)
	}
	for i := range int64(100) {
		put(t, s, 30+i, api.Sample{Value: -1, Bad: true})
		wantKept(t, s, 0, 16)
		wantOldest(t, s, 0, 0, 100)
		wantValue(t, s, 0, 250, 25)
		wantBad(t, s, 0, true)
		wantQuiet(t, s, 0, 200, 170-i)
	}
	good(t, s, 0, 200)
	wantKept(t, s, 0, 16)
	wantOldest(t, s, 0, 0, 110)
}

func TestQuiet(t *testing.T) {
	for _, bad := range []bool{false, true} {
		s := cell.New(2)
		put(t, s, 0, api.Sample{Value: 3, Bad: bad})
		wantQuiet(t, s, 0, 0, 0)
		wantQuiet(t, s, 0, 1, 1)
		put(t, s, 20, api.Sample{Value: 3, Bad: bad})
		for _, c := range []struct{ now, quiet int64 }{
			{20, 0}, {21, 1}, {27, 7}, {19, 0}, {1, 0}, {0, 0}, {-1, 0}, {-most, 0}, {least, 0}, {least + 19, 0},
			{most, most - 20}, {most + 19, most - 1}, {most + 20, most}, {most + 21, most}, {last, most},
		} {
			wantQuiet(t, s, 0, c.now, c.quiet)
		}
		put(t, s, 20, api.Sample{Value: 4, Bad: !bad})
		wantQuiet(t, s, 0, 22, 2)
		put(t, s, 21, api.Sample{Value: 4, Bad: bad})
		wantQuiet(t, s, 0, 22, 1)
		wantNothing(t, s, 1) // of the other one: as long as there is a time
	}
}

// What came at 0 came: it isn't as if none had.
func TestAtNought(t *testing.T) {
	s := cell.New(1)
	put(t, s, 0, api.Sample{})
	wantValue(t, s, 0, 0, 0)
	wantOldest(t, s, 0, -1, 0)
	wantOldest(t, s, 0, 0, 0)
	wantNoOldest(t, s, 0, 1)
	wantQuiet(t, s, 0, 5, 5)
	wantKept(t, s, 0, 1)
	wantBad(t, s, 0, false)
}

// A time and a value are kept just as they came, also beyond what a tick or a signal may be.
func TestAnyTimesAndValues(t *testing.T) {
	s := cell.New(1)
	put(t, s, least, api.Sample{Value: math.MinInt})
	wantValue(t, s, 0, math.MinInt, least)
	wantOldest(t, s, 0, least, math.MinInt)
	wantNoOldest(t, s, 0, least+1)
	wantQuiet(t, s, 0, least, 0)
	wantQuiet(t, s, 0, least+most-1, most-1)
	wantQuiet(t, s, 0, least+most+1, most)
	wantQuiet(t, s, 0, 0, most)
	wantQuiet(t, s, 0, last, most)
	put(t, s, -5, api.Sample{Value: -1})
	wantQuiet(t, s, 0, 0, 5)
	wantQuiet(t, s, 0, 7, 12)
	wantQuiet(t, s, 0, -6, 0)
	wantOldest(t, s, 0, -6, -1)
	wantOldest(t, s, 0, -5, -1)
	wantNoOldest(t, s, 0, -4, 0)
	put(t, s, most, api.Sample{Value: 1 << 40})
	wantValue(t, s, 0, 1<<40, most)
	put(t, s, most+1, api.Sample{Value: 0})
	wantValue(t, s, 0, 0, most+1)
	wantOldest(t, s, 0, most, 1<<40)
	wantOldest(t, s, 0, most+1, 0)
	wantQuiet(t, s, 0, most+3, 2)
	put(t, s, last, api.Sample{Value: math.MaxInt})
	wantValue(t, s, 0, math.MaxInt, last)
	wantOldest(t, s, 0, last, math.MaxInt)
	wantOldest(t, s, 0, least, math.MinInt)
	wantKept(t, s, 0, 5)
	wantQuiet(t, s, 0, last, 0)
	wantQuiet(t, s, 0, last-1, 0)
}

// Whether a sample is new is another layer's: here each counts, whatever its Seq.
func TestSeqSaysNothing(t *testing.T) {
	s := cell.New(1)
	for _, seq := range []byte{5, 5, 4, 255, 0, 5} {
		put(t, s, 3, api.Sample{Seq: seq, Value: int(seq)})
	}
	wantKept(t, s, 0, 6)
	wantValue(t, s, 0, 5, 3)
	put(t, s, 4, api.Sample{Seq: 5, Bad: true})
	wantBad(t, s, 0, true)
	wantQuiet(t, s, 0, 4, 0)
}

func TestSignalsAreApart(t *testing.T) {
	s := cell.New(4)
	put(t, s, 1, api.Sample{Signal: 3, Value: 31})
	put(t, s, 1, api.Sample{Signal: 1, Value: 11})
	put(t, s, 2, api.Sample{Signal: 3, Value: 32, Bad: true})
	put(t, s, 4, api.Sample{Signal: 0, Value: 4, Bad: true})
	put(t, s, 5, api.Sample{Signal: 1, Value: 15})
	wantValue(t, s, 3, 31, 1)
	wantBad(t, s, 3, true)
	wantQuiet(t, s, 3, 6, 4)
	wantKept(t, s, 3, 1)
	wantValue(t, s, 1, 15, 5)
	wantOldest(t, s, 1, 0, 11)
	wantBad(t, s, 1, false)
	wantQuiet(t, s, 1, 6, 1)
	wantKept(t, s, 1, 2)
	wantNoValue(t, s, 0)
	wantBad(t, s, 0, true)
	wantQuiet(t, s, 0, 6, 2)
	wantNothing(t, s, 2)
	for i := range int64(50) { // what is full is one signal's own room
		good(t, s, 1, 10+i)
	}
	wantKept(t, s, 1, 16)
	wantKept(t, s, 3, 1)
	wantValue(t, s, 3, 31, 1)
	wantNothing(t, s, 2)
}

func TestSampleStays(t *testing.T) {
	s := cell.New(2)
	all := []api.Sample{
		{Signal: 1, Seq: 7, Value: -9}, {Signal: 0, Seq: 8, Value: 5, Bad: true}, {Signal: 2, Seq: 9, Value: 4}, {Signal: -1, Value: 3, Bad: true},
	}
	were := slices.Clone(all)
	for at, x := range all {
		s.Put(int64(at), x)
		s.Value(x.Signal)
	}
	if !slices.Equal(all, were) {
		t.Errorf("%v, were %v", all, were)
	}
	x := &all[0]
	put(t, s, 10, *x)
	if *x != were[0] {
		t.Errorf("%v, was %v", *x, were[0])
	}
	*x = api.Sample{Value: 77, Bad: true} // written over behind the call
	wantValue(t, s, 1, -9, 10)
	wantBad(t, s, 1, false)
}
