package trend_test

import (
	"math"
	"testing"

	"handbell/api"
	"handbell/cell"
	"handbell/trend"
)

const (
	most  = int64(api.MaxTick)
	last  = int64(math.MaxInt64)
	least = int64(math.MinInt64)
)

// kept is a value that came at a time.
type kept struct {
	at    int64
	value int
}

// store is one of two signals: these values came of signal 1, in this order.
func store(t *testing.T, values ...kept) *cell.Store {
	t.Helper()
	s := cell.New(2)
	for _, v := range values {
		put(t, s, v.at, api.Sample{Signal: 1, Value: v.value})
	}
	return s
}

func put(t *testing.T, s *cell.Store, now int64, x api.Sample) {
	t.Helper()
	if !s.Put(now, x) {
		t.Fatalf("Put at %d of %v: false", now, x)
	}
}

func wantChange(t *testing.T, s *cell.Store, signal int, now, span int64, want int) {
	t.Helper()
	if d, ok := trend.Change(s, signal, now, span); d != want || !ok {
		t.Errorf("Change of %d at %d within %d: %d, %t, want %d", signal, now, span, d, ok, want)
	}
}

func wantNone(t *testing.T, s *cell.Store, signal int, now, span int64) {
	t.Helper()
	if d, ok := trend.Change(s, signal, now, span); d != 0 || ok {
		t.Errorf("Change of %d at %d within %d: %d, %t, want none", signal, now, span, d, ok)
	}
}

// times are those about which the bounds of ticks and of 64 bits lie.
func times() []int64 {
	return []int64{least, least + 1, -most - 1, -most, -1, 0, 1, 5, api.MaxSpan, most - 1, most, most + 1, last - 1, last}
}

func wantNoneEver(t *testing.T, s *cell.Store, signal int) {
	t.Helper()
	for _, now := range times() {
		for _, span := range times() {
			wantNone(t, s, signal, now, span)
		}
	}
}

func TestExample(t *testing.T) {
	s := store(t, kept{2, 3}, kept{5, 9})
	wantChange(t, s, 1, 6, 4, 6)
	wantChange(t, s, 1, 6, 2, 0)
	wantNone(t, s, 1, 9, 3)
}

// A span that reaches just a value's time, one tick less, and one more.
func TestSpanReaches(t *testing.T) {
	s := store(t, kept{10, 100}, kept{20, 130}, kept{30, 120}, kept{40, 145})
	for _, c := range []struct {
		span int64
		want int
	}{
		{10, 0}, {11, 0}, {19, 0}, {20, 25}, {21, 25}, {29, 25}, {30, 15}, {31, 15}, {39, 15}, {40, 45}, {41, 45}, {49, 45},
		{50, 45}, {51, 45}, {1000, 45}, {api.MaxSpan, 45}, {most, 45}, {most + 1, 45}, {last, 45}, // longer than all the time
	} {
		wantChange(t, s, 1, 50, c.span, c.want)
	}
	for _, span := range []int64{9, 8, 1, 0} {
		wantNone(t, s, 1, 50, span)
	}
}

// The change falls as well as it rises, and a value that came back has changed by nothing.
func TestFallsAndRises(t *testing.T) {
	s := store(t, kept{1, 50}, kept{2, -30}, kept{3, 70}, kept{4, 20}, kept{5, 20}, kept{6, 50}, kept{7, 20})
	for span, want := range []int{0, -30, 0, 0, -50, 50, -30, -30} {
		wantChange(t, s, 1, 7, int64(span), want)
	}
}

func TestSpanOfNought(t *testing.T) {
	s := store(t, kept{4, 7}, kept{9, 12})
	wantChange(t, s, 1, 9, 0, 0)
	wantChange(t, s, 1, 8, 0, 0) // what came later is since then, too
	wantChange(t, s, 1, 4, 0, 5)
	wantNone(t, s, 1, 10, 0)
}

// Now may be earlier than what came: since then is later than the span's beginning.
func TestNowEarlier(t *testing.T) {
	s := store(t, kept{4, 7}, kept{9, 12})
	wantChange(t, s, 1, 0, 0, 5)
	wantChange(t, s, 1, 2, 1, 5)
	wantChange(t, s, 1, 5, 1, 5)
	wantChange(t, s, 1, 6, 1, 0)
	for _, now := range []int64{-1, -9, -most, least} { // no time is earlier than 0
		wantChange(t, s, 1, now, 0, 5)
		wantChange(t, s, 1, now, 3, 5)
		wantChange(t, s, 1, now, last, 5)
	}
}

// Of values that came at one time the first one is the oldest, and the last one the last.
func TestValuesOfOneTime(t *testing.T) {
	s := store(t, kept{3, 10}, kept{3, 40}, kept{6, 15}, kept{6, 90}, kept{6, 22})
	wantChange(t, s, 1, 6, 0, 7)
	wantChange(t, s, 1, 6, 2, 7)
	wantChange(t, s, 1, 6, 3, 12)
	wantChange(t, s, 1, 9, 3, 7)
	wantNone(t, s, 1, 9, 2)
}

func TestOneValue(t *testing.T) {
	s := store(t, kept{5, 33})
	wantChange(t, s, 1, 5, 0, 0)
	wantChange(t, s, 1, 8, 3, 0)
	wantChange(t, s, 1, 8, 4, 0)
	wantChange(t, s, 1, 8, last, 0)
	wantNone(t, s, 1, 8, 2)
	wantNone(t, s, 1, 6, 0)
}

// A value at 0 is one: it isn't as if none were kept.
func TestAtNought(t *testing.T) {
	s := store(t, kept{0, 0})
	wantChange(t, s, 1, 0, 0, 0)
	wantChange(t, s, 1, 3, 3, 0)
	wantNone(t, s, 1, 3, 2)
	put(t, s, 3, api.Sample{Signal: 1, Value: 4})
	wantChange(t, s, 1, 3, 3, 4)
	wantChange(t, s, 1, 3, 2, 0)
	wantChange(t, s, 1, 3, 90, 4)
}

func TestNoValue(t *testing.T) {
	s := cell.New(2)
	wantNoneEver(t, s, 1)
	put(t, s, 5, api.Sample{Signal: 0, Value: 8}) // another one's value
	wantNoneEver(t, s, 1)
}

func TestBadOnly(t *testing.T) {
	s := cell.New(2)
	for at := range int64(40) {
		put(t, s, at, api.Sample{Signal: 1, Value: int(3 * at), Bad: true})
		wantNone(t, s, 1, at, 0)
		wantNone(t, s, 1, at, most)
	}
	wantNoneEver(t, s, 1)
}

// What is Bad is no value: not the last one, nor the oldest.
func TestBadAmong(t *testing.T) {
	s := cell.New(2)
	put(t, s, 1, api.Sample{Signal: 1, Value: 1000, Bad: true})
	put(t, s, 2, api.Sample{Signal: 1, Value: 10})
	put(t, s, 4, api.Sample{Signal: 1, Value: 2000, Bad: true})
	put(t, s, 6, api.Sample{Signal: 1, Value: 25})
	put(t, s, 8, api.Sample{Signal: 1, Value: 3000, Bad: true})
	wantChange(t, s, 1, 8, 7, 15)
	wantChange(t, s, 1, 8, 6, 15)
	wantChange(t, s, 1, 8, 5, 0)
	wantChange(t, s, 1, 8, 4, 0)
	wantChange(t, s, 1, 8, 2, 0)
	wantNone(t, s, 1, 8, 1)
	wantNone(t, s, 1, 8, 0)
}

// However long the span is, what has gone from the store isn't seen.
func TestMoreThanIsKept(t *testing.T) {
	s := cell.New(2)
	for i := range 100 {
		at := int64(10 * i)
		put(t, s, at, api.Sample{Signal: 1, Value: i * i})
		first := max(i+1-api.MaxKeep, 0)
		wantChange(t, s, 1, at, last, i*i-first*first)
		wantChange(t, s, 1, at, at-int64(10*first), i*i-first*first)
		wantChange(t, s, 1, at, 9, 0)
	}
	wantChange(t, s, 1, 990, 150, 99*99-84*84)
	wantChange(t, s, 1, 990, 149, 99*99-85*85)
	wantChange(t, s, 1, 990, 160, 99*99-84*84)
}

func TestSignalsAreApart(t *testing.T) {
	s := cell.New(api.MaxSignals)
	for signal := range api.MaxSignals {
		put(t, s, 2, api.Sample{Signal: signal, Value: 100})
		put(t, s, int64(4+signal), api.Sample{Signal: signal, Value: 100 + 7*signal})
	}
	for signal := range api.MaxSignals {
		wantChange(t, s, signal, 20, 18, 7*signal)
		wantChange(t, s, signal, 20, 17, 0)
		wantChange(t, s, signal, 20, int64(16-signal), 0)
		wantNone(t, s, signal, 20, int64(15-signal))
	}
}

// Values from end to end of what four bytes hold, and such as change by 2^33.
func TestGreatChanges(t *testing.T) {
	s := store(t, kept{1, math.MinInt32}, kept{2, math.MaxInt32}, kept{3, math.MinInt32}, kept{4, 1 << 32}, kept{5, -1 << 32}, kept{6, 1 << 32})
	wantChange(t, s, 1, 6, 0, 0)
	wantChange(t, s, 1, 6, 1, 1<<33)
	wantChange(t, s, 1, 6, 2, 0)
	wantChange(t, s, 1, 6, 4, 1<<32-math.MaxInt32)
	put(t, s, 7, api.Sample{Signal: 1, Value: -1 << 32})
	wantChange(t, s, 1, 7, 1, -1<<33)
	put(t, s, 8, api.Sample{Signal: 1, Value: math.MinInt32})
	wantChange(t, s, 1, 8, 6, math.MinInt32-math.MaxInt32)
	put(t, s, 9, api.Sample{Signal: 1, Value: math.MaxInt32})
	wantChange(t, s, 1, 9, 1, math.MaxInt32-math.MinInt32)
}

// A span ahead of now is layer 3's Since: from 0 to MaxTick, also where 64 bits don't hold it.
func TestTimesBeyond(t *testing.T) {
	s := store(t, kept{-5, 1}, kept{0, 4}, kept{most, 20}, kept{most + 1, 50})
	wantChange(t, s, 1, 3, 100, 46) // from 0 on, though -5 is within 100
	wantChange(t, s, 1, 3, 3, 46)
	wantChange(t, s, 1, 3, 2, 30)
	wantChange(t, s, 1, most, 0, 30)
	wantChange(t, s, 1, most, most, 46)
	wantChange(t, s, 1, most, most-1, 30)
	wantChange(t, s, 1, most+1, 0, 30) // from MaxTick on, and no later
	wantChange(t, s, 1, last, 0, 30)
	wantChange(t, s, 1, last, most, 30)
	wantChange(t, s, 1, last, last, 46)
	wantChange(t, s, 1, last, last-1, 30)
	wantChange(t, s, 1, last, least, 30)
	wantChange(t, s, 1, least, least, 46)
	wantChange(t, s, 1, least, last, 46)
	early := store(t, kept{least, 1}, kept{-1, 3}) // none is since 0
	wantNoneEver(t, early, 1)
}

// A span below 0 reaches from a later time on.
func TestSpanBelowNought(t *testing.T) {
	s := store(t, kept{4, 7}, kept{9, 12}, kept{15, 40})
	wantChange(t, s, 1, 4, -1, 28)
	wantChange(t, s, 1, 4, -5, 28)
	wantChange(t, s, 1, 4, -6, 0)
	wantChange(t, s, 1, 4, -11, 0)
	wantNone(t, s, 1, 4, -12)
	wantNone(t, s, 1, 4, -most)
	wantNone(t, s, 1, 4, least)
	wantChange(t, s, 1, -1, -1, 33)
	wantChange(t, s, 1, -1, -6, 28)
}

func TestNoSuchSignal(t *testing.T) {
	s := store(t, kept{0, 4}, kept{5, 9})
	var none *cell.Store
	for _, signal := range []int{
		math.MinInt, -1 << 32, math.MinInt32, -256, -255, -8, -1, 2, 3, 7, 8, 255, 256, 257, math.MaxInt32, 1 << 32, 1<<32 + 1, math.MaxInt,
	} {
		wantNoneEver(t, s, signal)
		wantNoneEver(t, none, signal)
		wantNoneEver(t, cell.New(0), signal)
	}
	for signal := range 2 {
		wantNoneEver(t, none, signal)
		wantNoneEver(t, cell.New(0), signal)
		wantNoneEver(t, &cell.Store{}, signal)
	}
}
