package clock_test

import (
	"math"
	"math/big"
	"math/rand"
	"slices"
	"testing"

	"handbell/api"
	"handbell/clock"
)

const (
	most  = int64(api.MaxTick)
	last  = int64(math.MaxInt64)
	least = int64(math.MinInt64)
)

// edges are the numbers about which a time's bounds, or 64 bits', lie.
func edges() []int64 {
	var all []int64
	for _, x := range []int64{0, 1 << 31, 1 << 32, most / 2, most, 2 * most, last / 2, last - most} {
		all = append(all, x-1, x, x+1, -x-1, -x, -x+1)
	}
	return append(all, last, last-1, -last, least, least+1)
}

// bounded is x from 0 to MaxTick; of numbers without bounds.
func bounded(x *big.Int) int64 {
	if x.Sign() < 0 {
		return 0
	}
	if x.Cmp(big.NewInt(most)) > 0 {
		return most
	}
	return x.Int64()
}

func wantTimes(t *testing.T, a, b int64) {
	t.Helper()
	x, y := big.NewInt(a), big.NewInt(b)
	if got, want := clock.Add(a, b), bounded(new(big.Int).Add(x, y)); got != want {
		t.Errorf("Add(%d, %d): %d, want %d", a, b, got, want)
	}
	if got, want := clock.Since(a, b), bounded(new(big.Int).Sub(x, y)); got != want {
		t.Errorf("Since(%d, %d): %d, want %d", a, b, got, want)
	}
}

func TestAdd(t *testing.T) {
	for _, c := range []struct{ t, d, want int64 }{
		{0, 0, 0}, {5, 3, 8}, {5, -3, 2}, {5, -5, 0}, {5, -6, 0}, {-5, 3, 0}, {-5, 8, 3}, {-1, 0, 0}, {0, -1, 0},
		{most, 0, most}, {most - 1, 1, most}, {most, 1, most}, {most + 1, 0, most}, {0, most + 1, most},
		{most, -1, most - 1}, {most + 5, -6, most - 1}, {most + 5, -5, most}, {most + 5, -4, most},
		{last, 1, most}, {1, last, most}, {last, last, most}, {last, 0, most},
		{least, -1, 0}, {-1, least, 0}, {least, least, 0}, {least, 0, 0},
		{last, least, 0}, {least, last, 0}, {last, least + 2, 1}, {last, -last, 0}, {last, most - last, most},
	} {
		if got := clock.Add(c.t, c.d); got != c.want {
			t.Errorf("Add(%d, %d): %d, want %d", c.t, c.d, got, c.want)
		}
	}
}

func TestSince(t *testing.T) {
	for _, c := range []struct{ now, t, want int64 }{
		{0, 0, 0}, {5, 3, 2}, {3, 5, 0}, {5, 5, 0}, {5, 0, 5}, {0, 5, 0}, {0, -5, 5}, {-5, 0, 0}, {-5, -8, 3}, {-8, -5, 0},
		{most, 0, most}, {most, 1, most - 1}, {most + 1, 1, most}, {most + 2, 1, most}, {most, -1, most},
		{0, -most, most}, {0, -most + 1, most - 1}, {0, -most - 1, most},
		{last, least, most}, {least, last, 0}, {last, -1, most}, {0, least, most}, {-1, least, most}, {-2, last, 0},
		{last, last, 0}, {least, least, 0}, {last, last - 1, 1}, {least + 1, least, 1}, {last, last - most, most},
	} {
		if got := clock.Since(c.now, c.t); got != c.want {
			t.Errorf("Since(%d, %d): %d, want %d", c.now, c.t, got, c.want)
		}
	}
}

func TestTimesAgainstNumbersWithoutBounds(t *testing.T) {
	for _, a := range edges() {
		for _, b := range edges() {
			wantTimes(t, a, b)
		}
	}
	draw := rand.New(rand.NewSource(3))
	for range 20000 { // of all sizes, so that many of them lie near a bound
		a := int64(draw.Uint64()) >> draw.Intn(64)
		b := int64(draw.Uint64()) >> draw.Intn(64)
		wantTimes(t, a, b)
		wantTimes(t, a, -a+b>>50)
	}
}

func wantDue(t *testing.T, w *clock.Wheel, now int64, want ...int) {
	t.Helper()
	if got := w.Due(now); !slices.Equal(got, want) {
		t.Errorf("Due(%d): %v, want %v", now, got, want)
	}
}

func wantAt(t *testing.T, w *clock.Wheel, id int, at int64, ok bool) {
	t.Helper()
	if a, is := w.At(id); a != at || is != ok {
		t.Errorf("At(%d): %d %t, want %d %t", id, a, is, at, ok)
	}
}

func wantLen(t *testing.T, w *clock.Wheel, want int) {
	t.Helper()
	if got := w.Len(); got != want {
		t.Errorf("Len: %d, want %d", got, want)
	}
}

func TestExample(t *testing.T) {
	w := clock.New()
	w.Set(5, 9)
	w.Set(3, 9)
	w.Set(7, 2)
	wantDue(t, w, 9, 7, 3, 5)
	wantDue(t, w, 9)
	wantLen(t, w, 0)
}

func TestNew(t *testing.T) {
	w := clock.New()
	wantLen(t, w, 0)
	wantAt(t, w, 0, 0, false)
	wantDue(t, w, last)
	if w.Stop(0) {
		t.Error("none is set")
	}
	other := clock.New()
	w.Set(1, 1)
	wantLen(t, other, 0) // a wheel's timers are its own
	wantDue(t, other, last)
}

func TestSet(t *testing.T) {
	w := clock.New()
	w.Set(4, 10)
	wantAt(t, w, 4, 10, true)
	wantAt(t, w, 3, 0, false)
	w.Set(0, 0)
	wantAt(t, w, 0, 0, true) // a time of 0 is one, too
	wantLen(t, w, 2)
}

func TestSetAnew(t *testing.T) {
	w := clock.New()
	w.Set(1, 10)
	w.Set(2, 6)
	w.Set(1, 5) // sooner
	wantLen(t, w, 2)
	wantAt(t, w, 1, 5, true)
	w.Set(2, 12) // later
	wantAt(t, w, 2, 12, true)
	wantDue(t, w, 10, 1)
	wantDue(t, w, 11)
	wantDue(t, w, 12, 2)
	w.Set(1, 3) // behind that it was due
	wantAt(t, w, 1, 3, true)
	wantDue(t, w, 12, 1)
	w.Set(3, 4)
	w.Set(3, 4) // at the same time
	wantLen(t, w, 1)
	wantDue(t, w, 4, 3)
}

func TestStop(t *testing.T) {
	w := clock.New()
	w.Set(1, 5)
	w.Set(2, 5)
	w.Set(3, 5)
	if !w.Stop(2) || w.Stop(2) || w.Stop(9) || w.Stop(-1) {
		t.Error("Stop: is it set?")
	}
	wantAt(t, w, 2, 0, false)
	wantLen(t, w, 2)
	wantDue(t, w, 5, 1, 3)
	if w.Stop(1) {
		t.Error("what was due isn't set any more")
	}
	w.Set(2, 7)
	wantAt(t, w, 2, 7, true)
	if !w.Stop(2) {
		t.Error("it was set anew")
	}
	wantDue(t, w, last)
}

func TestDue(t *testing.T) {
	w := clock.New()
	for id, at := range []int64{30, 10, 20, 10, 31, 0} {
		w.Set(id, at)
	}
	wantDue(t, w, -1)
	wantLen(t, w, 6)
	wantDue(t, w, 9, 5)
	wantDue(t, w, 30, 1, 3, 2, 0) // at now and earlier, and what is later stays
	wantLen(t, w, 1)
	for id := range 4 {
		wantAt(t, w, id, 0, false)
	}
	wantAt(t, w, 4, 31, true)
	wantDue(t, w, 30)
	wantDue(t, w, 31, 4)
	wantDue(t, w, 31)
}

func TestDueOfOneTime(t *testing.T) {
	ids := []int{math.MaxInt, 7, 0, -1, 100, -100, 3, math.MinInt, 1}
	rising := slices.Sorted(slices.Values(ids))
	for range 20 { // a map is gone through in another order each time
		w := clock.New()
		for _, id := range ids {
			w.Set(id, 4)
		}
		wantDue(t, w, 3)
		wantDue(t, w, 4, rising...)
		wantLen(t, w, 0)
	}
}

func TestDueOfAnyTimes(t *testing.T) {
	w := clock.New()
	w.Set(1, last)
	w.Set(2, least)
	w.Set(3, most+1)
	w.Set(4, -1)
	wantAt(t, w, 1, last, true) // a timer's time is what it was set to
	wantAt(t, w, 2, least, true)
	wantDue(t, w, least, 2)
	wantDue(t, w, 0, 4)
	wantDue(t, w, most)
	w.Set(2, least)
	wantDue(t, w, last, 2, 3, 1)
	wantLen(t, w, 0)
}

func TestDueIsNew(t *testing.T) {
	w := clock.New()
	w.Set(1, 1)
	w.Set(2, 1)
	a := w.Due(1)
	w.Set(1, 1)
	w.Set(2, 1)
	b := w.Due(1)
	a[0] = 99
	if b[0] != 1 {
		t.Error("two answers share")
	}
	w.Set(8, 1)
	w.Due(1)
	if !slices.Equal(b, []int{1, 2}) {
		t.Error("an answer changes behind the call:", b)
	}
}

func TestNil(t *testing.T) {
	var w *clock.Wheel
	w.Set(1, 1)
	wantLen(t, w, 0)
	wantAt(t, w, 1, 0, false)
	wantDue(t, w, last)
	if w.Stop(1) {
		t.Error("of a nil wheel: false")
	}
}

// timer is one of a list that stands for a wheel.
type timer struct {
	id int
	at int64
}

// model is the timers as they were set, without any order.
type model []timer

func (m model) place(id int) int {
	return slices.IndexFunc(m, func(x timer) bool { return x.id == id })
}

func (m *model) stop(id int) bool {
	i := m.place(id)
	if i >= 0 {
		*m = slices.Delete(*m, i, i+1)
	}
	return i >= 0
}

func (m *model) set(id int, at int64) {
	m.stop(id)
	*m = append(*m, timer{id, at})
}

// due takes the first one, again and again.
func (m *model) due(now int64) []int {
	var ids []int
	for {
		best := timer{at: last}
		found := false
		for _, x := range *m {
			if x.at <= now && (!found || x.at < best.at || x.at == best.at && x.id < best.id) {
				best, found = x, true
			}
		}
		if !found {
			return ids
		}
		ids = append(ids, best.id)
		m.stop(best.id)
	}
}

func TestAgainstModel(t *testing.T) {
	draw := rand.New(rand.NewSource(4))
	w, m := clock.New(), &model{}
	for n := range 20000 {
		id, at := draw.Intn(14)-4, int64(draw.Intn(30))
		switch draw.Intn(8) {
		default:
			w.Set(id, at)
			m.set(id, at)
		case 0:
			if got, want := w.Stop(id), m.stop(id); got != want {
				t.Fatalf("step %d: Stop(%d): %t, want %t", n, id, got, want)
			}
		case 1:
			if got, want := w.Due(at/2), m.due(at/2); !slices.Equal(got, want) {
				t.Fatalf("step %d: Due(%d): %v, want %v", n, at/2, got, want)
			}
		}
		wantLen(t, w, len(*m))
		if i := m.place(id); i >= 0 {
			wantAt(t, w, id, (*m)[i].at, true)
		} else {
			wantAt(t, w, id, 0, false)
		}
	}
}
