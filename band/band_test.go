package band_test

import (
	"math"
	"math/rand"
	"slices"
	"testing"

	"handbell/api"
	"handbell/band"
)

func event(rule int, on bool, at int64) api.Event { return api.Event{Rule: rule, On: on, At: at} }

// put puts events of these rules, which must all have room.
func put(t *testing.T, q *band.Queue, priority byte, rules ...int) {
	t.Helper()
	for _, rule := range rules {
		if e := q.Put(priority, event(rule, true, 1)); e != api.OK {
			t.Errorf("Put(%d) of rule %d: %v", priority, rule, e)
		}
	}
}

// wantRules: just events of these rules wait in the band.
func wantRules(t *testing.T, q *band.Queue, priority byte, want ...int) {
	t.Helper()
	var got []int
	for _, e := range q.Band(priority) {
		got = append(got, e.Rule)
	}
	if !slices.Equal(got, want) {
		t.Errorf("Band(%d): %v, want %v", priority, got, want)
	}
}

// wantTaken: the next one that is taken is of that rule, and priority.
func wantTaken(t *testing.T, q *band.Queue, rule int, priority byte) {
	t.Helper()
	if e, p, ok := q.Take(); e.Rule != rule || p != priority || !ok {
		t.Errorf("Take: %v %d %t, want rule %d, priority %d", e, p, ok, rule, priority)
	}
}

func wantNone(t *testing.T, q *band.Queue) {
	t.Helper()
	if e, p, ok := q.Take(); e != (api.Event{}) || p != 0 || ok {
		t.Errorf("Take where none waits: %v %d %t", e, p, ok)
	}
}

func TestExample(t *testing.T) {
	q := band.New([3]int{1, 1, 1})
	put(t, q, api.Low, 4)
	put(t, q, api.High, 2)
	wantTaken(t, q, 2, api.High)
	wantTaken(t, q, 4, api.Low)
	wantNone(t, q)
}

func TestRooms(t *testing.T) {
	for _, c := range []struct{ rooms, want [3]int }{
		{[3]int{1, 2, 3}, [3]int{1, 2, 3}},
		{[3]int{3, 1, 2}, [3]int{3, 1, 2}},
		{[3]int{0, -1, math.MinInt}, [3]int{}},
		{[3]int{1024, 1025, math.MaxInt}, [3]int{1024, 1024, 1024}},
	} {
		q, all := band.New(c.rooms), 0
		for priority := byte(api.Low); priority <= api.High; priority++ {
			n := 0
			for n <= 1100 && q.Put(priority, event(n, true, 0)) == api.OK {
				n++
			}
			all += n
			if want := c.want[priority-api.Low]; n != want || len(q.Band(priority)) != want {
				t.Errorf("rooms %v, priority %d: room for %d", c.rooms, priority, n)
			}
			if e := q.Put(priority, event(-1, true, 0)); e != api.ErrFull {
				t.Errorf("rooms %v, priority %d: full, but %v", c.rooms, priority, e)
			}
		}
		if q.Len() != all {
			t.Errorf("rooms %v: Len %d, want %d", c.rooms, q.Len(), all)
		}
	}
}

func TestPutInPlace(t *testing.T) {
	q := band.New([3]int{3, 3, 3})
	put(t, q, api.Medium, 5, 6, 7)
	changed := event(6, false, 9)
	if e := q.Put(api.Medium, changed); e != api.OK { // the band is full, but no more room is asked for
		t.Error(e)
	}
	if want := []api.Event{event(5, true, 1), changed, event(7, true, 1)}; !slices.Equal(q.Band(api.Medium), want) {
		t.Error(q.Band(api.Medium))
	}
	if q.Len() != 3 {
		t.Error("Len:", q.Len())
	}
	wantTaken(t, q, 5, api.Medium)
	put(t, q, api.Medium, 5) // it waits no more, so it is the newest now
	wantRules(t, q, api.Medium, 6, 7, 5)
	put(t, q, api.Medium, 6)
	wantRules(t, q, api.Medium, 6, 7, 5)
}

func TestPutInThatBandAlone(t *testing.T) {
	q := band.New([3]int{2, 2, 2})
	put(t, q, api.Low, 1, 2)
	put(t, q, api.High, 2)
	put(t, q, api.Medium, 2)
	q.Put(api.High, event(2, false, 8))
	if l := q.Band(api.Low); len(l) != 2 || l[1] != event(2, true, 1) {
		t.Error("another band's event changed:", l)
	}
	if l := q.Band(api.High); len(l) != 1 || l[0] != event(2, false, 8) {
		t.Error(l)
	}
	if q.Len() != 4 {
		t.Error("Len:", q.Len())
	}
}

func TestFull(t *testing.T) {
	q := band.New([3]int{1, 2, 0})
	put(t, q, api.Low, 1)
	put(t, q, api.Medium, 1, 2)
	for _, c := range []struct {
		priority byte
		rule     int
	}{{api.Low, 2}, {api.Medium, 3}, {api.High, 1}} {
		if e := q.Put(c.priority, event(c.rule, true, 1)); e != api.ErrFull {
			t.Errorf("Put(%d): %v", c.priority, e)
		}
	}
	wantRules(t, q, api.Low, 1)
	wantRules(t, q, api.Medium, 1, 2)
	wantRules(t, q, api.High)
	q.Take()
	put(t, q, api.Medium, 3)
	wantRules(t, q, api.Medium, 2, 3)
}

func TestNoSuchPriority(t *testing.T) {
	q := band.New([3]int{1, 1, 1})
	for priority := range 256 {
		p := byte(priority)
		if p >= api.Low && p <= api.High {
			continue
		}
		if e := q.Put(p, event(1, true, 1)); e != api.ErrArg {
			t.Errorf("Put(%d): %v", p, e)
		}
		if l := q.Band(p); len(l) != 0 {
			t.Errorf("Band(%d): %v", p, l)
		}
	}
	if q.Len() != 0 {
		t.Error("something was done:", q.Len())
	}
	put(t, q, api.Low, 1)
	if e := q.Put(0, event(2, true, 1)); e != api.ErrArg { // whether there is room or not
		t.Error(e)
	}
	if len(q.Band(0)) != 0 || len(q.Band(4)) != 0 {
		t.Error("none waits where there is no priority")
	}
}

func TestTake(t *testing.T) {
	q := band.New([3]int{3, 3, 3})
	put(t, q, api.Low, 1, 2)
	put(t, q, api.Medium, 3, 4)
	put(t, q, api.High, 5, 6)
	wantTaken(t, q, 5, api.High)
	put(t, q, api.High, 7)
	wantTaken(t, q, 6, api.High)
	wantTaken(t, q, 7, api.High)
	wantTaken(t, q, 3, api.Medium)
	put(t, q, api.High, 8)
	wantTaken(t, q, 8, api.High)
	wantTaken(t, q, 4, api.Medium)
	wantTaken(t, q, 1, api.Low)
	wantTaken(t, q, 2, api.Low)
	wantNone(t, q)
	wantNone(t, q)
}

func TestTakeTellsTheEvent(t *testing.T) {
	q := band.New([3]int{1, 1, 1})
	want := event(-3, true, -7) // any number is one; a queue asks for none of them
	q.Put(api.Low, want)
	if e, p, ok := q.Take(); e != want || p != api.Low || !ok {
		t.Error(e, p, ok)
	}
}

func TestBandIsNew(t *testing.T) {
	q := band.New([3]int{2, 2, 2})
	put(t, q, api.Low, 1)
	l, again := q.Band(api.Low), q.Band(api.Low)
	l[0].Rule = 9
	if again[0].Rule != 1 {
		t.Error("two answers share")
	}
	wantRules(t, q, api.Low, 1)
	q.Put(api.Low, event(1, false, 5))
	if !again[0].On {
		t.Error("an answer changes behind the call")
	}
}

func TestNil(t *testing.T) {
	var q *band.Queue
	for priority := byte(api.Low); priority <= api.High; priority++ {
		if e := q.Put(priority, event(1, true, 1)); e != api.ErrNone {
			t.Errorf("Put(%d): %v", priority, e)
		}
		wantRules(t, q, priority)
	}
	if e := q.Put(0, event(1, true, 1)); e != api.ErrArg { // both hold, and this one is named first
		t.Error(e)
	}
	wantNone(t, q)
	if q.Len() != 0 || len(q.Band(0)) != 0 {
		t.Error("Len:", q.Len())
	}
}

// model is the bands as lists, the oldest first.
type model struct {
	rooms [3]int
	bands [3][]api.Event
}

func (m *model) put(priority byte, e api.Event) api.Errno {
	if priority < api.Low || priority > api.High {
		return api.ErrArg
	}
	b := &m.bands[priority-1]
	if i := slices.IndexFunc(*b, func(x api.Event) bool { return x.Rule == e.Rule }); i >= 0 {
		(*b)[i] = e
		return api.OK
	}
	if len(*b) >= m.rooms[priority-1] {
		return api.ErrFull
	}
	*b = append(*b, e)
	return api.OK
}

func (m *model) take() (api.Event, byte, bool) {
	for i := 2; i >= 0; i-- {
		if b := m.bands[i]; len(b) > 0 {
			m.bands[i] = b[1:]
			return b[0], byte(i + 1), true
		}
	}
	return api.Event{}, 0, false
}

func TestAgainstModel(t *testing.T) {
	draw := rand.New(rand.NewSource(2))
	for round := range 60 {
		rooms := [3]int{draw.Intn(5), draw.Intn(5), draw.Intn(5)}
		q, m := band.New(rooms), &model{rooms: rooms}
		for n := range 300 {
			if draw.Intn(5) < 3 {
				p, e := byte(draw.Intn(5)), event(draw.Intn(6), draw.Intn(2) == 0, int64(n))
				if got, want := q.Put(p, e), m.put(p, e); got != want {
					t.Fatalf("round %d, step %d: Put(%d, %v): %v, want %v", round, n, p, e, got, want)
				}
			} else {
				e, p, ok := q.Take()
				if we, wp, wok := m.take(); e != we || p != wp || ok != wok {
					t.Fatalf("round %d, step %d: Take: %v %d %t, want %v %d %t", round, n, e, p, ok, we, wp, wok)
				}
			}
			all := 0
			for i, room := range rooms {
				l := q.Band(byte(i + 1))
				all += len(l)
				if !slices.Equal(l, m.bands[i]) || len(l) > room {
					t.Fatalf("round %d, step %d: Band(%d): %v, want %v", round, n, i+1, l, m.bands[i])
				}
			}
			if q.Len() != all {
				t.Fatalf("round %d, step %d: Len %d, want %d", round, n, q.Len(), all)
			}
		}
	}
}
