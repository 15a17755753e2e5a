package ring_test

import (
	"math"
	"math/rand"
	"slices"
	"testing"

	"handbell/ring"
)

// filled is a ring of that room into which all these were forced.
func filled(room int, all ...int) *ring.Ring[int] {
	r := ring.New[int](room)
	for _, x := range all {
		r.Force(x)
	}
	return r
}

func wantAll(t *testing.T, r *ring.Ring[int], want ...int) {
	t.Helper()
	if got := r.All(); !slices.Equal(got, want) {
		t.Errorf("All: %v, want %v", got, want)
	}
	if r.Len() != len(want) {
		t.Errorf("Len: %d, want %d", r.Len(), len(want))
	}
}

func TestExample(t *testing.T) {
	r := ring.New[int](2)
	if !r.Push(1) || !r.Push(2) || r.Push(3) {
		t.Error("Push 1, Push 2, Push 3: want true, true, false")
	}
	if x, ok := r.Force(4); x != 1 || !ok {
		t.Error("Force 4:", x, ok)
	}
	wantAll(t, r, 2, 4)
}

func TestRoom(t *testing.T) {
	for _, c := range []struct{ n, room int }{
		{math.MinInt, 0}, {-5, 0}, {-1, 0}, {0, 0}, {1, 1}, {2, 2}, {3, 3},
		{1023, 1023}, {1024, 1024}, {1025, 1024}, {5000, 1024}, {math.MaxInt, 1024},
	} {
		r := ring.New[int](c.n)
		if r.Cap() != c.room {
			t.Errorf("New(%d): Cap %d, want %d", c.n, r.Cap(), c.room)
		}
		wantAll(t, r)
		pushed := 0
		for pushed <= 2000 && r.Push(pushed) {
			pushed++
		}
		if pushed != c.room || r.Len() != c.room || r.Cap() != c.room {
			t.Errorf("New(%d): %d pushed, Len %d, Cap %d", c.n, pushed, r.Len(), r.Cap())
		}
		for i := range 1500 { // round and round, with no more there than there is room for
			r.Force(-i)
			if r.Len() != c.room || len(r.All()) != c.room {
				t.Fatalf("New(%d): Len %d behind Force", c.n, r.Len())
			}
		}
	}
}

func TestPush(t *testing.T) {
	r := ring.New[string](2)
	if !r.Push("a") || !r.Push("b") {
		t.Error("there was room")
	}
	if r.Push("c") || !slices.Equal(r.All(), []string{"a", "b"}) {
		t.Error("without room nothing is done:", r.All())
	}
	r.Pop()
	if !r.Push("d") || !slices.Equal(r.All(), []string{"b", "d"}) {
		t.Error("there was room again:", r.All())
	}
}

func TestPop(t *testing.T) {
	r := filled(3, 1, 2, 3, 4)
	for _, want := range []int{2, 3, 4} {
		if x, ok := r.Pop(); x != want || !ok {
			t.Error(x, ok, want)
		}
	}
	for range 2 {
		if x, ok := r.Pop(); x != 0 || ok {
			t.Error("of an empty one:", x, ok)
		}
		wantAll(t, r)
	}
	if !r.Push(9) {
		t.Error("an empty one has room")
	}
	wantAll(t, r, 9)
}

func TestForce(t *testing.T) {
	r := ring.New[int](2)
	for _, c := range []struct {
		x, gone int
		full    bool
		all     []int
	}{
		{7, 0, false, []int{7}},
		{8, 0, false, []int{7, 8}},
		{9, 7, true, []int{8, 9}},
		{7, 8, true, []int{9, 7}},
		{6, 9, true, []int{7, 6}},
	} {
		if gone, full := r.Force(c.x); gone != c.gone || full != c.full {
			t.Errorf("Force(%d): %d, %t", c.x, gone, full)
		}
		wantAll(t, r, c.all...)
	}
	r.Pop()
	if gone, full := r.Force(5); gone != 0 || full {
		t.Error("behind a Pop there is room:", gone, full)
	}
	wantAll(t, r, 6, 5)
}

func TestNoRoom(t *testing.T) {
	for _, n := range []int{0, -1, -7} {
		r := ring.New[int](n)
		if r.Push(1) || r.Set(0, 1) {
			t.Error("there is no room, and none is there")
		}
		if x, ok := r.Force(7); x != 7 || !ok {
			t.Error("Force:", x, ok)
		}
		if x, ok := r.Pop(); x != 0 || ok {
			t.Error("Pop:", x, ok)
		}
		if x, ok := r.At(0); x != 0 || ok {
			t.Error("At:", x, ok)
		}
		wantAll(t, r)
	}
}

func TestPlaces(t *testing.T) {
	r := filled(4, 1, 2, 3, 4, 5, 6)
	r.Pop() // three of four places are taken, and they go round: 4, 5, 6
	for i, want := range []int{4, 5, 6} {
		if x, ok := r.At(i); x != want || !ok {
			t.Error(i, x, ok)
		}
	}
	for _, i := range []int{-1, 3, 4, 5, -4, math.MinInt, math.MaxInt} {
		if x, ok := r.At(i); x != 0 || ok {
			t.Error("no such place:", i, x, ok)
		}
		if r.Set(i, 99) {
			t.Error("no such place:", i)
		}
	}
	wantAll(t, r, 4, 5, 6)
	for i := range 3 {
		if !r.Set(i, 10+i) {
			t.Error(i)
		}
	}
	wantAll(t, r, 10, 11, 12)
	if x, ok := r.Pop(); x != 10 || !ok {
		t.Error(x, ok)
	}
}

func TestAllIsNew(t *testing.T) {
	r := filled(3, 1, 2)
	all, again := r.All(), r.All()
	all[0] = 99
	all = append(all, 98)
	if again[0] != 1 {
		t.Error("two answers share", again, all)
	}
	wantAll(t, r, 1, 2)
	r.Push(3)
	r.Set(1, 20)
	if again[1] != 2 {
		t.Error("an answer changes behind the call")
	}
}

func TestNil(t *testing.T) {
	var r *ring.Ring[int]
	if r.Push(1) || r.Set(0, 1) || r.Len() != 0 || r.Cap() != 0 || len(r.All()) != 0 {
		t.Error("of a nil ring: false, 0, nothing")
	}
	if x, ok := r.Pop(); x != 0 || ok {
		t.Error("Pop:", x, ok)
	}
	if x, ok := r.Force(7); x != 0 || ok {
		t.Error("Force:", x, ok)
	}
	for _, i := range []int{-1, 0, 1} {
		if x, ok := r.At(i); x != 0 || ok {
			t.Error("At:", i, x, ok)
		}
	}
}

func TestAnyType(t *testing.T) {
	type pair struct {
		name string
		n    []int
	}
	r := ring.New[pair](1)
	r.Push(pair{"a", []int{1}})
	if gone, full := r.Force(pair{"b", nil}); gone.name != "a" || len(gone.n) != 1 || !full {
		t.Error(gone, full)
	}
	e := ring.New[error](1)
	if !e.Push(nil) || e.Len() != 1 {
		t.Error("a nil is one, too")
	}
	z := ring.New[struct{}](2)
	if !z.Push(struct{}{}) || !z.Push(struct{}{}) || z.Push(struct{}{}) || z.Len() != 2 {
		t.Error("what has no size has room, too")
	}
}

// model is a ring without a place to begin: a list, the oldest first.
type model struct {
	room int
	all  []int
}

func (m *model) push(x int) bool {
	if len(m.all) >= m.room {
		return false
	}
	m.all = append(m.all, x)
	return true
}

func (m *model) pop() (int, bool) {
	if len(m.all) == 0 {
		return 0, false
	}
	x := m.all[0]
	m.all = m.all[1:]
	return x, true
}

func (m *model) force(x int) (int, bool) {
	if m.room == 0 {
		return x, true
	}
	if m.push(x) {
		return 0, false
	}
	gone, _ := m.pop()
	m.push(x)
	return gone, true
}

func (m *model) at(i int) (int, bool) {
	if i < 0 || i >= len(m.all) {
		return 0, false
	}
	return m.all[i], true
}

func (m *model) set(i, x int) bool {
	_, ok := m.at(i)
	if ok {
		m.all[i] = x
	}
	return ok
}

func TestAgainstModel(t *testing.T) {
	draw := rand.New(rand.NewSource(1))
	for room := range 7 {
		r, m := ring.New[int](room), &model{room: room}
		for n := range 3000 {
			i, x := draw.Intn(room+3)-1, n+1
			var got, want int
			var ok, right bool
			switch draw.Intn(5) {
			case 0:
				ok, right = r.Push(x), m.push(x)
			case 1:
				got, ok = r.Pop()
				want, right = m.pop()
			case 2:
				got, ok = r.Force(x)
				want, right = m.force(x)
			case 3:
				got, ok = r.At(i)
				want, right = m.at(i)
			case 4:
				ok, right = r.Set(i, x), m.set(i, x)
			}
			if got != want || ok != right {
				t.Fatalf("room %d, step %d: %d %t, want %d %t", room, n, got, ok, want, right)
			}
			wantAll(t, r, m.all...)
		}
	}
}
