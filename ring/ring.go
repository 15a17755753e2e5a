// Package ring is room for so many, the oldest first.
package ring

// mostRoom bounds what a single ring may ever hold.
const mostRoom = 1024

// Ring is what there is, from a place on, round its room.
type Ring[T any] struct {
	room, first, count int
	items              []T
}

// New: without any.
func New[T any](n int) *Ring[T] {
	return &Ring[T]{room: min(max(n, 0), mostRoom)}
}

// Len: how many there are.
func (r *Ring[T]) Len() int {
	if r == nil {
		return 0
	}
	return r.count
}

// Cap: for how many there is room.
func (r *Ring[T]) Cap() int {
	if r == nil {
		return 0
	}
	return r.room
}

// Push: the newest; false: there is no room.
func (r *Ring[T]) Push(x T) bool {
	if r.Len() == r.Cap() {
		return false
	}
	// Items grow as they are needed, for room alone must cost nothing: the
	// places are taken in turn, so the next one is at most just behind them.
	if at := r.place(r.count); at < len(r.items) {
		r.items[at] = x
	} else {
		r.items = append(r.items, x)
	}
	r.count++
	return true
}

// Pop: the oldest goes.
func (r *Ring[T]) Pop() (T, bool) {
	var none T
	if r.Len() == 0 {
		return none, false
	}
	oldest := r.items[r.first]
	r.items[r.first] = none // what is gone isn't kept from the collector
	r.first = r.place(1)
	r.count--
	return oldest, true
}

// Force: the newest; the oldest goes, if there is no room.
func (r *Ring[T]) Force(x T) (T, bool) {
	var none T
	if r == nil {
		return none, false
	}
	if r.room == 0 {
		return x, true
	}
	if r.Push(x) {
		return none, false
	}
	oldest, _ := r.Pop()
	r.Push(x)
	return oldest, true
}

// At: the i-th.
func (r *Ring[T]) At(i int) (T, bool) {
	if !r.has(i) {
		var none T
		return none, false
	}
	return r.items[r.place(i)], true
}

// Set: the i-th is another one.
func (r *Ring[T]) Set(i int, x T) bool {
	if !r.has(i) {
		return false
	}
	r.items[r.place(i)] = x
	return true
}

// All: in order.
func (r *Ring[T]) All() []T {
	all := make([]T, r.Len())
	for i := range r.Len() {
		all[i] = r.items[r.place(i)]
	}
	return all
}

// has: is there one at the place i?
func (r *Ring[T]) has(i int) bool { return 0 <= i && i < r.Len() }

// place: where the i-th stands among the items; of a ring with room alone.
func (r *Ring[T]) place(i int) int { return (r.first + i) % r.room }
