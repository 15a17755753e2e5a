// Package band is events that wait, by priority.
package band

import (
	"handbell/api"
	"handbell/ring"
)

// Queue is a band for each priority, from Low on.
type Queue struct {
	bands [3]*ring.Ring[api.Event]
}

// New: with so much room in each.
func New(rooms [3]int) *Queue {
	q := &Queue{}
	for i, room := range rooms {
		q.bands[i] = ring.New[api.Event](room)
	}
	return q
}

// Put: an event; in the place of one of its rule.
func (q *Queue) Put(priority byte, e api.Event) api.Errno {
	if !isPriority(priority) { // named first, so it holds of a nil queue, too
		return api.ErrArg
	}
	if q == nil {
		return api.ErrNone
	}
	b := q.band(priority)
	if replace(b, e) || b.Push(e) {
		return api.OK
	}
	return api.ErrFull
}

// Take: the oldest of the highest band.
func (q *Queue) Take() (api.Event, byte, bool) {
	for priority := byte(api.High); priority >= api.Low; priority-- {
		if e, ok := q.band(priority).Pop(); ok {
			return e, priority, true
		}
	}
	return api.Event{}, 0, false
}

// Band: who waits there.
func (q *Queue) Band(priority byte) []api.Event { return q.band(priority).All() }

// Len: how many wait.
func (q *Queue) Len() int {
	n := 0
	for priority := byte(api.Low); priority <= api.High; priority++ {
		n += q.band(priority).Len()
	}
	return n
}

// band: the priority's; nil, which is a ring without any, where there is none.
func (q *Queue) band(priority byte) *ring.Ring[api.Event] {
	if q == nil || !isPriority(priority) {
		return nil
	}
	return q.bands[priority-api.Low]
}

func isPriority(priority byte) bool { return api.Low <= priority && priority <= api.High }

// replace: the event of e's rule that waits in b is e now; false: none waits.
func replace(b *ring.Ring[api.Event], e api.Event) bool {
	for i := range b.Len() {
		if old, _ := b.At(i); old.Rule == e.Rule {
			return b.Set(i, e)
		}
	}
	return false
}
