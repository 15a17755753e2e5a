package hush_test

import (
	"math/rand"
	"testing"

	"handbell/hush"
)

// plain is a pause and an off, each as a count of how many ticks it may still last.
type plain struct {
	pause, off int64
	mark       byte
}

// passed: a tick later.
func (p plain) passed() plain {
	p.pause, p.off = max(p.pause-1, 0), max(p.off-1, 0)
	return p
}

// lasting: how many ticks one lasts that is begun for so many, of so many at most.
func lasting(ticks, bound int64) int64 {
	if ticks > bound {
		return bound
	}
	return ticks
}

// deed is what is done at a tick.
type deed struct {
	kind         int
	ticks, bound int64
	priority     byte
}

const (
	pauses = iota
	silences
	breaks
	kinds
)

func (d deed) toPlain(p plain) plain {
	switch {
	case d.kind == pauses && d.ticks > 0:
		p.pause, p.mark = lasting(d.ticks, d.bound), d.priority
	case d.kind == silences && d.ticks > 0:
		p.off = lasting(d.ticks, d.bound)
	case d.kind == breaks && p.pause > 0 && d.priority > p.mark:
		p.pause = 0
	}
	return p
}

func (d deed) toHush(h hush.Hush, now int64) hush.Hush {
	switch d.kind {
	case pauses:
		return h.Pause(now, d.ticks, d.bound, d.priority)
	case silences:
		return h.Silence(now, d.ticks, d.bound)
	case breaks:
		return h.Break(now, d.priority)
	}
	return h
}

// drawDeed is one of few ticks, about 0 and about its bound.
func drawDeed(draw *rand.Rand) deed {
	return deed{
		kind: draw.Intn(kinds), ticks: int64(draw.Intn(14) - 3), bound: int64(draw.Intn(9)), priority: byte(draw.Intn(4)),
	}
}

// wantPlain asks h at now, which may still last as p counts, and also what it will be at each tick to come.
func wantPlain(t *testing.T, h hush.Hush, now int64, p plain) {
	t.Helper()
	if h.Mark != p.mark {
		t.Fatalf("%+v at %d: want the mark %d", h, now, p.mark)
	}
	for ahead := range int64(12) {
		wantQuiet(t, h, now+ahead, ahead < p.pause, ahead < p.off)
	}
	if t.Failed() {
		t.Fatalf("%+v at %d, want %+v", h, now, p)
	}
}

// done does so many deeds at a tick, one behind the other.
func done(draw *rand.Rand, h hush.Hush, p plain, now int64, many int) (hush.Hush, plain) {
	for range many {
		d := drawDeed(draw)
		h, p = d.toHush(h, now), d.toPlain(p)
	}
	return h, p
}

func TestTickByTick(t *testing.T) {
	draw := rand.New(rand.NewSource(17))
	for range 400 {
		for _, start := range []int64{0, 1000, most - 100} {
			h, p := none(), plain{}
			for now := start; now < start+80; now++ {
				h, p = done(draw, h, p, now, max(draw.Intn(8)-5, 0))
				wantPlain(t, h, now, p)
				p = p.passed()
			}
		}
	}
}

// everyDeed is each kind, of ticks about 0 and about its bound, and of each priority.
func everyDeed() []deed {
	var deeds []deed
	for priority := range byte(3) {
		deeds = append(deeds, deed{kind: breaks, priority: priority})
		for _, ticks := range []int64{-1, 0, 1, 2, 3} {
			for _, bound := range []int64{0, 2} {
				deeds = append(deeds, deed{kind: pauses, ticks: ticks, bound: bound, priority: priority})
			}
		}
	}
	for _, ticks := range []int64{-1, 0, 1, 3, 4} {
		deeds = append(deeds, deed{kind: silences, ticks: ticks, bound: 3})
	}
	return deeds
}

// Any three deeds, with no tick, one or two between.
func TestEveryThreeDeeds(t *testing.T) {
	for _, first := range everyDeed() {
		for _, second := range everyDeed() {
			for _, third := range everyDeed() {
				for pause := range 3 {
					h, p, now := none(), plain{}, int64(6)
					for _, d := range []deed{first, second, third} {
						h, p = d.toHush(h, now), d.toPlain(p)
						wantPlain(t, h, now, p)
						for range pause {
							now, p = now+1, p.passed()
						}
					}
				}
			}
		}
	}
}

// Each ends within most ticks of the last time that it was begun, whatever
// else is done; that which wasn't begun never is so.
func TestEachEnds(t *testing.T) {
	draw := rand.New(rand.NewSource(18))
	for range 400 {
		bound := int64(draw.Intn(9))
		h, paused, off := none(), int64(-99), int64(-99) // when it was begun last
		for now := range int64(200) {
			d := drawDeed(draw)
			d.bound = bound
			if draw.Intn(4) > 0 {
				d.kind = breaks
			}
			h = d.toHush(h, now)
			if d.kind == pauses && d.ticks > 0 {
				paused = now
			}
			if d.kind == silences && d.ticks > 0 {
				off = now
			}
			if h.Paused(now) && now >= paused+bound || h.IsOff(now) && now >= off+bound {
				t.Fatalf("%+v at %d, begun at %d and %d for %d at most", h, now, paused, off, bound)
			}
			if h.Silent(now) && h.Silent(now+bound) {
				t.Fatalf("%+v at %d, for %d at most", h, now, bound)
			}
		}
	}
}

// What is asked for at each tick, for ever, is begun at each: it ends most ticks behind the last one.
func TestBegunAtEachTick(t *testing.T) {
	h := none()
	for now := range int64(50) {
		h = h.Pause(now, last, 7, 1).Silence(now, last, 5)
	}
	wantQuiet(t, h, 53, true, true)
	wantQuiet(t, h, 54, true, false)
	wantQuiet(t, h, 55, true, false)
	wantQuiet(t, h, 56, false, false)
}
