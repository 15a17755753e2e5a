package intake_test

import (
	"math/rand"
	"slices"
	"testing"

	"handbell/api"
	"handbell/intake"
)

// plain is who waits in one list, by when they came, what was told last, and when each was refused.
type plain struct {
	c       api.Config
	waiting []api.Event
	told    map[int]int
	refused []int64
}

func newPlain(c api.Config) *plain { return &plain{c: c, told: map[int]int{}} }

func (p *plain) priority(rule int) byte { return p.c.Rules[rule].Priority }

func (p *plain) count(priority byte) int {
	many := 0
	for _, e := range p.waiting {
		if p.priority(e.Rule) == priority {
			many++
		}
	}
	return many
}

func (p *plain) offer(now int64, rule int, on bool) bool {
	state := 0
	if on {
		state = 1
	}
	if rule < 0 || rule >= len(p.c.Rules) || p.told[rule] == state {
		return true
	}
	priority := p.priority(rule)
	at := slices.IndexFunc(p.waiting, func(e api.Event) bool { return e.Rule == rule })
	switch {
	case at >= 0:
		p.waiting[at] = event(rule, on, now)
	case p.count(priority) < p.c.Bands[priority-1]:
		p.waiting = append(p.waiting, event(rule, on, now))
	default:
		p.refused = append(p.refused, now)
		return false
	}
	p.told[rule] = state
	return true
}

// drain goes through all that wait for each single one.
func (p *plain) drain() []api.Event {
	var gone []api.Event
	for range p.c.Drain {
		best := -1
		for i, e := range p.waiting {
			if best < 0 || p.priority(e.Rule) > p.priority(p.waiting[best].Rule) {
				best = i
			}
		}
		if best < 0 {
			break
		}
		gone = append(gone, p.waiting[best])
		p.waiting = slices.Delete(p.waiting, best, best+1)
	}
	return gone
}

func (p *plain) over(now int64) bool {
	for _, at := range p.refused {
		if since(now, at) < int64(len(p.c.Table)) {
			return true
		}
	}
	return false
}

func drawConfig(draw *rand.Rand) api.Config {
	var rooms [3]int
	for i := range rooms {
		rooms[i] = 1 + draw.Intn(1+draw.Intn(8))
	}
	priorities := make([]byte, 1+draw.Intn(12))
	for i := range priorities {
		priorities[i] = byte(1 + draw.Intn(3))
	}
	return slots(config(rooms, 1+draw.Intn(1+draw.Intn(6)), priorities...), 1+draw.Intn(7))
}

func wantPlain(t *testing.T, n *intake.Intake, p *plain, now int64) {
	t.Helper()
	wantCounts(t, n, p.count(1), p.count(2), p.count(3), len(p.refused))
	for _, at := range []int64{now - 3, now, now + 1, now + int64(len(p.c.Table))} {
		wantOver(t, n, at, p.over(at))
	}
	if t.Failed() {
		t.Fatalf("at %d of %+v: want %+v", now, p.c, p)
	}
}

// step offers some, of which a few aren't rules, and then drains most of the time.
func step(t *testing.T, draw *rand.Rand, n *intake.Intake, p *plain, now int64) {
	t.Helper()
	for range draw.Intn(2 * len(p.c.Rules)) {
		rule, on := draw.Intn(len(p.c.Rules)+2)-1, draw.Intn(2) == 0
		wantOffer(t, n, now, rule, on, p.offer(now, rule, on))
		wantPlain(t, n, p, now)
	}
	if draw.Intn(4) > 0 {
		wantDrain(t, n, p.drain()...)
	}
	wantPlain(t, n, p, now)
}

func TestTickByTick(t *testing.T) {
	draw := rand.New(rand.NewSource(18))
	for range 300 {
		c := drawConfig(draw)
		n, p := intake.New(c), newPlain(c)
		start := []int64{0, 1000, most - 40}[draw.Intn(3)]
		for now := start; now < start+40; now++ {
			step(t, draw, n, p, now)
		}
	}
}

// Times that come in any order are as good as others.
func TestTimesInAnyOrder(t *testing.T) {
	draw := rand.New(rand.NewSource(81))
	for range 100 {
		c := drawConfig(draw)
		n, p := intake.New(c), newPlain(c)
		for range 40 {
			step(t, draw, n, p, int64(draw.Intn(30)))
		}
	}
}

// No band ever has more than its room, and what is drained is no more than Drain.
func TestBounds(t *testing.T) {
	draw := rand.New(rand.NewSource(180))
	for range 100 {
		c := drawConfig(draw)
		n := intake.New(c)
		for now := range int64(100) {
			n.Offer(now, draw.Intn(len(c.Rules)), draw.Intn(2) == 0)
			for i, many := range n.Waiting() {
				if many > c.Bands[i] {
					t.Fatalf("%d wait where there is room for %d", many, c.Bands[i])
				}
			}
			if now%5 == 0 {
				if many := len(n.Drain()); many > c.Drain {
					t.Fatalf("%d went, of a Drain of %d", many, c.Drain)
				}
			}
		}
	}
}

// In full: with rooms for all of them, and a table all of whose events go in
// time, none is refused, and each rule's events are told in turn: on, off, on.
func TestToldInTurn(t *testing.T) {
	draw := rand.New(rand.NewSource(181))
	for range 60 {
		c := drawConfig(draw)
		c.Bands = [3]int{api.MaxBand, api.MaxBand, api.MaxBand}
		c.Drain = len(c.Rules)
		n, so := intake.New(c), make([]bool, len(c.Rules))
		for now := range int64(60) {
			rule := draw.Intn(len(c.Rules))
			wantOffer(t, n, now, rule, !so[rule], true)
			so[rule] = !so[rule]
			wantDrain(t, n, event(rule, so[rule], now))
		}
		wantCounts(t, n, 0, 0, 0, 0)
	}
}
