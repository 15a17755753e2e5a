package table_test

import (
	"math/rand"
	"slices"
	"testing"

	"handbell/api"
	"handbell/band"
	"handbell/table"
)

// drawConfig is one that keeps the rules 11 to 13 of layer 7: each rule stands
// in a slot, and may stand in more.
func drawConfig(draw *rand.Rand) api.Config {
	slots := 1 + draw.Intn(9)
	if draw.Intn(8) == 0 {
		slots = 1 + draw.Intn(api.MaxSlots)
	}
	c := config(1+draw.Intn(8), make([][]int, slots)...)
	seldom := 1 + draw.Intn(6) // how seldom a rule stands in a slot more
	for rule := range c.Rules {
		c.Rules[rule].Delay = int64(draw.Intn(4) * draw.Intn(50))
		c.Rules[rule].Priority = byte(api.Low + draw.Intn(3))
		must := draw.Intn(slots)
		for at := range c.Table {
			if at == must || draw.Intn(seldom) == 0 && seldom < 6 {
				c.Table[at] = append(c.Table[at], rule)
			}
		}
	}
	for _, slot := range c.Table {
		draw.Shuffle(len(slot), func(i, j int) { slot[i], slot[j] = slot[j], slot[i] })
	}
	return c
}

// looks are the ticks at which each rule is looked at, gone through slot by slot.
func looks(c api.Config, rounds int) (all [][]int64, now int64) {
	all = make([][]int64, len(c.Rules))
	for range rounds {
		for _, slot := range c.Table {
			now++
			for _, rule := range slot {
				all[rule] = append(all[rule], now)
			}
		}
	}
	return all, now
}

// told are the ticks, up to one, at which Slot tells that each rule is looked at.
func told(c api.Config, end int64) [][]int64 {
	all := make([][]int64, len(c.Rules))
	for now := int64(-5); now <= end; now++ {
		for _, rule := range table.Slot(c, now) {
			all[rule] = append(all[rule], now)
		}
	}
	return all
}

func TestAgainstModel(t *testing.T) {
	draw := rand.New(rand.NewSource(14))
	round, within := 0, 0 // how often the gap across the end is the greatest, and how often it isn't
	for range 2000 {
		c := drawConfig(draw)
		all, end := looks(c, 4)
		if got := told(c, end); !slices.EqualFunc(got, all, slices.Equal) {
			t.Fatalf("%v: looked at at %v, want %v", c.Table, got, all)
		}
		wait := int64(0)
		for range len(c.Rules) + 1 {
			wait += end / 4
		}
		wantWait(t, c, wait)
		for rule, ticks := range all {
			gap, inside := int64(0), int64(0)
			for i := 1; i < len(ticks); i++ {
				gap = max(gap, ticks[i]-ticks[i-1])
				if i < len(ticks)/4 {
					inside = gap
				}
			}
			if inside < gap {
				round++
			} else {
				within++
			}
			wantGap(t, c, rule, gap)
			wantBounds(t, c, rule, c.Rules[rule].Delay+gap+gap+wait, gap+wait)
		}
		if t.Failed() {
			return
		}
	}
	if min(round, within) < 500 {
		t.Errorf("across the end: %d, within: %d: too few to tell", round, within)
	}
}

// waiting is a queue, and since when each rule's event waits in it.
type waiting struct {
	q     *band.Queue
	since map[int]int64
	most  int64 // the most ticks that one waited
}

func (w *waiting) put(t *testing.T, c api.Config, rule int, now int64) {
	t.Helper()
	if e := w.q.Put(c.Rules[rule].Priority, api.Event{Rule: rule, At: now}); e != api.OK {
		t.Fatalf("Put of rule %d at %d: %v", rule, now, e)
	}
	if _, ok := w.since[rule]; !ok {
		w.since[rule] = now
	}
}

// drain takes as many as are taken at a tick, and then tells how long those that are left wait.
func (w *waiting) drain(c api.Config, now int64) {
	for range c.Drain {
		e, _, ok := w.q.Take()
		if !ok {
			break
		}
		w.most = max(w.most, now-w.since[e.Rule])
		delete(w.since, e.Rule)
	}
	for _, since := range w.since {
		w.most = max(w.most, now-since+1)
	}
}

// wait: events of the rules that are looked at are Put, and Drain of them Taken at each tick.
func wait(t *testing.T, c api.Config, ticks int64, puts func(rule int) bool) int64 {
	t.Helper()
	w := &waiting{q: band.New([3]int{32, 32, 32}), since: map[int]int64{}}
	for now := int64(1); now <= ticks; now++ {
		for _, rule := range table.Slot(c, now) {
			if puts(rule) {
				w.put(t, c, rule, now)
			}
		}
		w.drain(c, now)
	}
	return w.most
}

// wantWithin: no event waits for Wait, of as few Taken at a tick as layer 7's rule 15 allows.
func wantWithin(t *testing.T, c api.Config, puts func(rule int) bool) int64 {
	t.Helper()
	entries := 0
	for _, slot := range c.Table {
		entries += len(slot)
	}
	c.Drain = entries/len(c.Table) + 1
	bound := table.Wait(c)
	waited := wait(t, c, 3*bound, puts)
	if waited >= bound {
		t.Errorf("%v, Drain %d: one waits %d ticks, Wait is %d", c.Table, c.Drain, waited, bound)
	}
	return waited
}

func TestNoEventWaitsSoLong(t *testing.T) {
	draw := rand.New(rand.NewSource(15))
	for range 600 {
		c := drawConfig(draw)
		wantWithin(t, c, func(int) bool { return true })
		wantWithin(t, c, func(int) bool { return draw.Intn(3) > 0 })
	}
	// The lowest one waits while higher ones come in all slots but the last.
	c := config(6, []int{0, 1, 2, 3, 4, 5}, []int{1, 2, 3, 4, 5}, []int{1, 2, 3, 4, 5}, nil)
	for rule := range c.Rules {
		c.Rules[rule].Priority = api.High
	}
	c.Rules[0].Priority = api.Low
	if waited := wantWithin(t, c, func(int) bool { return true }); waited < 3 {
		t.Errorf("the lowest one waited %d ticks: too few to tell", waited)
	}
}
