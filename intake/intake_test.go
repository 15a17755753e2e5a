package intake_test

import (
	"math"
	"slices"
	"testing"

	"handbell/api"
	"handbell/intake"
)

const (
	most  = int64(api.MaxTick)
	last  = int64(math.MaxInt64)
	least = int64(math.MinInt64)
)

// config has a rule of each of these priorities, bands of these rooms, and a slot in which all the rules stand.
func config(rooms [3]int, drain int, priorities ...byte) api.Config {
	c := api.Config{Bands: rooms, Drain: drain}
	var slot []int
	for i, priority := range priorities {
		c.Rules = append(c.Rules, api.Rule{Priority: priority})
		slot = append(slot, i)
	}
	c.Table = [][]int{slot}
	return c
}

// slots is the same with so many of them.
func slots(c api.Config, many int) api.Config {
	c.Table = slices.Clone(c.Table)
	for len(c.Table) < many {
		c.Table = append(c.Table, nil)
	}
	return c
}

func event(rule int, on bool, at int64) api.Event { return api.Event{Rule: rule, On: on, At: at} }

func wantOffer(t *testing.T, n *intake.Intake, now int64, rule int, on, want bool) {
	t.Helper()
	if got := n.Offer(now, rule, on); got != want {
		t.Errorf("Offer(%d, %d, %t): %t, want %t", now, rule, on, got, want)
	}
}

func wantDrain(t *testing.T, n *intake.Intake, want ...api.Event) {
	t.Helper()
	if got := n.Drain(); !slices.Equal(got, want) {
		t.Errorf("Drain: %v, want %v", got, want)
	}
}

func wantOver(t *testing.T, n *intake.Intake, now int64, want bool) {
	t.Helper()
	if got := n.Over(now); got != want {
		t.Errorf("Over(%d): %t, want %t", now, got, want)
	}
}

// wantCounts: so many wait in each band, and so many were refused.
func wantCounts(t *testing.T, n *intake.Intake, low, medium, high, refused int) {
	t.Helper()
	if got := n.Waiting(); got != [3]int{low, medium, high} {
		t.Errorf("Waiting: %v, want %d %d %d", got, low, medium, high)
	}
	if got := n.Refused(); got != refused {
		t.Errorf("Refused: %d, want %d", got, refused)
	}
}

func TestExample(t *testing.T) {
	n := intake.New(config([3]int{1, 1, 1}, 3, api.Low, api.Low))
	wantOffer(t, n, 3, 0, true, true)
	wantOffer(t, n, 3, 1, true, false)
	wantOver(t, n, 3, true)
	wantCounts(t, n, 1, 0, 0, 1)
}

func TestNothingYet(t *testing.T) {
	n := intake.New(config([3]int{1, 1, 1}, 3, api.Low, api.High))
	wantDrain(t, n)
	wantOver(t, n, 0, false)
	wantCounts(t, n, 0, 0, 0, 0)
}

// One of off is what was told of a rule at first, so no event is made of it.
func TestOffAtFirst(t *testing.T) {
	for _, priority := range []byte{api.Low, api.Medium, api.High} {
		n := intake.New(config([3]int{1, 1, 1}, 1, priority))
		wantOffer(t, n, 1, 0, false, true)
		wantOffer(t, n, 2, 0, false, true)
		wantCounts(t, n, 0, 0, 0, 0)
		wantDrain(t, n)
	}
}

func TestToldAlready(t *testing.T) {
	n := intake.New(config([3]int{1, 1, 1}, 1, api.Medium))
	wantOffer(t, n, 1, 0, true, true)
	wantOffer(t, n, 5, 0, true, true)
	wantCounts(t, n, 0, 1, 0, 0)
	wantDrain(t, n, event(0, true, 1)) // it is the first one, whose time didn't change
	wantOffer(t, n, 6, 0, true, true)  // it waits no more, but was told
	wantDrain(t, n)
	wantOffer(t, n, 7, 0, false, true)
	wantOffer(t, n, 8, 0, false, true)
	wantDrain(t, n, event(0, false, 7))
	wantOffer(t, n, 9, 0, false, true)
	wantDrain(t, n)
	wantOffer(t, n, 10, 0, true, true)
	wantDrain(t, n, event(0, true, 10))
}

// What was told of a rule says nothing of another one.
func TestToldOfEachRule(t *testing.T) {
	n := intake.New(config([3]int{4, 4, 4}, 9, api.Low, api.Low, api.Low))
	wantOffer(t, n, 1, 1, true, true)
	wantOffer(t, n, 2, 0, false, true)
	wantOffer(t, n, 2, 2, false, true)
	wantOffer(t, n, 3, 2, true, true)
	wantOffer(t, n, 4, 0, true, true)
	wantOffer(t, n, 5, 1, false, true)
	wantDrain(t, n, event(1, false, 5), event(2, true, 3), event(0, true, 4))
}

func TestBandOfThePriority(t *testing.T) {
	for _, x := range []struct {
		priority byte
		waiting  [3]int
	}{{api.Low, [3]int{1, 0, 0}}, {api.Medium, [3]int{0, 1, 0}}, {api.High, [3]int{0, 0, 1}}} {
		n := intake.New(config(x.waiting, 1, x.priority)) // there is room in that band alone
		wantOffer(t, n, 4, 0, true, true)
		wantCounts(t, n, x.waiting[0], x.waiting[1], x.waiting[2], 0)
		wantDrain(t, n, event(0, true, 4))
		wantCounts(t, n, 0, 0, 0, 0)
	}
}

func TestRoomsOfEachBand(t *testing.T) {
	rooms := [3]int{3, 1, 2}
	var priorities []byte
	for range 4 {
		priorities = append(priorities, api.Low, api.Medium, api.High)
	}
	n := intake.New(config(rooms, 1, priorities...))
	var offered [3]int
	for rule := range priorities {
		band := rule % 3
		wantOffer(t, n, 1, rule, true, offered[band] < rooms[band])
		offered[band]++
	}
	wantCounts(t, n, 3, 1, 2, 6)
}

// The highest first; of one priority, the oldest.
func TestDrainOrder(t *testing.T) {
	n := intake.New(config([3]int{2, 2, 2}, 9, api.Low, api.Medium, api.High, api.High, api.Medium, api.Low))
	for i, rule := range []int{5, 4, 0, 3, 1, 2} {
		wantOffer(t, n, int64(i), rule, true, true)
	}
	wantDrain(t, n, event(3, true, 3), event(2, true, 5), event(4, true, 1), event(1, true, 4), event(5, true, 0), event(0, true, 2))
	wantDrain(t, n)
}

func TestDrainSoMany(t *testing.T) {
	for _, drain := range []int{1, 2, 3, 4, 5, 6, 64, math.MaxInt} {
		n := intake.New(config([3]int{5, 5, 5}, drain, api.Low, api.Low, api.Low, api.Low, api.Low))
		var left []api.Event
		for rule := range 5 {
			wantOffer(t, n, 7, rule, true, true)
			left = append(left, event(rule, true, 7))
		}
		for len(left) > 0 {
			some := min(drain, len(left))
			wantDrain(t, n, left[:some]...)
			left = left[some:]
			wantCounts(t, n, len(left), 0, 0, 0)
		}
		wantDrain(t, n)
	}
}

// So many in all, not so many of each band; and what comes between goes ahead, if it is higher.
func TestDrainAcrossBands(t *testing.T) {
	n := intake.New(config([3]int{2, 2, 2}, 2, api.Low, api.Medium, api.High, api.High))
	for rule := range 3 {
		wantOffer(t, n, 1, rule, true, true)
	}
	wantDrain(t, n, event(2, true, 1), event(1, true, 1))
	wantCounts(t, n, 1, 0, 0, 0)
	wantOffer(t, n, 2, 3, true, true)
	wantOffer(t, n, 2, 2, false, true)
	wantDrain(t, n, event(3, true, 2), event(2, false, 2))
	wantDrain(t, n, event(0, true, 1))
}

// The event that waits is the new one, in its place: the other is never told.
func TestOneOfTheRuleWaits(t *testing.T) {
	n := intake.New(config([3]int{1, 1, 3}, 9, api.High, api.High, api.High))
	for rule := range 3 {
		wantOffer(t, n, 1, rule, true, true)
	}
	wantOffer(t, n, 2, 1, false, true) // the band is full, but there is room in that place
	wantOffer(t, n, 3, 0, false, true)
	wantOffer(t, n, 4, 0, true, true)
	wantCounts(t, n, 0, 0, 3, 0)
	wantOver(t, n, 4, false)
	wantDrain(t, n, event(0, true, 4), event(1, false, 2), event(2, true, 1))
	wantOffer(t, n, 5, 1, false, true) // what was told last is that which stood in its place
	wantOffer(t, n, 5, 0, true, true)
	wantDrain(t, n)
}

func TestRefusedIsOfferedAnew(t *testing.T) {
	n := intake.New(config([3]int{1, 1, 1}, 1, api.Medium, api.Medium))
	wantOffer(t, n, 1, 0, true, true)
	wantOffer(t, n, 1, 1, true, false)
	wantOffer(t, n, 2, 1, true, false) // it wasn't told, so it is refused again
	wantCounts(t, n, 0, 1, 0, 2)
	wantDrain(t, n, event(0, true, 1)) // of what is refused nothing waits
	wantOffer(t, n, 3, 1, true, true)
	wantCounts(t, n, 0, 1, 0, 2)
	wantDrain(t, n, event(1, true, 3))
	wantOffer(t, n, 4, 1, true, true)
	wantDrain(t, n)
}

// What is refused leaves told what was: off of a first on, on of an off.
func TestToldBehindARefusal(t *testing.T) {
	n := intake.New(config([3]int{1, 1, 1}, 1, api.Low, api.Low))
	wantOffer(t, n, 1, 0, true, true)
	wantOffer(t, n, 1, 1, true, false)
	wantOffer(t, n, 2, 1, false, true) // as at first
	wantCounts(t, n, 1, 0, 0, 1)
	wantDrain(t, n, event(0, true, 1))
	wantOffer(t, n, 3, 1, true, true)
	wantOffer(t, n, 4, 0, false, false)
	wantOffer(t, n, 5, 0, true, true) // it is on still
	wantCounts(t, n, 1, 0, 0, 2)
	wantDrain(t, n, event(1, true, 3))
	wantOffer(t, n, 6, 0, false, true)
	wantDrain(t, n, event(0, false, 6))
}

// A full band refuses its own alone.
func TestAnotherBandIsFull(t *testing.T) {
	n := intake.New(config([3]int{1, 1, 1}, 1, api.Low, api.Low, api.High, api.Medium))
	wantOffer(t, n, 1, 0, true, true)
	wantOffer(t, n, 1, 2, true, true)
	wantOffer(t, n, 1, 3, true, true)
	wantOffer(t, n, 1, 1, true, false)
	wantCounts(t, n, 1, 1, 1, 1)
	wantDrain(t, n, event(2, true, 1))
	wantOffer(t, n, 2, 1, true, false)
	wantDrain(t, n, event(3, true, 1))
	wantOffer(t, n, 3, 1, true, false)
	wantDrain(t, n, event(0, true, 1))
	wantOffer(t, n, 4, 1, true, true)
	wantCounts(t, n, 1, 0, 0, 3)
}

// refusing has so many slots, and refused at these times.
func refusing(many int, times ...int64) *intake.Intake {
	n := intake.New(slots(config([3]int{1, 1, 1}, 1, api.High, api.High), many))
	n.Offer(0, 0, true)
	for _, now := range times {
		n.Offer(now, 1, true)
	}
	return n
}

func TestOverEnds(t *testing.T) {
	for many := 1; many <= api.MaxSlots; many++ {
		n := refusing(many, 100)
		for now := int64(100); now < 300; now++ {
			wantOver(t, n, now, now < 100+int64(many))
		}
		wantOver(t, n, last, false)
		wantCounts(t, n, 0, 0, 1, 1)
	}
}

// Of a time that is earlier than the refusal, layer 3's Since is 0.
func TestOverEarlier(t *testing.T) {
	for _, many := range []int{1, 2, 64} {
		n := refusing(many, 100)
		for _, now := range []int64{least, -1, 0, 99} {
			wantOver(t, n, now, true)
		}
	}
}

func TestOverNeverRefused(t *testing.T) {
	n := intake.New(slots(config([3]int{1, 1, 1}, 1, api.High, api.Low), 64))
	for _, now := range times() {
		wantOver(t, n, now, false)
	}
	wantOffer(t, n, 0, 0, true, true)
	wantOffer(t, n, 0, 1, true, true)
	wantOffer(t, n, 0, 7, true, true)
	for _, now := range times() {
		wantOver(t, n, now, false)
	}
}

// A later refusal begins it anew; one that is told of an earlier time ends none.
func TestOverOfSeveral(t *testing.T) {
	for _, refused := range [][]int64{{10, 12}, {12, 10}, {12, 12}, {12, 3, 11}, {3, 12, 10}} {
		n := refusing(3, refused...)
		wantOver(t, n, 10, true)
		wantOver(t, n, 12, true)
		wantOver(t, n, 14, true)
		wantOver(t, n, 15, false)
		wantCounts(t, n, 0, 0, 1, len(refused))
	}
	n := refusing(3, 10)
	wantOver(t, n, 13, false)
	wantOffer(t, n, 20, 1, true, false)
	wantOver(t, n, 22, true)
	wantOver(t, n, 23, false)
}

// That there is room again ends it no sooner.
func TestOverWithRoomAgain(t *testing.T) {
	n := refusing(3, 10)
	wantDrain(t, n, event(0, true, 0))
	wantOffer(t, n, 11, 1, true, true)
	wantOver(t, n, 12, true)
	wantOver(t, n, 13, false)
	wantCounts(t, n, 0, 0, 1, 1)
}

// Being asked changes nothing.
func TestAskedAgain(t *testing.T) {
	n := refusing(2, 10, 10)
	for range 3 {
		wantOver(t, n, 11, true)
		wantOver(t, n, 12, false)
		wantCounts(t, n, 0, 0, 1, 2)
	}
	wantDrain(t, n, event(0, true, 0))
}
