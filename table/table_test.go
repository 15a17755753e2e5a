package table_test

import (
	"math"
	"reflect"
	"slices"
	"testing"

	"handbell/api"
	"handbell/table"
)

const (
	most  = int64(api.MaxTick)
	last  = int64(math.MaxInt64)
	least = int64(math.MinInt64)
)

// config has so many rules, each without a delay, and these slots.
func config(rules int, slots ...[]int) api.Config {
	return api.Config{Rules: make([]api.Rule, rules), Table: slots}
}

// delayed is the same, with these delays, of the rules from 0 on.
func delayed(c api.Config, delays ...int64) api.Config {
	c.Rules = slices.Clone(c.Rules)
	for i, d := range delays {
		c.Rules[i].Delay = d
	}
	return c
}

// copied is a configuration that shares nothing with c.
func copied(c api.Config) api.Config {
	c.Signals, c.Rules, c.Table = slices.Clone(c.Signals), slices.Clone(c.Rules), slices.Clone(c.Table)
	for i := range c.Rules {
		c.Rules[i].Stages = slices.Clone(c.Rules[i].Stages)
	}
	for i := range c.Table {
		c.Table[i] = slices.Clone(c.Table[i])
	}
	return c
}

// wantAsItWas: no call wrote into what it was handed.
func wantAsItWas(t *testing.T, c, was api.Config) {
	t.Helper()
	if !reflect.DeepEqual(c, was) {
		t.Errorf("the configuration is %v, was %v", c, was)
	}
}

func wantSlot(t *testing.T, c api.Config, now int64, want ...int) {
	t.Helper()
	if got := table.Slot(c, now); !slices.Equal(got, want) {
		t.Errorf("Slot of %v at %d: %v, want %v", c.Table, now, got, want)
	}
}

func wantGap(t *testing.T, c api.Config, rule int, want int64) {
	t.Helper()
	if got := table.Gap(c, rule); got != want {
		t.Errorf("Gap of %v, rule %d: %d, want %d", c.Table, rule, got, want)
	}
}

func wantWait(t *testing.T, c api.Config, want int64) {
	t.Helper()
	if got := table.Wait(c); got != want {
		t.Errorf("Wait of %v, %d rules: %d, want %d", c.Table, len(c.Rules), got, want)
	}
}

// wantBounds: Late, and Gone.
func wantBounds(t *testing.T, c api.Config, rule int, late, gone int64) {
	t.Helper()
	if got := table.Late(c, rule); got != late {
		t.Errorf("Late of %v, rule %d: %d, want %d", c.Table, rule, got, late)
	}
	if got := table.Gone(c, rule); got != gone {
		t.Errorf("Gone of %v, rule %d: %d, want %d", c.Table, rule, got, gone)
	}
}

// example is the chapter's.
func example() api.Config { return config(2, []int{0, 1}, []int{0}, nil) }

// five has a rule in one slot, in two, in three, in each; one slot looks at that alone.
func five() api.Config {
	return config(4, []int{3, 0, 1}, []int{3}, []int{2, 3, 0}, []int{1, 3}, []int{0, 3})
}

// sparse has slots in which no rule stands: the first one, one between, and the last.
func sparse() api.Config {
	return config(3, nil, []int{2, 0}, []int{}, []int{1}, []int{0}, nil, nil)
}

// single is of one slot.
func single() api.Config { return config(3, []int{2, 0, 1}) }

// spread has 64 slots, with a rule alone in every other one: 0 to 31, in order.
func spread() api.Config {
	c := config(api.MaxRules)
	for rule := range api.MaxRules {
		c.Table = append(c.Table, []int{rule}, nil)
	}
	return c
}

// crowded has 64 slots, and every rule in each of them, the last one first.
func crowded() api.Config {
	var all []int
	for rule := range api.MaxRules {
		all = append(all, api.MaxRules-1-rule)
	}
	c := config(api.MaxRules)
	for range api.MaxSlots {
		c.Table = append(c.Table, slices.Clone(all))
	}
	return c
}

func configs() []api.Config {
	return []api.Config{example(), five(), sparse(), single(), spread(), crowded(), config(0, nil, nil), config(1, []int{0})}
}

func TestExample(t *testing.T) {
	c := example()
	wantGap(t, c, 0, 2)
	wantGap(t, c, 1, 3)
	wantSlot(t, c, 1, 0, 1)
	wantSlot(t, c, 2, 0)
	wantSlot(t, c, 3)
	wantSlot(t, c, 4, 0, 1)
	wantWait(t, c, 9)
	wantBounds(t, c, 0, 13, 11)
	wantBounds(t, c, 1, 15, 12)
}

func TestSlotRoundAndRound(t *testing.T) {
	c := five()
	wantSlot(t, c, 1, 3, 0, 1)
	wantSlot(t, c, 2, 3)
	wantSlot(t, c, 3, 2, 3, 0)
	wantSlot(t, c, 4, 1, 3)
	wantSlot(t, c, 5, 0, 3)
	wantSlot(t, c, 6, 3, 0, 1)
	wantSlot(t, c, 10, 0, 3)
	wantSlot(t, c, 11, 3, 0, 1)
	wantSlot(t, c, 99, 1, 3)
	wantSlot(t, c, 100, 0, 3)
	wantSlot(t, c, 101, 3, 0, 1)
}

func TestSlotFarOn(t *testing.T) {
	c := five() // of 2^40 less 1, and of 2^63 less 2, there are 0 and 1 over
	wantSlot(t, c, most, 3, 0, 1)
	wantSlot(t, c, most-1, 0, 3)
	wantSlot(t, c, most+1, 3)
	wantSlot(t, c, last, 3)
	wantSlot(t, c, last-1, 3, 0, 1)
	wantSlot(t, c, last-2, 0, 3)
	wantSlot(t, c, 5_000_000_000_001, 3, 0, 1)

	c = sparse() // 1 and 6
	wantSlot(t, c, most, 2, 0)
	wantSlot(t, c, most-1)
	wantSlot(t, c, most+3, 0)
	wantSlot(t, c, last)
	wantSlot(t, c, last-2, 0)
	wantSlot(t, c, last-3, 1)

	c = single()
	wantSlot(t, c, most, 2, 0, 1)
	wantSlot(t, c, last, 2, 0, 1)

	c = spread() // 63 and 62
	wantSlot(t, c, most)
	wantSlot(t, c, most-1, 31)
	wantSlot(t, c, most+1, 0)
	wantSlot(t, c, last, 31)
	wantSlot(t, c, last-1)
}

func TestSlotBelowTheFirstTick(t *testing.T) {
	for _, c := range configs() {
		n := int64(len(c.Table))
		for _, now := range []int64{0, -1, -2, 1 - n, -n, -n - 1, 1 - 5*n, -most, least, least + 1, least + n, least + n + 1} {
			wantSlot(t, c, now)
		}
	}
}

func TestSlotsWithoutRules(t *testing.T) {
	c := sparse()
	for _, now := range []int64{1, 3, 6, 7, 8, 10, 13, 14, 15} {
		wantSlot(t, c, now)
	}
	wantSlot(t, c, 2, 2, 0)
	wantSlot(t, c, 4, 1)
	wantSlot(t, c, 5, 0)
	wantSlot(t, c, 9, 2, 0)
	wantSlot(t, c, 12, 0)
	for now := range int64(9) {
		wantSlot(t, config(0, nil, []int{}, nil), now)
	}
}

// Of as many slots, and as many rules, as may be.
func TestGreatTables(t *testing.T) {
	c := spread()
	for now := int64(1); now <= 3*api.MaxSlots; now++ {
		if place := int(now-1) % api.MaxSlots; place%2 == 0 {
			wantSlot(t, c, now, place/2)
		} else {
			wantSlot(t, c, now)
		}
	}
	wantWait(t, c, 2112)
	c = crowded()
	for now := int64(1); now <= 3*api.MaxSlots; now++ {
		wantSlot(t, c, now, c.Table[0]...)
	}
	wantWait(t, c, 2112)
	for rule := range api.MaxRules {
		wantGap(t, spread(), rule, 64)
		wantBounds(t, spread(), rule, 2240, 2176)
		wantGap(t, crowded(), rule, 1)
		wantBounds(t, crowded(), rule, 2114, 2113)
	}
}

// looked is a table of so many slots, in which rule 0 stands at these places alone, and rule 1 in each.
func looked(slots int, places ...int) api.Config {
	c := config(2)
	for at := range slots {
		slot := []int{1}
		if slices.Contains(places, at) {
			slot = append(slot, 0)
		}
		c.Table = append(c.Table, slot)
	}
	return c
}

func TestGap(t *testing.T) {
	for _, x := range []struct {
		slots  int
		places []int
		want   int64
	}{
		{1, []int{0}, 1},
		{2, []int{0}, 2}, {2, []int{1}, 2}, {2, []int{0, 1}, 1},
		{5, []int{0}, 5}, {5, []int{2}, 5}, {5, []int{4}, 5}, // one alone
		{5, []int{0, 4}, 4}, {3, []int{0, 2}, 2}, {64, []int{0, 63}, 63}, // the first and the last one
		{64, []int{0}, 64}, {64, []int{31}, 64}, {64, []int{63}, 64},
		{9, []int{2, 4}, 7}, {9, []int{3, 4, 5}, 7}, {9, []int{0, 1}, 8}, {9, []int{7, 8}, 8}, // that round the end
		{9, []int{0, 7}, 7}, {9, []int{1, 8}, 7}, {9, []int{0, 2, 7, 8}, 5}, // another one
		{9, []int{0, 5, 6, 8}, 5}, {9, []int{1, 2, 3, 8}, 5}, // the first one of several, the last one of several
		{8, []int{0, 4}, 4}, {8, []int{3, 7}, 4}, {9, []int{1, 4, 7}, 3}, // all alike
		{9, []int{0, 4}, 5}, {9, []int{0, 5}, 5}, {9, []int{4, 8}, 5}, {9, []int{3, 8}, 5}, // by one greater
		{6, []int{0, 1, 2, 3, 4}, 2}, {6, []int{1, 2, 3, 4, 5}, 2}, {6, []int{0, 1, 2, 4, 5}, 2}, // all but one
		{6, []int{0, 1, 2, 3, 4, 5}, 1},
	} {
		c := looked(x.slots, x.places...)
		wantGap(t, c, 0, x.want)
		wantGap(t, c, 1, 1)
		wantWait(t, c, 3*int64(x.slots))
		wantBounds(t, c, 0, 2*x.want+3*int64(x.slots), x.want+3*int64(x.slots))
		wantBounds(t, c, 1, 2+3*int64(x.slots), 1+3*int64(x.slots))
	}
}

// Where in its slot a rule stands, and beside which others, turns nothing.
func TestGapWhereverInTheSlot(t *testing.T) {
	c := five()
	wantGap(t, c, 0, 2)
	wantGap(t, c, 1, 3)
	wantGap(t, c, 2, 5)
	wantGap(t, c, 3, 1)
	c = sparse()
	wantGap(t, c, 0, 4)
	wantGap(t, c, 1, 7)
	wantGap(t, c, 2, 7)
	for rule := range 3 {
		wantGap(t, single(), rule, 1)
	}
}

func TestWait(t *testing.T) {
	wantWait(t, config(1, []int{0}), 2)
	wantWait(t, config(2, []int{0, 1}), 3)
	wantWait(t, config(1, []int{0}, nil), 4)
	wantWait(t, config(0, nil, nil, nil), 3)
	wantWait(t, single(), 4)
	wantWait(t, five(), 25)
	wantWait(t, sparse(), 28)
	c := delayed(five(), 9, 99, 999) // of nothing else
	c.Signals, c.Bands, c.Drain, c.Pause, c.Off, c.Log = make([]api.Signal, 8), [3]int{32, 31, 30}, 64, 90, 80, 70
	wantWait(t, c, 25)
}

func TestLateAndGone(t *testing.T) {
	wantBounds(t, config(1, []int{0}), 0, 4, 3)
	wantBounds(t, five(), 0, 29, 27)
	wantBounds(t, five(), 1, 31, 28)
	wantBounds(t, five(), 2, 35, 30)
	wantBounds(t, five(), 3, 27, 26)
	c := delayed(five(), 7, 0, api.MaxSpan, 1)
	wantBounds(t, c, 0, 36, 27)
	wantBounds(t, c, 1, 31, 28)
	wantBounds(t, c, 2, 10035, 30)
	wantBounds(t, c, 3, 28, 26)
}

// Of a rule nothing but its Delay tells, and of the others but how many there are.
func TestBoundsOfNothingElse(t *testing.T) {
	c := delayed(five(), 7)
	for i := range c.Rules {
		r := &c.Rules[i]
		r.Kind, r.Signal, r.Limit, r.Back, r.Span = api.Rise, 5, 44, 33, 22
		r.Priority, r.Latch, r.Stages = api.High, true, []api.Stage{{Wait: 500, Priority: api.High}}
	}
	c.Signals, c.Bands, c.Drain, c.Pause, c.Off, c.Break, c.Log = make([]api.Signal, 8), [3]int{32, 31, 30}, 64, 90, 80, true, 70
	wantGap(t, c, 0, 2)
	wantBounds(t, c, 0, 36, 27)
	wantBounds(t, c, 1, 31, 28)
	wantSlot(t, c, 8, 2, 3, 0)
}
