package table_test

import (
	"math"
	"testing"

	"handbell/api"
	"handbell/table"
)

// others are numbers that are no rules where there are so many.
func others(rules int) []int {
	return []int{
		math.MinInt, -1 << 32, math.MinInt32, -256, -rules - 1, -rules, -2, -1,
		rules, rules + 1, rules + 256, rules + 1<<32, math.MaxInt32, 1 << 32, math.MaxInt - 1, math.MaxInt,
	}
}

func wantNoRule(t *testing.T, c api.Config, rule int) {
	t.Helper()
	wantGap(t, c, rule, 0)
	wantBounds(t, c, rule, 0, 0)
}

func TestNotARule(t *testing.T) {
	for _, c := range configs() {
		for i := range c.Rules {
			c.Rules[i].Delay = 9
		}
		for _, rule := range others(len(c.Rules)) {
			wantNoRule(t, c, rule)
		}
	}
}

// The places and the numbers of slots are no rules.
func TestNotARuleThoughASlot(t *testing.T) {
	c := config(1, []int{0}, nil, nil, []int{0})
	wantNoRule(t, c, 1)
	wantNoRule(t, c, 3)
	wantGap(t, c, 0, 3)
}

// A number that stands in the table is none either, where there are too few rules.
func TestNotARuleThoughInTheTable(t *testing.T) {
	wantNoRule(t, config(0, []int{0}, []int{0}), 0)
	c := config(1, []int{0, 1, -1})
	wantNoRule(t, c, 1)
	wantNoRule(t, c, -1)
}

// wrongs are configurations of which nothing is promised: but no call may panic.
func wrongs() []api.Config {
	return []api.Config{
		{},
		config(2),
		config(0, []int{0}),
		config(0, nil),
		config(2, nil, nil),
		config(2, []int{0}),
		config(1, []int{-1, 5, 0, 0, math.MaxInt, math.MinInt}, []int{0}),
		delayed(config(2, []int{0, 1}), last, least),
	}
}

// At all arguments each call ends, and none panics.
func TestAnyArguments(t *testing.T) {
	for _, c := range append(wrongs(), configs()...) {
		was := copied(c)
		for _, now := range []int64{least, least + 1, -1, 0, 1, 2, 3, 65, most, last - 1, last} {
			table.Slot(c, now)
		}
		table.Wait(c)
		for _, rule := range append(others(len(c.Rules)), 0, 1, 2) {
			table.Gap(c, rule)
			table.Late(c, rule)
			table.Gone(c, rule)
		}
		wantAsItWas(t, c, was)
	}
}
