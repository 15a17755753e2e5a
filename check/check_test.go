package check_test

import (
	"fmt"
	"math"
	"slices"
	"testing"

	"handbell/api"
	"handbell/check"
)

const (
	most  = 1<<31 - 1
	least = -1 << 31
)

// copied is a configuration that shares nothing with c.
func copied(c api.Config) api.Config {
	c.Signals, c.Rules, c.Table = slices.Clone(c.Signals), slices.Clone(c.Rules), slices.Clone(c.Table)
	for i := range c.Rules {
		c.Rules[i].Stages = slices.Clone(c.Rules[i].Stages)
	}
	for i := range c.Table {
		c.Table[i] = slices.Clone(c.Table[i])
	}
	return c
}

func sameRule(a, b api.Rule) bool {
	return a.Kind == b.Kind && a.Signal == b.Signal && a.Limit == b.Limit && a.Back == b.Back &&
		a.Delay == b.Delay && a.Span == b.Span && a.Priority == b.Priority && a.Latch == b.Latch && slices.Equal(a.Stages, b.Stages)
}

func same(a, b api.Config) bool {
	return slices.Equal(a.Signals, b.Signals) && slices.EqualFunc(a.Rules, b.Rules, sameRule) &&
		slices.EqualFunc(a.Table, b.Table, slices.Equal) && a.Bands == b.Bands && a.Drain == b.Drain &&
		a.Pause == b.Pause && a.Off == b.Off && a.Break == b.Break && a.Log == b.Log
}

// wantFirst: that number and that place, at every call, and what was handed in stays as it was.
func wantFirst(t *testing.T, c api.Config, n, at int) {
	t.Helper()
	was := copied(c)
	for range 2 {
		if gotN, gotAt := check.First(c); gotN != n || gotAt != at {
			t.Errorf("First(%.2000s): %d, %d, want %d, %d", fmt.Sprintf("%+v", was), gotN, gotAt, n, at)
		}
		if got := check.Right(c); got != (n == 0) {
			t.Errorf("Right(%.2000s): %t, but First is %d", fmt.Sprintf("%+v", was), got, n)
		}
	}
	if !same(c, was) {
		t.Errorf("what was handed in is written into: %.2000s, was %.2000s", fmt.Sprintf("%+v", c), fmt.Sprintf("%+v", was))
	}
}

func wantRight(t *testing.T, c api.Config) {
	t.Helper()
	wantFirst(t, c, 0, 0)
}

// little is the least that may be.
func little() api.Config {
	return api.Config{
		Signals: []api.Signal{{}},
		Rules:   []api.Rule{{Kind: api.Bad, Priority: api.Low}},
		Table:   [][]int{{0}},
		Bands:   [3]int{1, 1, 1}, Drain: 2, Pause: 1, Off: 1, Log: 1,
	}
}

// full has two rules of every kind, and no two of its numbers that are bound alike the same.
func full() api.Config {
	return api.Config{
		Signals: []api.Signal{{Min: 0, Max: 300}, {Min: -50, Max: 50}, {Min: least, Max: most}, {Min: 7, Max: 7}},
		Rules: []api.Rule{
			{Kind: api.Above, Signal: 0, Limit: 120, Back: 110, Delay: 2, Priority: api.Medium, Stages: []api.Stage{{Wait: 3, Priority: api.Medium}, {Wait: 100000, Priority: api.High}}},
			{Kind: api.Below, Signal: 1, Limit: -10, Back: -5, Delay: 7, Priority: api.High, Latch: true},
			{Kind: api.Rise, Signal: 2, Limit: 70000, Back: 65536, Span: 9, Priority: api.Low, Latch: true, Stages: []api.Stage{{Wait: 1, Priority: api.Low}}},
			{Kind: api.Fall, Signal: 0, Limit: 30, Back: 0, Delay: 10000, Span: 10000, Priority: api.Low},
			{Kind: api.Quiet, Signal: 1, Span: 4, Priority: api.Medium, Stages: []api.Stage{{Wait: 5, Priority: 2}, {Wait: 6, Priority: 2}, {Wait: 7, Priority: 3}, {Wait: 8, Priority: 3}}},
			{Kind: api.Bad, Signal: 2, Delay: 257, Priority: api.High},
			{Kind: api.Bad, Signal: 3, Priority: api.Low, Latch: true, Stages: []api.Stage{{Wait: 20, Priority: 1}, {Wait: 21, Priority: 2}, {Wait: 22, Priority: 3}}},
			{Kind: api.Quiet, Signal: 0, Span: 1, Priority: api.High},
			{Kind: api.Fall, Signal: 1, Limit: 1, Back: 1, Span: 3, Priority: api.High, Stages: []api.Stage{{Wait: 9, Priority: 3}}},
			{Kind: api.Rise, Signal: 3, Limit: 2, Back: 1, Delay: 1, Span: 2, Priority: api.Medium},
			{Kind: api.Below, Signal: 2, Limit: 5, Back: 5, Delay: 3, Priority: api.Low, Stages: []api.Stage{{Wait: 4, Priority: 2}}},
			{Kind: api.Above, Signal: 3, Limit: -8, Back: -9, Delay: 4, Priority: api.High},
		},
		Table: [][]int{{0, 1, 11, 10}, {2, 0, 5}, {}, {3, 4}, {9, 6}, {8, 7, 0}},
		Bands: [3]int{2, 3, 31}, Drain: 40, Pause: 1200, Off: 90000, Break: true, Log: 200,
	}
}

// great has as many of all, and as great numbers, as may be.
func great() api.Config {
	c := api.Config{
		Signals: slices.Repeat([]api.Signal{{Min: least, Max: least}, {Min: most, Max: most}}, api.MaxSignals/2),
		Bands:   [3]int{32, 32, 32}, Drain: 64, Pause: 100000, Off: 100000, Break: true, Log: 256,
	}
	var all []int
	for i := range api.MaxRules {
		r := []api.Rule{
			{Kind: api.Above, Limit: most, Back: most},
			{Kind: api.Below, Limit: least, Back: most},
			{Kind: api.Rise, Limit: most, Back: most, Span: 10000},
			{Kind: api.Fall, Limit: most, Back: 0, Span: 10000},
			{Kind: api.Quiet, Span: 10000},
			{Kind: api.Bad},
		}[i%6]
		r.Signal, r.Delay, r.Priority, r.Latch = 7, 10000, api.High, true
		r.Stages = slices.Repeat([]api.Stage{{Wait: 100000, Priority: api.High}}, api.MaxStages)
		c.Rules = append(c.Rules, r)
		all = append(all, i)
	}
	for range api.MaxSlots {
		c.Table = append(c.Table, slices.Clone(all))
	}
	return c
}

// makers make configurations that may be.
func makers() []func() api.Config { return []func() api.Config{little, full, great} }

func TestRight(t *testing.T) {
	for _, made := range makers() {
		wantRight(t, made())
	}
}

// Every kind of rule, with every number of stages, and latched or not.
func TestEveryKindOfRule(t *testing.T) {
	kinds := []api.Rule{
		{Kind: api.Above, Limit: 10, Back: 8}, {Kind: api.Below, Limit: 8, Back: 10},
		{Kind: api.Rise, Limit: 10, Back: 8, Span: 5}, {Kind: api.Fall, Limit: 10, Back: 8, Span: 5},
		{Kind: api.Quiet, Span: 5}, {Kind: api.Bad},
	}
	for _, r := range kinds {
		for n := range api.MaxStages + 1 {
			for p := byte(api.Low); p <= api.High; p++ {
				c := little()
				r.Priority, r.Latch, r.Delay = p, n%2 == 0, int64(n)
				r.Stages = slices.Repeat([]api.Stage{{Wait: 1, Priority: p}}, n)
				c.Rules = []api.Rule{r}
				wantRight(t, c)
			}
		}
	}
}

func TestNothing(t *testing.T) {
	wantFirst(t, api.Config{}, 1, 0)
	wantFirst(t, api.Config{Signals: []api.Signal{}, Rules: []api.Rule{}, Table: [][]int{}}, 1, 0)
	for n, turn := range map[int]func(c *api.Config){
		1:  func(c *api.Config) { c.Signals = nil },
		3:  func(c *api.Config) { c.Rules = nil },
		11: func(c *api.Config) { c.Table = nil },
		14: func(c *api.Config) { c.Bands = [3]int{} },
	} {
		for _, made := range makers() {
			c := made()
			turn(&c)
			wantFirst(t, c, n, 0)
		}
	}
	for _, made := range makers() {
		c := made()
		c.Signals, c.Rules, c.Table = []api.Signal{}, nil, nil
		wantFirst(t, c, 1, 0)
		c = made()
		c.Rules, c.Table = []api.Rule{}, nil
		wantFirst(t, c, 3, 0)
		c = made()
		c.Table = [][]int{}
		wantFirst(t, c, 11, 0)
		c = made()
		clear(c.Signals)
		wantRight(t, c) // from 0 to 0 is a span of values, too
		clear(c.Rules)
		wantFirst(t, c, 4, 0)
		c = made()
		clear(c.Table)
		wantFirst(t, c, 13, 0)
	}
}

// edge is a number of a configuration, its bounds there, and what is told beyond these.
type edge struct {
	name        string
	set         func(c *api.Config, n int)
	least, most int
	n, at       int
}

func edges(c api.Config) []edge {
	all := []edge{
		{"Low's band", func(c *api.Config, n int) { c.Bands[0] = n }, 1, 32, 14, 0},
		{"Medium's band", func(c *api.Config, n int) { c.Bands[1] = n }, 1, 32, 14, 1},
		{"High's band", func(c *api.Config, n int) { c.Bands[2] = n }, 1, 32, 14, 2},
		{"Drain", func(c *api.Config, n int) { c.Drain = n }, check.Entries(c)/len(c.Table) + 1, 64, 15, 0},
		{"Pause", func(c *api.Config, n int) { c.Pause = int64(n) }, 1, 100000, 16, 0},
		{"Off", func(c *api.Config, n int) { c.Off = int64(n) }, 1, 100000, 16, 0},
		{"Log", func(c *api.Config, n int) { c.Log = n }, 1, 256, 17, 0},
	}
	for i, s := range c.Signals {
		all = append(all,
			edge{"Min", func(c *api.Config, n int) { c.Signals[i].Min = n }, least, s.Max, 2, i},
			edge{"Max", func(c *api.Config, n int) { c.Signals[i].Max = n }, s.Min, most, 2, i})
	}
	for i, r := range c.Rules {
		all = append(all, ruleEdges(c, r, i)...)
	}
	return all
}

func ruleEdges(c api.Config, r api.Rule, i int) []edge {
	limit := edge{"Limit", func(c *api.Config, n int) { c.Rules[i].Limit = n }, 0, 0, 6, i}
	back := edge{"Back", func(c *api.Config, n int) { c.Rules[i].Back = n }, 0, 0, 6, i}
	span := edge{"Span", func(c *api.Config, n int) { c.Rules[i].Span = int64(n) }, 0, 0, 7, i}
	switch r.Kind {
	case api.Above:
		limit.least, limit.most = r.Back, most
		back.least, back.most = least, r.Limit
	case api.Below:
		limit.least, limit.most = least, r.Back
		back.least, back.most = r.Limit, most
	case api.Rise, api.Fall:
		limit.least, limit.most = max(1, r.Back), most
		back.least, back.most = 0, r.Limit
		span.least, span.most = 1, 10000
	case api.Quiet:
		span.least, span.most = 1, 10000
	}
	all := []edge{
		limit, back, span,
		{"Signal", func(c *api.Config, n int) { c.Rules[i].Signal = n }, 0, len(c.Signals) - 1, 5, i},
		{"Delay", func(c *api.Config, n int) { c.Rules[i].Delay = int64(n) }, 0, 10000, 8, i},
	}
	for j := range r.Stages {
		all = append(all, edge{"Wait", func(c *api.Config, n int) { c.Rules[i].Stages[j].Wait = int64(n) }, 1, 100000, 10, i})
	}
	return all
}

// Each number at both of its bounds, and beyond each: just beyond, and so far that 32 bits of it are within them again.
func TestEdges(t *testing.T) {
	for _, made := range makers() {
		for _, e := range edges(made()) {
			for _, n := range []int{e.least, e.most, (e.least + e.most) / 2} {
				c := made()
				e.set(&c, n)
				wantRight(t, c)
			}
			for _, n := range []int{e.least - 1, e.most + 1, e.least - 1<<32, e.most + 1<<32, math.MinInt, math.MaxInt} {
				c := made()
				e.set(&c, n)
				wantFirst(t, c, e.n, e.at)
			}
			if t.Failed() {
				t.Fatal(e.name, e.at)
			}
		}
	}
}

// Of a signal and of a rule both ends of what two numbers say of each other.
func TestBothAtOnce(t *testing.T) {
	for _, x := range []struct{ min, max, n int }{
		{0, 0, 0}, {least, least, 0}, {most, most, 0}, {least, most, 0}, {-1, 0, 0}, {0, -1, 2}, {1, 0, 2}, {most, least, 2},
		{least - 1, most, 2}, {least, most + 1, 2}, {least - 1, most + 1, 2}, {least - 2, least - 1, 2}, {most + 1, most + 2, 2},
		{math.MinInt, math.MaxInt, 2}, {math.MinInt, math.MinInt, 2}, {math.MaxInt, math.MaxInt, 2},
	} {
		for _, at := range []int{0, 2, 3} {
			c := full()
			c.Signals[at] = api.Signal{Min: x.min, Max: x.max}
			if x.n == 0 {
				wantRight(t, c)
			} else {
				wantFirst(t, c, x.n, at)
			}
		}
	}
}

func TestLimitAndBack(t *testing.T) {
	for _, x := range []struct {
		limit, back int
		may         [6]bool // of each kind, Above to Bad
	}{
		{0, 0, [6]bool{true, true, false, false, true, true}},
		{1, 1, [6]bool{true, true, true, true, false, false}},
		{1, 0, [6]bool{true, false, true, true, false, false}},
		{0, 1, [6]bool{false, true, false, false, false, false}},
		{2, 1, [6]bool{true, false, true, true, false, false}},
		{1, 2, [6]bool{false, true, false, false, false, false}},
		{0, -1, [6]bool{true, false, false, false, false, false}},
		{-1, 0, [6]bool{false, true, false, false, false, false}},
		{1, -1, [6]bool{true, false, false, false, false, false}},
		{-1, -1, [6]bool{true, true, false, false, false, false}},
		{-1, -2, [6]bool{true, false, false, false, false, false}},
		{most, most, [6]bool{true, true, true, true, false, false}},
		{most, least, [6]bool{true, false, false, false, false, false}},
		{least, most, [6]bool{false, true, false, false, false, false}},
		{least, least, [6]bool{true, true, false, false, false, false}},
		{most + 1, most, [6]bool{}}, {most + 1, most + 1, [6]bool{}}, {most, most + 1, [6]bool{}}, {most + 1, 0, [6]bool{}}, {0, most + 1, [6]bool{}},
		{least - 1, least, [6]bool{}}, {least - 1, least - 1, [6]bool{}}, {least, least - 1, [6]bool{}}, {least - 1, 0, [6]bool{}}, {0, least - 1, [6]bool{}},
		{math.MaxInt, math.MinInt, [6]bool{}}, {math.MinInt, math.MaxInt, [6]bool{}},
		{math.MaxInt, math.MaxInt, [6]bool{}}, {math.MinInt, math.MinInt, [6]bool{}},
	} {
		for at, r := range full().Rules {
			c := full()
			c.Rules[at].Limit, c.Rules[at].Back = x.limit, x.back
			if x.may[r.Kind-1] {
				wantRight(t, c)
			} else {
				wantFirst(t, c, 6, at)
			}
		}
	}
}

func TestKind(t *testing.T) {
	for _, made := range makers() {
		for at := range made().Rules {
			for kind := range 256 {
				c := made()
				c.Rules[at].Kind = byte(kind)
				if kind < 1 || kind > 6 {
					wantFirst(t, c, 4, at)
				} else if n, _ := check.First(c); n == 4 {
					t.Errorf("%d is one of the six", kind)
				}
			}
		}
	}
}

// A span of 1 and one of 0, of each kind.
func TestSpan(t *testing.T) {
	for at, r := range full().Rules {
		spanned := r.Kind == api.Rise || r.Kind == api.Fall || r.Kind == api.Quiet
		for _, span := range []int64{-1, 0, 1, 2, 9999, 10000, 10001} {
			c := full()
			c.Rules[at].Span = span
			if span == 0 && !spanned || span >= 1 && span <= 10000 && spanned {
				wantRight(t, c)
			} else {
				wantFirst(t, c, 7, at)
			}
		}
	}
}

func TestPriority(t *testing.T) {
	for _, made := range makers() {
		for at, r := range made().Rules {
			for p := range 256 {
				c := made()
				c.Rules[at].Priority = byte(p)
				switch {
				case p < 1 || p > 3:
					wantFirst(t, c, 9, at)
				case len(r.Stages) > 0 && p > int(r.Stages[0].Priority):
					wantFirst(t, c, 10, at) // its first stage's is less than its own then
				default:
					wantRight(t, c)
				}
			}
		}
	}
}

func TestStagePriority(t *testing.T) {
	for _, made := range makers() {
		for at, r := range made().Rules {
			low := int(r.Priority)
			for j, s := range r.Stages {
				high := api.High
				if j+1 < len(r.Stages) {
					high = int(r.Stages[j+1].Priority)
				}
				for p := range 256 {
					c := made()
					c.Rules[at].Stages[j].Priority = byte(p)
					if p >= low && p <= high {
						wantRight(t, c)
					} else {
						wantFirst(t, c, 10, at)
					}
				}
				low = int(s.Priority)
			}
		}
	}
}

// Of all rows of priorities, of a rule and of its stages, those that don't fall may be.
func TestPrioritiesThatFall(t *testing.T) {
	for row := range 3 * 3 * 3 * 3 * 3 {
		c := full()
		r := &c.Rules[5]
		r.Priority, row = byte(row%3+1), row/3
		last, falls := r.Priority, false
		for range api.MaxStages {
			p := byte(row%3 + 1)
			row /= 3
			r.Stages = append(r.Stages, api.Stage{Wait: 2, Priority: p})
			falls = falls || p < last
			last = p
		}
		if falls {
			wantFirst(t, c, 10, 5)
		} else {
			wantRight(t, c)
		}
	}
}

// few has so many signals, rules and slots; a rule stands in the slot of its number, round and round.
func few(signals, rules, slots int) api.Config {
	c := little()
	c.Signals = slices.Repeat(c.Signals, signals)
	c.Rules = slices.Repeat(c.Rules, rules)
	c.Table = make([][]int, slots)
	for i := 0; i < rules && slots > 0; i++ {
		c.Table[i%slots] = append(c.Table[i%slots], i)
	}
	c.Drain = 64
	return c
}

func TestHowMany(t *testing.T) {
	for _, x := range []struct{ signals, rules, slots, n int }{
		{0, 1, 1, 1}, {1, 1, 1, 0}, {2, 1, 1, 0}, {7, 1, 1, 0}, {8, 1, 1, 0}, {9, 1, 1, 1}, {10, 1, 1, 1}, {256, 1, 1, 1}, {257, 1, 1, 1}, {100000, 1, 1, 1},
		{1, 0, 1, 3}, {1, 2, 1, 0}, {1, 31, 1, 0}, {1, 32, 1, 0}, {1, 33, 1, 3}, {1, 34, 1, 3}, {1, 256, 1, 3}, {1, 257, 1, 3}, {1, 100000, 1, 3},
		{1, 1, 0, 11}, {1, 1, 2, 0}, {1, 1, 63, 0}, {1, 1, 64, 0}, {1, 1, 65, 11}, {1, 1, 66, 11}, {1, 1, 256, 11}, {1, 1, 257, 11}, {1, 1, 100000, 11},
		{8, 32, 64, 0}, {9, 33, 65, 1}, {8, 33, 65, 3}, {8, 32, 65, 11}, {0, 0, 0, 1}, {1, 0, 0, 3}, {0, 33, 0, 1}, {8, 0, 65, 3},
	} {
		wantFirst(t, few(x.signals, x.rules, x.slots), x.n, 0)
	}
}

func TestHowManyStages(t *testing.T) {
	for at := range full().Rules {
		for _, n := range []int{0, 1, 2, 3, 4, 5, 6, 255, 256, 257, 100000} {
			c := full()
			c.Rules[at].Stages = slices.Repeat([]api.Stage{{Wait: 1, Priority: api.High}}, n)
			if n <= 4 {
				wantRight(t, c)
			} else {
				wantFirst(t, c, 10, at)
			}
		}
	}
}

// What is of as many stages as may be, but the last one, is asked, too.
func TestEachStage(t *testing.T) {
	for at := range api.MaxStages {
		for _, wrong := range []api.Stage{{Wait: 0, Priority: 3}, {Wait: 100001, Priority: 3}, {Wait: -1, Priority: 3}, {Wait: 1, Priority: 4}, {Wait: 1, Priority: 0}, {}} {
			c := great()
			c.Rules[31].Stages[at] = wrong
			wantFirst(t, c, 10, 31)
			c.Rules[31].Stages = c.Rules[31].Stages[:at]
			wantRight(t, c)
		}
	}
}

func TestNumbersThatAreNoRules(t *testing.T) {
	for _, made := range makers() {
		table := made().Table
		rules := len(made().Rules)
		for at, slot := range table {
			for _, n := range []int{-1, -2, rules, rules + 1, 255, 256, -256, 1 << 32, math.MinInt, math.MaxInt} {
				for _, i := range []int{0, len(slot) / 2, len(slot)} {
					c := made()
					c.Table[at] = slices.Insert(slices.Clone(slot), i, n)
					wantFirst(t, c, 12, at)
				}
			}
		}
	}
}

func TestNumbersThatStandTwice(t *testing.T) {
	for _, made := range makers() {
		for at, slot := range made().Table {
			for _, n := range slot {
				for _, i := range []int{0, len(slot) / 2, len(slot)} {
					c := made()
					c.Table[at] = slices.Insert(slices.Clone(slot), i, n)
					wantFirst(t, c, 12, at)
				}
			}
		}
	}
	c := full()
	c.Table[3] = []int{3, 4, 3, 4}
	wantFirst(t, c, 12, 3)
	c.Table[3] = []int{4, 3}
	c.Table[2] = []int{3, 4, 0}
	wantRight(t, c) // in another slot it may stand again, and in any order
	c.Table[2] = slices.Repeat([]int{0, 1, 2}, 500000)
	wantFirst(t, c, 12, 2)
	c.Table[2] = slices.Repeat([]int{-7}, 500000)
	wantFirst(t, c, 12, 2)
}

// without is the table without a number.
func without(table [][]int, n int) {
	for i, slot := range table {
		table[i] = slices.DeleteFunc(slices.Clone(slot), func(x int) bool { return x == n })
	}
}

func TestRulesThatStandNowhere(t *testing.T) {
	for _, made := range makers() {
		rules := len(made().Rules)
		for at := range rules {
			c := made()
			without(c.Table, at)
			wantFirst(t, c, 13, at)
			for slot := range c.Table { // in one slot, whichever it is, it is enough
				there := made()
				without(there.Table, at)
				there.Table[slot] = append(there.Table[slot], at)
				wantRight(t, there)
			}
			for other := range at {
				without(c.Table, other)
				wantFirst(t, c, 13, 0) // of several the first one
			}
		}
	}
}

// Drain times the slots just as many as the numbers in all, and one more; by Drain, and by the numbers.
func TestDrainAgainstEntries(t *testing.T) {
	for _, slots := range []int{2, 3, 7, 63, 64} {
		for drain := 1; drain <= 32; drain++ {
			c := few(1, drain, slots)
			c.Drain = drain
			for i := range c.Table {
				c.Table[i] = nil
				for n := range drain {
					c.Table[i] = append(c.Table[i], n)
				}
			}
			if check.Entries(c) != drain*slots {
				t.Fatal(check.Entries(c))
			}
			wantFirst(t, c, 15, 0)
			c.Drain++
			wantRight(t, c)
			c.Drain--
			c.Table[slots-1] = c.Table[slots-1][1:]
			wantRight(t, c)
		}
	}
	for rules := 1; rules <= 32; rules++ {
		for drain := range 65 {
			c := few(1, rules, 1)
			c.Drain = drain
			if drain > rules {
				wantRight(t, c)
			} else {
				wantFirst(t, c, 15, 0)
			}
		}
	}
	c := great() // 64 slots of 32 numbers
	for drain := range 65 {
		c.Drain = drain
		if drain > 32 {
			wantRight(t, c)
		} else {
			wantFirst(t, c, 15, 0)
		}
	}
}

// Numbers whose product with the slots is beyond 64 bits, or is within the bounds again there.
func TestDrainsThatAreFarTooGreat(t *testing.T) {
	for _, drain := range []int{math.MaxInt, math.MinInt, 1 << 62, 1<<62 + 5, 1<<58 + 33, -1 << 58, 1 << 32, 1<<32 + 40, -40} {
		for _, made := range makers() {
			c := made()
			c.Drain = drain
			wantFirst(t, c, 15, 0)
		}
	}
}

func wantEntries(t *testing.T, table [][]int, want int) {
	t.Helper()
	c := little()
	c.Table = table
	for _, c := range []api.Config{c, {Table: table}} { // whatever else there is
		was := copied(c)
		if got := check.Entries(c); got != want {
			t.Errorf("Entries of %.2000s: %d, want %d", fmt.Sprint(table), got, want)
		}
		if !same(c, was) {
			t.Error("Entries writes into what it was handed")
		}
	}
}

func TestEntries(t *testing.T) {
	wantEntries(t, nil, 0)
	wantEntries(t, [][]int{}, 0)
	wantEntries(t, [][]int{nil, {}, nil}, 0)
	wantEntries(t, [][]int{{0}}, 1)
	wantEntries(t, [][]int{{0, 1}, {2, 0}}, 4)
	wantEntries(t, [][]int{{}, {5, 5, 5}, {-1}, {}, {99}}, 5) // may it be or not, it is a number
	wantEntries(t, full().Table, 14)
	wantEntries(t, great().Table, 2048)
	wantEntries(t, slices.Repeat([][]int{make([]int, 1000)}, 1000), 1000000)
	if n := check.Entries(api.Config{}); n != 0 {
		t.Error(n)
	}
}
