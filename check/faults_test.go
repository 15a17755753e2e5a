package check_test

import (
	"cmp"
	"math"
	"math/rand"
	"slices"
	"testing"

	"handbell/api"
	"handbell/check"
)

// fault is one way to break one rule at one place, and nothing of a lower number.
// Each turns a thing of its own, so that any of them may be done to full together.
type fault struct {
	n, at int
	turn  func(c *api.Config)
}

// faults are of each number, and of most at the first place, at one between, and at the last.
func faults() []fault {
	return []fault{
		{1, 0, func(c *api.Config) { c.Signals = append(c.Signals, make([]api.Signal, 5)...) }},
		{2, 0, func(c *api.Config) { c.Signals[0].Min = 301 }},
		{2, 1, func(c *api.Config) { c.Signals[1].Min = least - 1 }},
		{2, 3, func(c *api.Config) { c.Signals[3].Max = most + 1 }},
		{3, 0, func(c *api.Config) { c.Rules = append(c.Rules, slices.Repeat(little().Rules, 21)...) }},
		{4, 0, func(c *api.Config) { c.Rules[0].Kind = 0 }},
		{4, 5, func(c *api.Config) { c.Rules[5].Kind = 7 }},
		{4, 11, func(c *api.Config) { c.Rules[11].Kind = 255 }},
		{5, 0, func(c *api.Config) { c.Rules[0].Signal = -1 }},
		{5, 4, func(c *api.Config) { c.Rules[4].Signal = 9 }},
		{5, 11, func(c *api.Config) { c.Rules[11].Signal = math.MaxInt }},
		{6, 0, func(c *api.Config) { c.Rules[0].Back = 121 }},
		{6, 2, func(c *api.Config) { c.Rules[2].Limit = most + 1 }},
		{6, 3, func(c *api.Config) { c.Rules[3].Back = 31 }},
		{6, 5, func(c *api.Config) { c.Rules[5].Limit = 1 }},
		{6, 7, func(c *api.Config) { c.Rules[7].Back = -1 }},
		{6, 10, func(c *api.Config) { c.Rules[10].Back = 4 }},
		{6, 11, func(c *api.Config) { c.Rules[11].Limit = least - 1 }},
		{7, 0, func(c *api.Config) { c.Rules[0].Span = -1 }},
		{7, 4, func(c *api.Config) { c.Rules[4].Span = 10001 }},
		{7, 11, func(c *api.Config) { c.Rules[11].Span = 10001 }},
		{8, 0, func(c *api.Config) { c.Rules[0].Delay = -1 }},
		{8, 6, func(c *api.Config) { c.Rules[6].Delay = 10001 }},
		{8, 11, func(c *api.Config) { c.Rules[11].Delay = math.MinInt64 }},
		{9, 0, func(c *api.Config) { c.Rules[0].Priority = 0 }},
		{9, 7, func(c *api.Config) { c.Rules[7].Priority = 4 }},
		{9, 11, func(c *api.Config) { c.Rules[11].Priority = 255 }},
		{10, 0, func(c *api.Config) { c.Rules[0].Stages[1].Priority = 1 }},
		{10, 4, func(c *api.Config) { c.Rules[4].Stages[3].Wait = 0 }},
		{10, 11, func(c *api.Config) { c.Rules[11].Stages = slices.Repeat([]api.Stage{{Wait: 1, Priority: 3}}, 5) }},
		{11, 0, func(c *api.Config) { c.Table = append(c.Table, make([][]int, 59)...) }},
		{12, 0, func(c *api.Config) { c.Table[0] = append(c.Table[0], 77) }},
		{12, 2, func(c *api.Config) { c.Table[2] = append(c.Table[2], 5, 4, 5) }},
		{12, 5, func(c *api.Config) { c.Table[5] = append(c.Table[5], -1) }},
		{13, 0, func(c *api.Config) { without(c.Table, 0) }},
		{13, 6, func(c *api.Config) { without(c.Table, 6) }},
		{13, 11, func(c *api.Config) { without(c.Table, 11) }},
		{14, 0, func(c *api.Config) { c.Bands[0] = 0 }},
		{14, 1, func(c *api.Config) { c.Bands[1] = 33 }},
		{14, 2, func(c *api.Config) { c.Bands[2] = -5 }},
		{15, 0, func(c *api.Config) { c.Drain = 65 }},
		{16, 0, func(c *api.Config) { c.Pause = 0 }},
		{16, 0, func(c *api.Config) { c.Off = 100001 }},
		{17, 0, func(c *api.Config) { c.Log = 257 }},
	}
}

// wantFirstOf: of what all these break the lowest number, and within it the first place, in whatever order they are done.
func wantFirstOf(t *testing.T, all ...fault) {
	t.Helper()
	c := full()
	for _, f := range all {
		f.turn(&c)
	}
	first := slices.MinFunc(all, func(a, b fault) int {
		return cmp.Or(cmp.Compare(a.n, b.n), cmp.Compare(a.at, b.at))
	})
	wantFirst(t, c, first.n, first.at)
}

func TestOneFault(t *testing.T) {
	told := map[int]bool{}
	for _, f := range faults() {
		wantFirstOf(t, f)
		told[f.n] = true
	}
	for n := 1; n <= 17; n++ {
		if !told[n] {
			t.Error("none of number", n)
		}
	}
}

func TestTwoFaults(t *testing.T) {
	for _, a := range faults() {
		for _, b := range faults() {
			wantFirstOf(t, a, b)
		}
	}
}

func TestManyFaults(t *testing.T) {
	draw := rand.New(rand.NewSource(12))
	all := faults()
	for range 3000 {
		draw.Shuffle(len(all), func(i, j int) { all[i], all[j] = all[j], all[i] })
		wantFirstOf(t, all[:1+draw.Intn(len(all))]...)
	}
	wantFirstOf(t, all...)
}

// What a lower number asks is told ahead of it, though it stands at a later place.
func TestNumbersGoAheadOfPlaces(t *testing.T) {
	c := full()
	c.Rules[11].Priority, c.Rules[0].Stages = 0, make([]api.Stage, 5)
	wantFirst(t, c, 9, 11)
	c.Rules[10].Signal = 4
	wantFirst(t, c, 5, 10)
	c.Signals[3].Max = 6
	wantFirst(t, c, 2, 3)
	c.Rules = nil
	wantFirst(t, c, 2, 3)
	c.Signals = c.Signals[:3]
	wantFirst(t, c, 3, 0)
}

// model tells all that is broken, each by the chapter's words, and then the first of it.
type model struct {
	broken [][2]int
}

func (m *model) tell(broken bool, n, at int) {
	if broken {
		m.broken = append(m.broken, [2]int{n, at})
	}
}

func (m *model) rule(c api.Config, r api.Rule, at int) {
	m.tell(r.Kind == 0 || r.Kind > 6, 4, at)
	m.tell(r.Signal < 0 || r.Signal >= len(c.Signals), 5, at)
	m.tell(max(r.Limit, r.Back) > most || min(r.Limit, r.Back) < least, 6, at)
	above, below, turns, quiet := r.Kind == api.Above, r.Kind == api.Below, r.Kind == api.Rise || r.Kind == api.Fall, r.Kind == api.Quiet
	m.tell(above && r.Back > r.Limit || below && r.Back < r.Limit, 6, at)
	m.tell(turns && (r.Limit <= 0 || r.Back < 0 || r.Back > r.Limit), 6, at)
	m.tell(!above && !below && !turns && (r.Limit != 0 || r.Back != 0), 6, at)
	m.tell((turns || quiet) && (r.Span <= 0 || r.Span > 10000), 7, at)
	m.tell(!turns && !quiet && r.Span != 0, 7, at)
	m.tell(r.Delay < 0 || r.Delay > 10000, 8, at)
	m.tell(r.Priority == 0 || r.Priority > 3, 9, at)
	m.tell(len(r.Stages) > 4, 10, at)
	for i, s := range r.Stages {
		m.tell(s.Wait <= 0 || s.Wait > 100000, 10, at)
		m.tell(s.Priority == 0 || s.Priority > 3, 10, at)
		m.tell(i == 0 && s.Priority < r.Priority || i > 0 && s.Priority < r.Stages[i-1].Priority, 10, at)
	}
}

func (m *model) table(c api.Config) int {
	all, stands := 0, map[int]bool{}
	for at, slot := range c.Table {
		once := map[int]bool{}
		for _, n := range slot {
			m.tell(n < 0 || n >= len(c.Rules), 12, at)
			once[n], stands[n] = true, true
			all++
		}
		m.tell(len(once) < len(slot), 12, at)
	}
	m.tell(len(c.Table) == 0 || len(c.Table) > 64, 11, 0)
	for at := range c.Rules {
		m.tell(!stands[at], 13, at)
	}
	return all
}

// modelFirst is what First must answer, and Entries.
func modelFirst(c api.Config) (int, int, int) {
	m := &model{}
	m.tell(len(c.Signals) == 0 || len(c.Signals) > 8, 1, 0)
	for at, s := range c.Signals {
		m.tell(s.Min > s.Max || s.Min < least || s.Max > most, 2, at)
	}
	m.tell(len(c.Rules) == 0 || len(c.Rules) > 32, 3, 0)
	for at, r := range c.Rules {
		m.rule(c, r, at)
	}
	all := m.table(c)
	for at, n := range c.Bands {
		m.tell(n <= 0 || n > 32, 14, at)
	}
	m.tell(c.Drain <= 0 || c.Drain > 64 || c.Drain*len(c.Table) <= all, 15, 0)
	m.tell(min(c.Pause, c.Off) <= 0 || max(c.Pause, c.Off) > 100000, 16, 0)
	m.tell(c.Log <= 0 || c.Log > 256, 17, 0)
	if len(m.broken) == 0 {
		return 0, 0, all
	}
	slices.SortFunc(m.broken, func(a, b [2]int) int { return slices.Compare(a[:], b[:]) })
	return m.broken[0][0], m.broken[0][1], all
}

func wantByModel(t *testing.T, c api.Config) int {
	t.Helper()
	n, at, all := modelFirst(c)
	wantFirst(t, c, n, at)
	if got := check.Entries(c); got != all {
		t.Errorf("Entries: %d, want %d", got, all)
	}
	return n
}

// drawNumber is one about which a bound lies, or a little one.
func drawNumber(draw *rand.Rand) int {
	some := []int{0, 1, 3, 4, 8, 32, 64, 256, 10000, 100000, most, least, math.MaxInt, math.MinInt}
	switch draw.Intn(3) {
	case 0:
		return draw.Intn(14) - 3
	case 1:
		return some[draw.Intn(len(some))]
	}
	return some[draw.Intn(len(some))] + draw.Intn(3) - 1
}

// place is a place in a list, or false.
func place[T any](draw *rand.Rand, list []T) (int, bool) {
	if len(list) == 0 {
		return 0, false
	}
	return draw.Intn(len(list)), true
}

// turnRule turns a number of a rule, or its stages.
func turnRule(draw *rand.Rand, r *api.Rule) {
	n := drawNumber(draw)
	switch draw.Intn(10) {
	case 0:
		r.Kind = byte(n)
	case 1:
		r.Kind = byte(draw.Intn(6) + 1)
	case 2:
		r.Signal = n
	case 3:
		r.Limit = n
	case 4:
		r.Back = n
	case 5:
		r.Delay = int64(n)
	case 6:
		r.Span = int64(n)
	case 7:
		r.Priority = byte(n)
	case 8:
		r.Stages = append(slices.Clone(r.Stages), api.Stage{Wait: int64(n), Priority: byte(draw.Intn(5))})
	case 9:
		if i, ok := place(draw, r.Stages); ok {
			r.Stages = slices.Clone(r.Stages)
			r.Stages[i].Priority = byte(draw.Intn(5))
		}
	}
}

// turnTable turns a slot, or how many there are.
func turnTable(draw *rand.Rand, c *api.Config) {
	at, ok := place(draw, c.Table)
	if !ok {
		c.Table = append(c.Table, []int{0})
		return
	}
	slot := slices.Clone(c.Table[at])
	switch i, ok := place(draw, slot); draw.Intn(5) {
	case 0:
		slot = append(slot, draw.Intn(len(c.Rules)+1))
	case 1:
		slot = append(slot, drawNumber(draw))
	case 2:
		if ok {
			slot = slices.Delete(slot, i, i+1)
		}
	case 3:
		c.Table = append(c.Table, slot)
	case 4:
		c.Table = slices.Delete(c.Table, at, at+1)
		return
	}
	c.Table[at] = slot
}

// turn turns one thing of a configuration.
func turn(draw *rand.Rand, c *api.Config) {
	n := drawNumber(draw)
	switch draw.Intn(12) {
	case 0:
		if at, ok := place(draw, c.Signals); ok {
			c.Signals[at].Min = n
		}
	case 1:
		if at, ok := place(draw, c.Signals); ok {
			c.Signals[at].Max = n
		}
	case 2:
		c.Signals = slices.Repeat([]api.Signal{{Max: 5}}, draw.Intn(11))
	case 3:
		c.Bands[draw.Intn(3)] = n
	case 4:
		c.Drain = n
	case 5:
		c.Drain = draw.Intn(66)
	case 6:
		c.Pause, c.Off, c.Log = c.Pause^int64(draw.Intn(2)), int64(n), c.Log^draw.Intn(2)
	case 7, 8:
		turnTable(draw, c)
	default:
		if at, ok := place(draw, c.Rules); ok {
			turnRule(draw, &c.Rules[at])
		}
	}
}

func TestAgainstModel(t *testing.T) {
	draw := rand.New(rand.NewSource(13))
	told := map[int]int{}
	for range 40000 {
		c := makers()[draw.Intn(2)]()
		for range draw.Intn(5) {
			turn(draw, &c)
		}
		told[wantByModel(t, c)]++
		if t.Failed() {
			return
		}
	}
	for n := range 18 {
		if n != 1 && n != 3 && n != 11 && told[n] < 100 { // these three have tests of their own
			t.Errorf("of number %d there were only %d", n, told[n])
		}
	}
}

// Configurations of any numbers and lists at all.
func TestAnyConfiguration(t *testing.T) {
	draw := rand.New(rand.NewSource(14))
	for range 5000 {
		var c api.Config
		c.Signals = make([]api.Signal, draw.Intn(11))
		c.Rules = make([]api.Rule, draw.Intn(36))
		c.Table = make([][]int, draw.Intn(70))
		for range draw.Intn(300) {
			turn(draw, &c)
		}
		wantByModel(t, c)
		if t.Failed() {
			return
		}
	}
}

// roomy is a list of the same, with room for more behind it, in which there is something.
func roomy[T any](list []T, behind T) []T {
	room := append(slices.Clone(list), behind, behind)
	return room[:len(list)]
}

// Neither in a list nor in the room behind it is anything written.
func TestNothingIsWritten(t *testing.T) {
	rule, signal, stage := api.Rule{Kind: 99}, api.Signal{Min: 99}, api.Stage{Wait: 99}
	for _, f := range append(faults(), fault{turn: func(c *api.Config) {}}) {
		c := full()
		f.turn(&c)
		c.Signals, c.Rules, c.Table = roomy(c.Signals, signal), roomy(c.Rules, rule), roomy(c.Table, []int{99})
		for i := range c.Rules {
			c.Rules[i].Stages = roomy(c.Rules[i].Stages, stage)
		}
		for i := range c.Table {
			c.Table[i] = roomy(c.Table[i], 99)
		}
		wantFirst(t, c, f.n, f.at)
		check.Entries(c)
		c.Signals, c.Rules, c.Table = c.Signals[:len(c.Signals)+2], c.Rules[:len(c.Rules)+2], c.Table[:len(c.Table)+2]
		if !slices.Equal(c.Signals[len(c.Signals)-2:], []api.Signal{signal, signal}) {
			t.Error("behind the signals:", c.Signals)
		}
		for _, r := range c.Rules[len(c.Rules)-2:] {
			if !sameRule(r, rule) {
				t.Error("behind the rules:", r)
			}
		}
		for _, r := range c.Rules[:len(c.Rules)-2] {
			if end := len(r.Stages); !slices.Equal(r.Stages[:end+2][end:], []api.Stage{stage, stage}) {
				t.Error("behind the stages:", r)
			}
		}
		for i, slot := range c.Table {
			if end := len(slot); i < len(c.Table)-2 && !slices.Equal(slot[:end+2][end:], []int{99, 99}) {
				t.Error("behind a slot:", slot)
			}
		}
	}
}

// An answer hangs on what was handed in alone, not on what was asked before.
func TestEachCallIsItsOwn(t *testing.T) {
	right := full()
	for _, f := range faults() {
		wrong := full()
		f.turn(&wrong)
		wantFirst(t, wrong, f.n, f.at)
		wantRight(t, right)
	}
}
