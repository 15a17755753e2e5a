package ladder_test

import (
	"math"
	"testing"

	"handbell/api"
	"handbell/check"
	"handbell/ladder"
	"handbell/life"
)

const (
	most  = int64(api.MaxTick)
	last  = int64(math.MaxInt64)
	least = int64(math.MinInt64)
)

// times are those about which the bounds of ticks and of 64 bits lie.
func times() []int64 {
	return []int64{least, least + 1, -most - 1, -most, -1, 0, 1, 4, 5, 7, 20, most - 1, most, most + 1, last - 1, last}
}

// below are numbers of stages that are 0 or less.
func below() []int { return []int{0, -1, -2, -5, -1 << 40, math.MinInt + 1, math.MinInt} }

// beyond are more stages than there are.
func beyond(stages []api.Stage) []int {
	n := len(stages)
	return []int{n + 1, n + 2, n + 5, 1 << 40, math.MaxInt - 1, math.MaxInt}
}

// stage is one of that wait and priority.
func stage(wait int64, priority byte) api.Stage { return api.Stage{Wait: wait, Priority: priority} }

// rule is one of that priority and those stages.
func rule(priority byte, stages ...api.Stage) api.Rule {
	return api.Rule{Kind: api.Above, Limit: 120, Back: 110, Priority: priority, Latch: true, Stages: stages}
}

// none is a rule without stages, example the chapter's, single of one stage,
// and four of as many as there may be, of waits from the least to the most.
func none() api.Rule    { return rule(api.Medium) }
func example() api.Rule { return rule(api.Low, stage(5, api.Medium), stage(10, api.High)) }
func single() api.Rule  { return rule(api.Low, stage(7, api.High)) }

func four() api.Rule {
	return rule(api.Low, stage(1, api.Low), stage(api.MaxWait, api.Medium), stage(3, api.Medium), stage(20, api.High))
}

func rules() []api.Rule {
	return []api.Rule{
		none(), rule(api.Low), rule(api.High), example(), single(), four(),
		rule(api.High, stage(4, api.High)),
		rule(api.Medium, stage(1, api.Medium), stage(1, api.High), stage(1, api.High)),
		rule(api.Low, stage(api.MaxWait, api.High), stage(api.MaxWait, api.High), stage(api.MaxWait, api.High), stage(api.MaxWait, api.High)),
	}
}

// isRight: is it so, where the rule stands in a configuration that is right but for it?
func isRight(r api.Rule) bool {
	return check.Right(api.Config{
		Signals: []api.Signal{{Min: 0, Max: 300}}, Rules: []api.Rule{r}, Table: [][]int{{0}},
		Bands: [3]int{4, 4, 4}, Drain: 2, Pause: 9, Off: 9, Log: 9,
	})
}

func TestRulesAreRight(t *testing.T) {
	for _, r := range rules() {
		if !isRight(r) {
			t.Errorf("%+v isn't right", r)
		}
	}
}

func wantSum(t *testing.T, stages []api.Stage, k int, want int64) {
	t.Helper()
	if got := ladder.Sum(stages, k); got != want {
		t.Errorf("Sum of %v, %d: %d, want %d", stages, k, got, want)
	}
}

func wantReached(t *testing.T, stages []api.Stage, d int64, want int) {
	t.Helper()
	if got := ladder.Reached(stages, d); got != want {
		t.Errorf("Reached of %v, %d: %d, want %d", stages, d, got, want)
	}
}

func wantPriority(t *testing.T, r api.Rule, stage int, want byte) {
	t.Helper()
	if got := ladder.Priority(r, stage); got != want {
		t.Errorf("Priority of %d and %v, %d: %d, want %d", r.Priority, r.Stages, stage, got, want)
	}
}

func wantClimb(t *testing.T, r api.Rule, l life.Life, now int64, want life.Life) {
	t.Helper()
	if got := ladder.Climb(r, l, now); got != want {
		t.Errorf("Climb of %v, %+v, %d: %+v, want %+v", r.Stages, l, now, got, want)
	}
}

// loud, acked and unlit are lives whose cause came at a time, and that have a Stage.
func loud(since int64, stage int) life.Life {
	return life.Life{On: true, Lit: true, Since: since, Stage: stage}
}

func acked(since int64, stage int) life.Life {
	return life.Life{On: true, Lit: true, Acked: true, Since: since, Stage: stage}
}

// latched is one that stays lit behind its cause.
func latched(since int64, stage int) life.Life {
	return life.Life{Lit: true, Since: since, Stage: stage}
}

func TestExample(t *testing.T) {
	stages := example().Stages
	wantReached(t, stages, 4, 0)
	wantReached(t, stages, 5, 1)
	wantReached(t, stages, 14, 1)
	wantReached(t, stages, 15, 2)
}

func TestSum(t *testing.T) {
	for _, x := range []struct {
		r    api.Rule
		sums []int64
	}{
		{none(), []int64{0}},
		{single(), []int64{0, 7}},
		{example(), []int64{0, 5, 15}},
		{four(), []int64{0, 1, 100001, 100004, 100024}},
	} {
		for k, want := range x.sums {
			wantSum(t, x.r.Stages, k, want)
		}
		for _, k := range below() {
			wantSum(t, x.r.Stages, k, 0)
		}
		for _, k := range beyond(x.r.Stages) {
			wantSum(t, x.r.Stages, k, x.sums[len(x.sums)-1])
		}
	}
}

// At the very tick, at the one ahead of it, and at the one behind it.
func TestReachedAtTheVeryTick(t *testing.T) {
	for _, r := range rules() {
		for k := 1; k <= len(r.Stages); k++ {
			at := ladder.Sum(r.Stages, k)
			wantReached(t, r.Stages, at-1, k-1)
			wantReached(t, r.Stages, at, k)
		}
	}
	stages := four().Stages
	wantReached(t, stages, 2, 1)
	wantReached(t, stages, 100002, 2)
	wantReached(t, stages, 100005, 3)
	wantReached(t, stages, 100025, 4)
}

func TestReachedOfNoTime(t *testing.T) {
	for _, r := range rules() {
		for _, d := range []int64{0, -1, -5, -15, -most, least + 1, least} {
			wantReached(t, r.Stages, d, 0)
		}
	}
}

// All of them, and no more.
func TestReachedOfMuchTime(t *testing.T) {
	for _, r := range rules() {
		for _, d := range []int64{4 * api.MaxWait, most - 1, most, most + 1, last - 1, last} {
			wantReached(t, r.Stages, d, len(r.Stages))
		}
	}
}

func TestWithoutStages(t *testing.T) {
	for _, stages := range [][]api.Stage{nil, {}, example().Stages[:0]} {
		for _, n := range times() {
			wantSum(t, stages, int(n), 0)
			wantReached(t, stages, n, 0)
			wantPriority(t, rule(api.Low, stages...), int(n), api.Low)
			wantPriority(t, rule(api.High, stages...), int(n), api.High)
			wantClimb(t, rule(api.Low, stages...), loud(3, 0), n, loud(3, 0))
		}
	}
}

func TestPriority(t *testing.T) {
	for _, x := range []struct {
		r    api.Rule
		want []byte // of the stages from 0 on
	}{
		{none(), []byte{api.Medium}},
		{single(), []byte{api.Low, api.High}},
		{example(), []byte{api.Low, api.Medium, api.High}},
		{four(), []byte{api.Low, api.Low, api.Medium, api.Medium, api.High}},
		{rule(api.Medium, stage(9, api.Medium), stage(9, api.High)), []byte{api.Medium, api.Medium, api.High}},
		{rule(api.High, stage(9, api.High)), []byte{api.High, api.High}},
	} {
		for stage, want := range x.want {
			wantPriority(t, x.r, stage, want)
		}
		for _, stage := range below() {
			wantPriority(t, x.r, stage, x.want[0])
		}
		for _, stage := range beyond(x.r.Stages) {
			wantPriority(t, x.r, stage, x.want[len(x.want)-1])
		}
	}
}

func TestClimb(t *testing.T) {
	for _, l := range []life.Life{loud(100, 0), latched(100, 0)} {
		for now, want := range map[int64]int{100: 0, 101: 0, 104: 0, 105: 1, 106: 1, 114: 1, 115: 2, 116: 2, 999: 2} {
			grown := l
			grown.Stage = want
			wantClimb(t, example(), l, now, grown)
			wantClimb(t, example(), grown, now, grown)
			wantClimb(t, none(), l, now, l)
		}
	}
}

// A Stage that is greater already stays, also one beyond those that there are.
func TestClimbNeverFalls(t *testing.T) {
	for _, x := range []struct {
		now         int64
		stage, want int
	}{
		{104, 1, 1}, {104, 2, 2}, {104, 3, 3}, {105, 0, 1}, {105, 1, 1}, {105, 2, 2}, {114, 2, 2}, {114, 9, 9},
		{115, 0, 2}, {115, 1, 2}, {115, 2, 2}, {115, 3, 3}, {999, 3, 3}, {999, math.MaxInt, math.MaxInt},
	} {
		wantClimb(t, example(), loud(100, x.stage), x.now, loud(100, x.want))
		wantClimb(t, example(), latched(100, x.stage), x.now, latched(100, x.want))
		wantClimb(t, none(), loud(100, x.stage), x.now, loud(100, x.stage))
	}
}

// What is acknowledged, or isn't lit, grows no more, also where it grew before.
func TestClimbOfWhatIsNotLoud(t *testing.T) {
	for _, r := range rules() {
		for _, now := range times() {
			for stage := range 6 {
				l := loud(3, stage).Ack()
				wantClimb(t, r, l, now, acked(3, stage))
				l = l.Event(9, false, true)
				wantClimb(t, r, l, now, life.Life{Lit: true, Acked: true, Since: 3, Stage: stage})
				wantClimb(t, r, l.Reset(), now, life.Life{})
			}
			wantClimb(t, r, life.Life{}, now, life.Life{})
			wantClimb(t, r, loud(3, 0).Event(9, false, false), now, life.Life{})
		}
	}
}

// A cause that comes again begins at the bottom.
func TestClimbAnew(t *testing.T) {
	l := ladder.Climb(example(), loud(100, 0), 130)
	l = l.Ack().Event(140, false, true)
	wantClimb(t, example(), l, 150, life.Life{Lit: true, Acked: true, Since: 100, Stage: 2})
	l = l.Event(150, true, true)
	wantClimb(t, example(), l, 154, loud(150, 0))
	wantClimb(t, example(), l, 155, loud(150, 1))
	wantClimb(t, example(), l, 165, loud(150, 2))
}

// A Since that is later than now is one of no ticks ago.
func TestClimbOfLaterSince(t *testing.T) {
	for stage := range 4 {
		for _, x := range [][2]int64{{100, 99}, {100, 95}, {100, 85}, {100, 0}, {100, -20}, {0, -1}, {most, 5}, {last, 0}, {last, least}, {0, least}} {
			wantClimb(t, example(), loud(x[0], stage), x[1], loud(x[0], stage))
			wantClimb(t, example(), loud(x[0], stage), x[0], loud(x[0], stage))
		}
	}
}

// Times beyond what a tick may be: how far they are apart, and no wrap-round.
func TestClimbBeyondTicks(t *testing.T) {
	for _, x := range []struct {
		since, now int64
		want       int
	}{
		{-3, 1, 0}, {-3, 2, 1}, {-3, 11, 1}, {-3, 12, 2}, {-15, 0, 2}, {-15, -1, 1},
		{most - 5, most, 1}, {most, most + 4, 0}, {most, most + 5, 1}, {most, most + 15, 2}, {0, most, 2},
		{last - 4, last, 0}, {last - 5, last, 1}, {last - 14, last, 1}, {last - 15, last, 2},
		{least, least, 0}, {least, least + 4, 0}, {least, least + 5, 1}, {least, least + 15, 2},
		{least, 0, 2}, {least, last, 2}, {-1, last, 2}, {0, last, 2}, {-most, most, 2},
	} {
		wantClimb(t, example(), loud(x.since, 0), x.now, loud(x.since, x.want))
		wantClimb(t, example(), acked(x.since, 0), x.now, acked(x.since, 0))
	}
}
