package ladder_test

import (
	"fmt"
	"math"
	"slices"
	"testing"

	"handbell/api"
	"handbell/ladder"
	"handbell/life"
)

// everyLife is one of each kind, also of those that never come to be, at a Since and a Stage.
func everyLife(since int64, stage int) []life.Life {
	var all []life.Life
	for bits := range 8 {
		all = append(all, life.Life{On: bits&1 > 0, Lit: bits&2 > 0, Acked: bits&4 > 0, Since: since, Stage: stage})
	}
	return all
}

// apart: how many ticks since a time, of numbers that may be any.
func apart(now, since int64) int64 {
	if now <= since {
		return 0
	}
	if far := float64(now) - float64(since); far > float64(most) {
		return most
	}
	return now - since
}

// Every life at every time, of each rule: the Stage alone grows, and only if it is loud.
func TestEveryLife(t *testing.T) {
	for _, r := range []api.Rule{none(), single(), example()} {
		for _, since := range times() {
			for _, stage := range []int{0, 1, 2, 3, 1 << 40, math.MaxInt, -1, -2, math.MinInt} {
				for _, l := range everyLife(since, stage) {
					for _, now := range times() {
						want := l
						if reached := counted(r.Stages, min(apart(now, since), 99)); l.Lit && !l.Acked && reached > stage {
							want.Stage = reached
						}
						wantClimb(t, r, l, now, want)
					}
				}
			}
		}
	}
}

// A Stage below 0, which never comes to be, is less than what is reached, also where that is none.
func TestStageBelowNone(t *testing.T) {
	for _, stage := range below() {
		wantClimb(t, example(), loud(100, stage), 100, loud(100, 0))
		wantClimb(t, example(), loud(100, stage), 90, loud(100, 0))
		wantClimb(t, example(), loud(100, stage), 105, loud(100, 1))
		wantClimb(t, none(), loud(100, stage), 105, loud(100, 0))
		wantClimb(t, example(), acked(100, stage), 105, acked(100, stage))
	}
}

// What never comes to be, but isn't loud, stays; a latched one that isn't On is loud.
func TestNeverComesToBe(t *testing.T) {
	for _, l := range []life.Life{
		{On: true, Since: 3, Stage: 1}, {On: true, Acked: true, Since: 3}, {Acked: true, Since: 3, Stage: -1}, {Since: 3, Stage: 1}, {Stage: -1},
	} {
		for _, now := range times() {
			wantClimb(t, example(), l, now, l)
		}
	}
	wantClimb(t, example(), latched(3, 0), 8, latched(3, 1))
}

// Of stages that aren't right nothing is promised; but each call ends.
func TestStagesThatAreNotRight(t *testing.T) {
	many := make([]api.Stage, 200000)
	for i := range many {
		many[i] = stage(1, api.Low)
	}
	wantReached(t, many, 150000, 150000)
	wantSum(t, many, 150001, 150001)
	for _, stages := range [][]api.Stage{
		many, {stage(0, 0)}, {stage(-5, 9), stage(7, 1)}, {stage(last, 255), stage(last, 0), stage(least, 3)}, {stage(least, 1), stage(-1, 1)},
	} {
		for _, n := range times() {
			r := rule(200, stages...)
			ladder.Sum(stages, int(n))
			ladder.Reached(stages, n)
			ladder.Priority(r, int(n))
			ladder.Climb(r, loud(n, int(n)), n)
			ladder.Climb(r, loud(0, 0), n)
		}
	}
}

// asked is r, of which all was asked, at many numbers and times.
func asked(r api.Rule) {
	for _, n := range times() {
		ladder.Sum(r.Stages, int(n))
		ladder.Reached(r.Stages, n)
		ladder.Priority(r, int(n))
		for _, l := range everyLife(3, 1) {
			ladder.Climb(r, l, n)
		}
	}
}

// The stages and the rule stay as they were, and what is behind the stages, too.
func TestNothingIsWritten(t *testing.T) {
	for _, r := range rules() {
		room := append(slices.Clone(r.Stages), stage(99, 99), stage(98, 98))
		was, whole := fmt.Sprint(r), slices.Clone(room)
		r.Stages = room[:len(r.Stages)]
		asked(r)
		if fmt.Sprint(r) != was || !slices.Equal(room, whole) {
			t.Errorf("%v of %v, was %v", r, room, was)
		}
	}
}

func TestLifeStays(t *testing.T) {
	for stage := range 3 {
		for i, l := range everyLife(3, stage) {
			asked := &l
			grown := ladder.Climb(example(), *asked, 99)
			if *asked != everyLife(3, stage)[i] {
				t.Errorf("%+v, was %+v", *asked, everyLife(3, stage)[i])
			}
			grown.Stage, grown.Since = 7, 50 // what was answered may be written over
			if *asked != everyLife(3, stage)[i] {
				t.Errorf("%+v, was %+v", *asked, everyLife(3, stage)[i])
			}
		}
	}
}

// An answer hangs on what was handed in alone: what is written over later, and asked anew, is asked as it is then.
func TestEachCallIsItsOwn(t *testing.T) {
	r := example()
	for range 2 {
		wantReached(t, r.Stages, 5, 1)
		wantClimb(t, r, loud(0, 0), 15, loud(0, 2))
		r.Stages[0].Wait, r.Stages[1].Priority = 6, api.Medium
		wantSum(t, r.Stages, 2, 16)
		wantReached(t, r.Stages, 5, 0)
		wantPriority(t, r, 2, api.Medium)
		wantClimb(t, r, loud(0, 0), 15, loud(0, 1))
		wantClimb(t, single(), loud(0, 0), 15, loud(0, 1))
		r = example()
	}
}
