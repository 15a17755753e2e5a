package intake_test

import (
	"reflect"
	"slices"
	"testing"

	"handbell/api"
	"handbell/intake"
)

func TestConfigurationMayBeWrittenOver(t *testing.T) {
	c := slots(config([3]int{1, 2, 1}, 2, api.Low, api.Medium, api.Medium, api.Low), 3)
	n := intake.New(c)
	for i := range c.Rules {
		c.Rules[i] = api.Rule{Priority: api.High}
	}
	for i := range c.Table {
		c.Table[i] = []int{9}
	}
	wantOffer(t, n, 1, 1, true, true)
	wantOffer(t, n, 1, 2, true, true)
	wantOffer(t, n, 1, 0, true, true)
	wantOffer(t, n, 1, 3, true, false)
	wantCounts(t, n, 1, 2, 0, 1)
	wantOver(t, n, 3, true)
	wantOver(t, n, 4, false)
	wantDrain(t, n, event(1, true, 1), event(2, true, 1))
	wantDrain(t, n, event(0, true, 1))
}

func TestConfigurationStaysAsItWas(t *testing.T) {
	c := slots(config([3]int{1, 1, 1}, 2, api.Low, api.Low), 2)
	c.Rules[0].Stages = []api.Stage{{Wait: 5, Priority: api.High}}
	was := c
	was.Rules, was.Table = slices.Clone(c.Rules), slices.Clone(c.Table)
	was.Table[0] = slices.Clone(c.Table[0])
	was.Rules[0].Stages = slices.Clone(c.Rules[0].Stages)
	askAll(intake.New(c))
	if !reflect.DeepEqual(c, was) {
		t.Errorf("the configuration is %v, was %v", c, was)
	}
}

func TestDrainedMayBeWrittenOver(t *testing.T) {
	n := intake.New(config([3]int{3, 1, 1}, 2, api.Low, api.Low, api.Low))
	for rule := range 3 {
		wantOffer(t, n, 1, rule, true, true)
	}
	first := n.Drain()
	for i := range first {
		first[i] = event(7, false, 7)
	}
	first = append(first[:0], event(8, true, 8), event(8, true, 8))
	second := n.Drain()
	if len(second) != 1 || second[0] != event(2, true, 1) {
		t.Error(second)
	}
	second[0] = event(9, false, 9)
	if first[0] != event(8, true, 8) || first[1] != event(8, true, 8) {
		t.Error("what is drained shares what was:", first)
	}
	for rule := range 3 {
		wantOffer(t, n, 2, rule, true, true) // each was told
	}
	wantCounts(t, n, 0, 0, 0, 0)
}

// Two intakes of a configuration know nothing of each other.
func TestEachIsItsOwn(t *testing.T) {
	c := config([3]int{1, 1, 1}, 1, api.Low, api.Low)
	a, b := intake.New(c), intake.New(c)
	wantOffer(t, a, 1, 0, true, true)
	wantOffer(t, a, 1, 1, true, false)
	wantCounts(t, b, 0, 0, 0, 0)
	wantOver(t, b, 1, false)
	wantOffer(t, b, 2, 1, true, true)
	wantDrain(t, b, event(1, true, 2))
	wantDrain(t, a, event(0, true, 1))
}
