package intake_test

import (
	"math"
	"math/big"
	"testing"

	"handbell/api"
	"handbell/intake"
)

// times is some of every kind, most of which never come to be.
func times() []int64 {
	return []int64{least, -most, -1, 0, 1, 7, 20, most - 1, most, most + 1, last}
}

func TestNil(t *testing.T) {
	var n *intake.Intake
	for _, now := range times() {
		for _, rule := range []int{math.MinInt, -1, 0, 1, math.MaxInt} {
			wantOffer(t, n, now, rule, true, false)
			wantOffer(t, n, now, rule, false, false)
		}
		wantOver(t, n, now, false)
	}
	wantDrain(t, n)
	wantCounts(t, n, 0, 0, 0, 0)
}

func TestNoSuchRule(t *testing.T) {
	for _, rules := range []int{1, 2, api.MaxRules} {
		priorities := make([]byte, rules)
		for i := range priorities {
			priorities[i] = api.High
		}
		n := intake.New(config([3]int{1, 1, 1}, 64, priorities...))
		for range 2 { // with room, and without any
			for _, rule := range []int{math.MinInt, -rules, -1, rules, rules + 1, math.MaxInt} {
				wantOffer(t, n, 1, rule, true, true)
				wantOffer(t, n, 1, rule, false, true)
				wantOver(t, n, 1, false)
			}
			wantOffer(t, n, 1, rules-1, true, true)
			wantCounts(t, n, 0, 0, 1, 0)
		}
		wantDrain(t, n, event(rules-1, true, 1))
	}
}

// Of a configuration without rules, each is none.
func TestNoRules(t *testing.T) {
	n := intake.New(api.Config{Bands: [3]int{1, 1, 1}, Table: make([][]int, 1), Drain: 1})
	wantOffer(t, n, 1, 0, true, true)
	wantDrain(t, n)
	wantCounts(t, n, 0, 0, 0, 0)
}

// Any number is a time of an event.
func TestEventsOfEveryTime(t *testing.T) {
	n := intake.New(config([3]int{1, 1, 1}, 1, api.Low))
	on := true
	for _, now := range times() {
		wantOffer(t, n, now, 0, on, true)
		wantDrain(t, n, event(0, on, now))
		on = !on
	}
}

// since is layer 3's, of numbers without bounds.
func since(now, then int64) int64 {
	ago := new(big.Int).Sub(big.NewInt(now), big.NewInt(then))
	if ago.Sign() < 0 {
		return 0
	}
	if ago.Cmp(big.NewInt(most)) > 0 {
		return most
	}
	return ago.Int64()
}

func TestOverOfEveryTime(t *testing.T) {
	for _, first := range times() {
		for _, second := range times() {
			for _, many := range []int{1, 8, 64} {
				one, two := refusing(many, first), refusing(many, first, second)
				for _, now := range times() {
					at, then := since(now, first) < int64(many), since(now, second) < int64(many)
					wantOver(t, one, now, at)
					wantOver(t, two, now, at || then)
				}
			}
		}
	}
}

// Whatever a configuration is, each call ends, and none panics.
func TestEveryConfiguration(t *testing.T) {
	numbers := []int{math.MinInt, -1, 0, 1, 2, math.MaxInt}
	for _, room := range numbers {
		for _, drain := range numbers {
			for _, priority := range []byte{0, 1, 2, 3, 4, 255} {
				for many := range 3 {
					c := config([3]int{room, room, room}, drain, priority, priority, priority)
					c.Table = make([][]int, many)
					askAll(intake.New(c))
				}
			}
		}
	}
	askAll(intake.New(api.Config{}))
}

func askAll(n *intake.Intake) {
	for _, now := range times() {
		for rule := range 4 {
			n.Offer(now, rule, true)
			n.Offer(now, rule, false)
			n.Over(now)
		}
		n.Drain()
		n.Waiting()
		n.Refused()
	}
}
