package life_test

import (
	"math"
	"testing"

	"handbell/life"
)

// stages are some that come to be, and some that never do.
func stages() []int { return []int{0, 1, 2, 4, 5, 1 << 40, math.MaxInt, -1, -2, math.MinInt} }

// row is what becomes of a life of these letters: of each of its fields, a
// letter or a dash for On, Lit and Acked, and then n, where Since is now and
// Stage 0, k, where both are as they were, and 0, where both are 0.
type row struct {
	letters                          string
	comes, latched, goes, ack, reset string
	loud                             bool
}

// rows are all that there are; the last three never come to be.
func rows() []row {
	return []row{
		{"---", "OL-n", "---k", "---k", "---k", "---k", false},
		{"OL-", "OL-k", "-L-k", "---0", "OLAk", "OL-k", true},
		{"OLA", "OLAk", "-LAk", "---0", "OLAk", "OLAk", false},
		{"-L-", "OL-n", "-L-k", "-L-k", "-LAk", "---0", true},
		{"-LA", "OL-n", "-LAk", "-LAk", "-LAk", "---0", false},
		{"O--", "O--k", "---k", "---0", "O--k", "O--k", false},
		{"O-A", "O-Ak", "--Ak", "---0", "O-Ak", "O-Ak", false},
		{"--A", "OL-n", "--Ak", "--Ak", "--Ak", "--Ak", false},
	}
}

func everyLetters() []string {
	var all []string
	for _, r := range rows() {
		all = append(all, r.letters)
	}
	return all
}

// then is what a cell of a row says of a life that has that Since and Stage, at a time.
func then(cell string, l life.Life, now int64) life.Life {
	switch cell[3] {
	case 'n':
		return of(cell, now, 0)
	case 'k':
		return of(cell, l.Since, l.Stage)
	}
	return of(cell, 0, 0)
}

func wantRow(t *testing.T, r row, l life.Life, now int64) {
	t.Helper()
	wantDeed(t, l, comes(now, false), then(r.comes, l, now))
	wantDeed(t, l, comes(now, true), then(r.comes, l, now))
	wantDeed(t, l, goes(now, true), then(r.latched, l, now))
	wantDeed(t, l, goes(now, false), then(r.goes, l, now))
	wantDeed(t, l, ack(), then(r.ack, l, now))
	wantDeed(t, l, reset(), then(r.reset, l, now))
	wantLoud(t, l, r.loud)
}

// Each life, also one that never comes to be, at every Since, Stage and time.
func TestEveryLife(t *testing.T) {
	for _, r := range rows() {
		for _, since := range times() {
			for _, stage := range stages() {
				for _, now := range times() {
					wantRow(t, r, of(r.letters, since, stage), now)
				}
			}
		}
	}
}

// Only that its cause goes changes it.
func TestOnAndNotLit(t *testing.T) {
	l := of("O--", 6, 2)
	wantLoud(t, l, false)
	wantDeed(t, l, comes(9, true), l)
	wantDeed(t, l, ack(), l)
	wantDeed(t, l, reset(), l)
	wantDeed(t, l, goes(9, true), of("---", 6, 2))
	wantDeed(t, l, goes(9, false), none())
}

func TestAckedAndNotLit(t *testing.T) {
	l := of("--A", 6, 2)
	wantLoud(t, l, false)
	wantDeed(t, l, goes(9, true), l)
	wantDeed(t, l, goes(9, false), l)
	wantDeed(t, l, ack(), l)
	wantDeed(t, l, reset(), l)
	wantDeed(t, l, comes(9, false), of("OL-", 9, 0))
}

// A life that is not On and not Lit, but has a Since or a Stage, isn't tidied by what does nothing.
func TestNothingButNumbers(t *testing.T) {
	for _, stage := range []int{-1, 0, 3} {
		l := of("---", -6, stage)
		wantLoud(t, l, false)
		wantDeed(t, l, goes(9, false), l)
		wantDeed(t, l, ack(), l)
		wantDeed(t, l, reset(), l)
		wantDeed(t, l, comes(9, true), of("OL-", 9, 0))
	}
}
