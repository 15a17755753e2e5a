package hush_test

import (
	"math/big"
	"testing"

	"handbell/hush"
)

// everyHush is those of every kind of time and mark, most of which never come to be.
func everyHush() []hush.Hush {
	var all []hush.Hush
	for _, until := range times() {
		for _, till := range times() {
			for _, mark := range []byte{0, 1, 3, 4, 255} {
				all = append(all, both(until, till, mark))
			}
		}
	}
	return all
}

// added is layer 3's sum, of numbers without bounds.
func added(t, d int64) int64 {
	sum := new(big.Int).Add(big.NewInt(t), big.NewInt(d))
	if sum.Sign() < 0 {
		return 0
	}
	if sum.Cmp(big.NewInt(most)) > 0 {
		return most
	}
	return sum.Int64()
}

// lesser of both.
func lesser(a, b int64) int64 {
	if a < b {
		return a
	}
	return b
}

func TestAskedOfEveryHush(t *testing.T) {
	for _, h := range everyHush() {
		for _, now := range times() {
			wantQuiet(t, h, now, now < h.Until, now < h.Off)
		}
	}
}

func TestBreakOfEveryHush(t *testing.T) {
	for _, h := range everyHush() {
		for _, now := range times() {
			for _, priority := range priorities() {
				want := h
				if now < h.Until && priority > h.Mark {
					want.Until = now
				}
				wantBreak(t, h, now, priority, want)
			}
		}
	}
}

// The end is of now, t and most alone: one that is there already adds nothing to it.
func TestBegunOfEveryHush(t *testing.T) {
	for _, h := range everyHush() {
		for _, now := range []int64{0, 7, most - 1, most} {
			for _, n := range times() {
				end := added(now, lesser(n, 9))
				if n < 1 {
					wantPause(t, h, now, n, 9, 2, h)
					wantSilence(t, h, now, n, 9, h)
					continue
				}
				wantPause(t, h, now, n, 9, 2, both(end, h.Off, 2))
				wantSilence(t, h, now, n, 9, both(h.Until, end, h.Mark))
			}
		}
	}
}

// Times and mosts of all kinds, also beyond what a tick may be.
func TestBegunAtEveryTime(t *testing.T) {
	h := both(5, 6, 200)
	for _, now := range times() {
		for _, n := range times() {
			for _, bound := range times() {
				if n < 1 {
					wantPause(t, h, now, n, bound, 7, h)
					wantSilence(t, h, now, n, bound, h)
					continue
				}
				end := added(now, lesser(n, bound))
				for _, mark := range priorities() {
					wantPause(t, h, now, n, bound, mark, both(end, 6, mark))
				}
				wantSilence(t, h, now, n, bound, both(5, end, 200))
			}
		}
	}
}

// asked is h, of which all was asked, and the answers written over.
func asked(h hush.Hush) {
	for _, n := range times() {
		for _, answer := range []hush.Hush{
			h.Pause(n, 9, 4, 3), h.Pause(n, n, n, 3), h.Silence(n, 9, 4), h.Silence(n, n, n), h.Break(n, 255), h.Break(n, 0), h.Pause(n, 0, 4, 3),
		} {
			answer.Until, answer.Off, answer.Mark = 77, 78, 79
		}
		h.Paused(n)
		h.IsOff(n)
		h.Silent(n)
	}
}

// A call answers another one, and the one that was asked stays as it was.
func TestHushStays(t *testing.T) {
	for _, h := range everyHush() {
		kept := &h
		was := *kept
		asked(*kept)
		if *kept != was {
			t.Errorf("%+v, was %+v", *kept, was)
		}
	}
	h := both(15, 18, 1)
	kept := &h
	kept.Pause(3, 4, 5, 6)
	kept.Silence(3, 4, 5)
	kept.Break(3, 6)
	if *kept != both(15, 18, 1) {
		t.Errorf("%+v", *kept)
	}
}

// An answer hangs on what was handed in alone.
func TestEachCallIsItsOwn(t *testing.T) {
	for range 2 {
		h := none().Pause(5, 9, 20, 1)
		wantPause(t, none(), 5, 9, 20, 1, h)
		wantBreak(t, h, 6, 2, paused(6, 1))
		wantQuiet(t, h, 6, true, false)
		wantQuiet(t, none(), 6, false, false)
		wantSilence(t, none(), 6, 2, 9, off(8))
	}
}
