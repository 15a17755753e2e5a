package hush_test

import (
	"math"
	"testing"

	"handbell/api"
	"handbell/hush"
)

const (
	most  = int64(api.MaxTick)
	last  = int64(math.MaxInt64)
	least = int64(math.MinInt64)
)

// times are those about which the bounds of ticks and of 64 bits lie.
func times() []int64 {
	return []int64{least, least + 1, -most - 1, -most, -1, 0, 1, 4, 7, 20, most - 1, most, most + 1, last - 1, last}
}

// ticks are those of them that a tick may be.
func ticks() []int64 { return []int64{0, 1, 4, 7, 20, most - 20, most - 1, most} }

// below are numbers of ticks of which nothing begins.
func below() []int64 { return []int64{0, -1, -5, -most, least + 1, least} }

// unranked is the priority of what has none.
const unranked = byte(0)

// priorities are those that there are, none, and others that a byte may be.
func priorities() []byte {
	return []byte{unranked, api.Low, api.Medium, api.High, 4, 5, 127, 128, 254, 255}
}

// none is one without a pause; paused is till a time and of a mark, off till a time.
func none() hush.Hush                         { return hush.Hush{} }
func paused(until int64, mark byte) hush.Hush { return hush.Hush{Until: until, Mark: mark} }
func off(till int64) hush.Hush                { return hush.Hush{Off: till} }

// both is a pause and an off.
func both(until, till int64, mark byte) hush.Hush {
	return hush.Hush{Until: until, Off: till, Mark: mark}
}

func wantPause(t *testing.T, h hush.Hush, now, ticks, most int64, mark byte, want hush.Hush) {
	t.Helper()
	if got := h.Pause(now, ticks, most, mark); got != want {
		t.Errorf("%+v: Pause of %d, %d, %d, %d: %+v, want %+v", h, now, ticks, most, mark, got, want)
	}
}

func wantSilence(t *testing.T, h hush.Hush, now, ticks, most int64, want hush.Hush) {
	t.Helper()
	if got := h.Silence(now, ticks, most); got != want {
		t.Errorf("%+v: Silence of %d, %d, %d: %+v, want %+v", h, now, ticks, most, got, want)
	}
}

func wantBreak(t *testing.T, h hush.Hush, now int64, priority byte, want hush.Hush) {
	t.Helper()
	if got := h.Break(now, priority); got != want {
		t.Errorf("%+v: Break of %d, %d: %+v, want %+v", h, now, priority, got, want)
	}
}

// wantQuiet asks all three: Silent is one of both.
func wantQuiet(t *testing.T, h hush.Hush, now int64, paused, off bool) {
	t.Helper()
	if got := h.Paused(now); got != paused {
		t.Errorf("%+v: Paused at %d: %v", h, now, got)
	}
	if got := h.IsOff(now); got != off {
		t.Errorf("%+v: IsOff at %d: %v", h, now, got)
	}
	if got := h.Silent(now); got != (paused || off) {
		t.Errorf("%+v: Silent at %d: %v", h, now, got)
	}
}

func TestExample(t *testing.T) {
	h := none().Pause(5, 9, 4, api.Low)
	wantQuiet(t, h, 8, true, false)
	wantQuiet(t, h, 9, false, false)
}

// What was never begun is never so.
func TestNone(t *testing.T) {
	for _, now := range ticks() {
		wantQuiet(t, none(), now, false, false)
		for _, priority := range priorities() {
			wantBreak(t, none(), now, priority, none())
		}
	}
}

// A t of most and more is one of most.
func TestLesserOfBoth(t *testing.T) {
	for _, x := range []struct{ now, ticks, most, want int64 }{
		{5, 1, 4, 6}, {5, 3, 4, 8}, {5, 4, 4, 9}, {5, 5, 4, 9}, {5, 9, 4, 9}, {5, last, 4, 9},
		{0, 1, 1, 1}, {0, 2, 1, 1}, {0, 1, 2, 1}, {7, 1, 0, 7}, {7, 20, 0, 7}, {0, 1, 0, 0}, {7, last, 0, 7},
		{100, 1200, 1200, 1300}, {100, 1199, 1200, 1299}, {100, 1201, 1200, 1300},
		{0, most, most, most}, {0, most - 1, most, most - 1}, {0, most, most - 1, most - 1}, {0, most + 1, most, most},
	} {
		wantPause(t, none(), x.now, x.ticks, x.most, api.High, paused(x.want, api.High))
		wantSilence(t, none(), x.now, x.ticks, x.most, off(x.want))
	}
}

// Of a t below 1 all stays, the mark also, and also where most is 0.
func TestTicksBelowOne(t *testing.T) {
	for _, h := range []hush.Hush{none(), paused(9, api.Low), off(9), both(9, 7, api.High), both(7, 9, unranked)} {
		for _, n := range below() {
			for _, now := range ticks() {
				for _, bound := range ticks() {
					wantPause(t, h, now, n, bound, api.Medium, h)
					wantSilence(t, h, now, n, bound, h)
				}
			}
		}
	}
}

// Of a most of 0 what begins is over at once, and so is what was begun ahead of it.
func TestMostOfNone(t *testing.T) {
	wantPause(t, both(9, 8, api.Low), 5, 3, 0, api.High, both(5, 8, api.High))
	wantSilence(t, both(9, 8, api.Low), 5, 3, 0, both(9, 5, api.Low))
	for _, now := range ticks() {
		wantQuiet(t, none().Pause(now, 3, 0, api.Low), now, false, false)
		wantQuiet(t, none().Silence(now, 3, 0), now, false, false)
	}
}

// At the very tick at which it ends, and at the one ahead of it.
func TestVeryTick(t *testing.T) {
	h := both(9, 12, api.Low)
	wantQuiet(t, h, 0, true, true)
	wantQuiet(t, h, 8, true, true)
	wantQuiet(t, h, 9, false, true)
	wantQuiet(t, h, 10, false, true)
	wantQuiet(t, h, 11, false, true)
	wantQuiet(t, h, 12, false, false)
	wantQuiet(t, h, 13, false, false)
	h = both(12, 9, api.Low)
	wantQuiet(t, h, 8, true, true)
	wantQuiet(t, h, 9, true, false)
	wantQuiet(t, h, 11, true, false)
	wantQuiet(t, h, 12, false, false)
	for _, end := range []int64{2, 3, 20, most - 1, most} {
		for _, now := range []int64{end - 2, end - 1, end, end + 1} {
			wantQuiet(t, paused(end, api.Low), now, now < end, false)
			wantQuiet(t, off(end), now, false, now < end)
			wantQuiet(t, both(end, end, api.Low), now, now < end, now < end)
		}
	}
}

// A pause says nothing of an off, nor an off of a pause.
func TestSideBySide(t *testing.T) {
	wantPause(t, off(20), 5, 9, 40, api.Medium, both(14, 20, api.Medium))
	wantSilence(t, paused(14, api.Medium), 5, 15, 40, both(14, 20, api.Medium))
	wantPause(t, both(14, 20, api.Medium), 6, 1, 40, api.Low, both(7, 20, api.Low))
	wantSilence(t, both(14, 20, api.Medium), 6, 1, 40, both(14, 7, api.Medium))
}

// What is begun anew counts from then, also where it is over earlier; so does its mark, also a lower one.
func TestBegunAnew(t *testing.T) {
	h := none().Pause(5, 20, 40, api.High)
	wantPause(t, h, 10, 3, 40, api.Low, paused(13, api.Low))
	wantPause(t, h, 10, 30, 40, api.Low, paused(40, api.Low))
	wantPause(t, h, 10, 15, 40, unranked, paused(25, unranked))
	wantPause(t, h, 99, 3, 40, api.Medium, paused(102, api.Medium))
	wantPause(t, h, 10, 30, 2, api.Medium, paused(12, api.Medium))
	h = none().Silence(5, 20, 40)
	wantSilence(t, h, 10, 3, 40, off(13))
	wantSilence(t, h, 10, 30, 40, off(40))
	wantSilence(t, h, 99, 3, 40, off(102))
	wantSilence(t, h, 10, 30, 2, off(12))
}

func TestBreak(t *testing.T) {
	h := both(15, 18, api.Medium)
	for _, now := range []int64{0, 5, 13, 14} {
		wantBreak(t, h, now, unranked, h)
		wantBreak(t, h, now, api.Low, h)
		wantBreak(t, h, now, api.Medium, h)
		wantBreak(t, h, now, api.High, both(now, 18, api.Medium))
		wantQuiet(t, h.Break(now, api.High), now, false, true)
	}
	for _, now := range []int64{15, 16, 17, 18, 19, most} {
		wantBreak(t, h, now, api.High, h)
	}
}

// Below the mark, at it, and above it.
func TestBreakOfEveryMark(t *testing.T) {
	for _, mark := range priorities() {
		for _, priority := range priorities() {
			h := both(15, 3, mark)
			wantBreak(t, h, 15, priority, h)
			wantBreak(t, h, 16, priority, h)
			want := h
			if int(priority) > int(mark) {
				want.Until = 14
			}
			wantBreak(t, h, 14, priority, want)
		}
	}
}

// An off isn't broken.
func TestBreakOfOff(t *testing.T) {
	for _, h := range []hush.Hush{off(18), both(3, 18, unranked), both(5, 18, api.Low)} {
		for _, now := range []int64{5, 6, 17, 18, 19} {
			for _, priority := range priorities() {
				wantBreak(t, h, now, priority, h)
			}
		}
		wantQuiet(t, h.Break(5, api.High), 5, false, true)
	}
}

// What is broken may be begun anew, and broken anew.
func TestBreakThenPause(t *testing.T) {
	h := none().Pause(5, 20, 40, api.Low).Break(9, api.Medium)
	wantBreak(t, h, 9, api.High, h)
	wantBreak(t, h, 12, api.High, h)
	h = h.Pause(12, 20, 40, api.Medium)
	wantBreak(t, h, 13, api.Medium, h)
	wantBreak(t, h, 13, api.High, paused(13, api.Medium))
}

// The end is a tick, too.
func TestEndIsWithinBounds(t *testing.T) {
	for _, x := range []struct{ now, ticks, most, want int64 }{
		{most, 1, 1, most}, {most, last, most, most}, {most - 1, 1, 9, most}, {most - 1, 2, 9, most},
		{most - 9, 20, 8, most - 1}, {most - 9, 20, 9, most}, {most - 9, 20, 10, most},
		{1, last, most, most}, {0, last, most, most}, {most, last, 0, most}, {1, most, most, most}, {1, most - 2, most, most - 1},
	} {
		wantPause(t, both(3, 4, api.Low), x.now, x.ticks, x.most, api.High, both(x.want, 4, api.High))
		wantSilence(t, both(3, 4, api.Low), x.now, x.ticks, x.most, both(3, x.want, api.Low))
	}
	wantQuiet(t, none().Pause(most, 5, 9, api.Low).Silence(most, 5, 9), most, false, false)
}
