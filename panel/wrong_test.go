package panel_test

import (
	"math"
	"math/big"
	"slices"
	"testing"

	"handbell/api"
	"handbell/hush"
	"handbell/panel"
)

// times are those about which the bounds of ticks and of 64 bits lie.
func times() []int64 {
	return []int64{least, least + 1, -most - 1, -most, -1, 0, 1, 4, 7, 20, most - 1, most, most + 1, last - 1, last}
}

// over is a hush that is over at each time; one that is all 0 isn't, ahead of 0.
func over() hush.Hush { return hush.Hush{Until: least, Off: least} }

// A nil panel is each time a new one: what sounds is at its first sign.
func TestNil(t *testing.T) {
	var p *panel.Panel
	for _, now := range append(times(), 1, 2, 3, 4) {
		for _, priority := range []byte{api.Low, api.Medium, api.High} {
			wantHeard(t, p, now, lights(loud(1, priority)), over(), priority, true)
			wantHeard(t, p, now, lights(loud(1, priority)), hush.Hush{Until: now, Off: now}, priority, true)
		}
		wantHeard(t, p, now, nil, over(), silence, false)
		wantHeard(t, p, now, lights(acked(1, api.High), dark(2, api.High)), over(), silence, false)
		wantHeard(t, p, now, lights(loud(1, 4)), over(), 4, false)
	}
	wantTicks(t, p, 5, lights(loud(1, api.High), acked(2, api.High)), paused(8), silence, "000")
	wantTicks(t, p, 5, lights(loud(1, api.High), acked(2, api.High)), off(8), silence, "000")
}

// At a time that is earlier than since when it is told, layer 3's Since is 0, and it is at its first sign.
func TestTimesThatGoBack(t *testing.T) {
	p := panel.New()
	l := lights(loud(1, api.Medium))
	wantTicks(t, p, 100, l, over(), api.Medium, "1001001000")
	for _, now := range []int64{99, 98, 97, 5, 0, -1, least} {
		wantHeard(t, p, now, l, over(), api.Medium, true)
	}
	wantTicks(t, p, 99, l, over(), api.Medium, "11001001000") // it is told since 100 still
	wantHeard(t, p, 40, nil, over(), silence, false)
	wantTicks(t, p, 38, l, over(), api.Medium, "1001001000") // and since 38 now
	wantHeard(t, p, 20, lights(loud(1, api.High)), over(), api.High, true)
	wantHeard(t, p, 21, l, over(), api.Medium, true)
	wantHeard(t, p, 22, l, over(), api.Medium, false)
}

// since is layer 3's, of numbers without bounds.
func since(now, then int64) int64 {
	ago := new(big.Int).Sub(big.NewInt(now), big.NewInt(then))
	if ago.Sign() < 0 {
		return 0
	}
	if ago.Cmp(big.NewInt(most)) > 0 {
		return most
	}
	return ago.Int64()
}

// Of any two times: how far they are apart, MaxTick at most, and no wrap-round.
func TestAnyTwoTimes(t *testing.T) {
	for _, first := range times() {
		for _, second := range append(times(), first+3, first+24) {
			for _, priority := range []byte{api.Low, api.Medium, api.High} {
				p := panel.New()
				l := lights(loud(1, priority))
				wantHeard(t, p, first, l, over(), priority, true)
				round, places := pulses(priority)
				wantHeard(t, p, second, l, over(), priority, slices.Contains(places, since(second, first)%round))
			}
		}
	}
	p := panel.New()
	wantHeard(t, p, least, lights(loud(1, api.Low)), over(), api.Low, true)
	wantHeard(t, p, last, lights(loud(1, api.Low)), over(), api.Low, false) // MaxTick is 16 signs behind some of 40
}

// A hush of any times, at any time.
func TestHushOfAnyTimes(t *testing.T) {
	l := lights(loud(1, api.High), acked(2, api.Low))
	for _, until := range times() {
		for _, till := range times() {
			for _, now := range times() {
				h := hush.Hush{Until: until, Off: till, Mark: 255}
				audio := byte(api.High)
				if now < until || now < till {
					audio = silence
				}
				wantHeard(t, panel.New(), now, l, h, audio, audio == api.High)
			}
		}
	}
}

// A priority that is none is a number like others, but has no sound.
func TestNoSuchPriority(t *testing.T) {
	l := lights(loud(1, 255), acked(2, 4), loud(3, api.High), loud(4, 0), loud(5, 128))
	wantLamps(t, l, lamp(1, 255, "O-", 0), lamp(5, 128, "O-", 0), lamp(2, 4, "OA", 0), lamp(3, api.High, "O-", 0), lamp(4, 0, "O-", 0))
	wantGreatest(t, l, 255, 255)
	wantGreatest(t, l[1:], 128, 128)
	wantGreatest(t, l[1:4], api.High, 4)
	wantGreatest(t, l[3:4], 0, 0)
	for _, priority := range []byte{4, 5, 127, 128, 255} {
		p := panel.New()
		wantTicks(t, p, 5, lights(loud(1, api.High)), none(), api.High, "101")
		wantTicks(t, p, 8, lights(loud(1, priority), loud(2, api.High)), none(), priority, "00000")
		wantTicks(t, p, 13, lights(loud(1, api.High)), none(), api.High, "1010")
	}
}

// What is loud without any priority is shown, and is no other Audio than none.
func TestWithoutPriority(t *testing.T) {
	p := panel.New()
	wantTicks(t, p, 5, lights(loud(1, 0)), none(), silence, "000")
	wantTicks(t, p, 8, lights(loud(1, api.Medium)), none(), api.Medium, "1001")
	wantTicks(t, p, 12, lights(loud(1, 0)), none(), silence, "0000")
	wantLamps(t, lights(loud(1, 0)), lamp(1, 0, "O-", 0))
}

// Of lights of one Cond nothing is promised, but that each call ends; and so it does of many of them.
func TestManyLights(t *testing.T) {
	var l []panel.Light
	for i := range 100000 {
		l = append(l, light(i%1000, byte(i%7), "OL-", i))
	}
	wantGreatest(t, l, 6, 6)
	if many := len(panel.Lamps(l)); many != len(l) {
		t.Errorf("%d lamps", many)
	}
	p := panel.New()
	for _, now := range times() {
		p.Show(now, l, none())
	}
	wantGreatest(t, lights(loud(math.MinInt, 1), loud(math.MinInt, 1)), 1, 1)
}
