package panel_test

import (
	"slices"
	"testing"

	"handbell/api"
	"handbell/hush"
	"handbell/panel"
)

// mixed are lights that stand in another order than their lamps, with some that aren't Lit between.
func mixed() []panel.Light {
	return lights(loud(7, api.Low), dark(2, api.High), acked(5, api.High), light(9, api.Medium, "-L-", 1), loud(1, api.Medium), dark(4, api.Low))
}

// The lights stay as they were, in their order, and what is behind them, too.
func TestLightsStayAsTheyWere(t *testing.T) {
	for many := range len(mixed()) + 1 {
		room := mixed()
		l := room[:many]
		for _, p := range []*panel.Panel{panel.New(), nil} {
			panel.Lamps(l)
			panel.Loudest(l)
			panel.Highest(l)
			p.Show(5, l, none())
			p.Show(6, l, hush.Hush{Until: 9, Off: 8})
		}
		if !slices.Equal(room, mixed()) {
			t.Errorf("%+v, was %+v", room, mixed())
		}
	}
}

// What was answered may be written over: no two answers share any of it.
func TestAnswersMayBeWrittenOver(t *testing.T) {
	p, l := panel.New(), mixed()
	want := panel.Lamps(mixed())
	for now := int64(5); now < 9; now++ {
		lamps := panel.Lamps(l)
		o := p.Show(now, l, none())
		if !slices.Equal(o.Lamps, want) || !slices.Equal(lamps, want) {
			t.Fatalf("at %d: %+v, %+v, want %+v", now, o.Lamps, lamps, want)
		}
		clear(lamps)
		if !slices.Equal(o.Lamps, want) {
			t.Fatalf("at %d: the lamps share what was asked", now)
		}
		clear(o.Lamps[:cap(o.Lamps)])
	}
	if !slices.Equal(l, mixed()) {
		t.Errorf("%+v, was %+v", l, mixed())
	}
}

// What was handed in may be written over, and is then asked as it is.
func TestLightsMayBeWrittenOver(t *testing.T) {
	p := panel.New()
	l := lights(loud(1, api.Medium), loud(2, api.Low))
	wantHeard(t, p, 5, l, none(), api.Medium, true)
	o := p.Show(6, l, none())
	l[0], l[1] = loud(3, api.High), loud(4, api.High)
	if !slices.Equal(o.Lamps, []api.Lamp{lamp(1, api.Medium, "O-", 0), lamp(2, api.Low, "O-", 0)}) {
		t.Errorf("the lamps share what was handed in: %+v", o.Lamps)
	}
	wantTicks(t, p, 7, l, none(), api.High, "101")
	l[0], l[1] = acked(3, api.High), loud(4, api.Low)
	wantTicks(t, p, 10, l, none(), api.Low, "1000")
}

// What is asked of lights is no concern of a panel; what it isn't shown it doesn't know.
func TestAskedBetween(t *testing.T) {
	p := panel.New()
	wantHeard(t, p, 5, lights(loud(1, api.Medium)), none(), api.Medium, true)
	for range 3 {
		panel.Loudest(lights(loud(1, api.High)))
		panel.Highest(nil)
		panel.Lamps(mixed())
	}
	wantTicks(t, p, 6, lights(loud(1, api.Medium)), none(), api.Medium, "001001")
}

// Two panels know nothing of each other, and a new one nothing of those before it.
func TestEachIsItsOwn(t *testing.T) {
	a, b := panel.New(), panel.New()
	var no *panel.Panel
	l := lights(loud(1, api.Medium))
	wantTicks(t, a, 5, l, none(), api.Medium, "1001")
	wantTicks(t, b, 7, l, none(), api.Medium, "1001")
	wantHeard(t, no, 9, l, none(), api.Medium, true)
	wantTicks(t, a, 9, l, none(), api.Medium, "001")
	wantTicks(t, b, 11, l, none(), api.Medium, "001")
	wantTicks(t, panel.New(), 12, l, none(), api.Medium, "1001")
}
