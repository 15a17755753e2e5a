package panel_test

import (
	"math"
	"slices"
	"testing"

	"handbell/api"
	"handbell/hush"
	"handbell/life"
	"handbell/panel"
)

const (
	most  = int64(api.MaxTick)
	last  = int64(math.MaxInt64)
	least = int64(math.MinInt64)
)

// silence is the Audio where nothing is heard.
const silence = byte(0)

// light is one of these letters: O of On, L of Lit, A of Acked, each in its place, or a dash.
func light(cond int, priority byte, letters string, stage int) panel.Light {
	l := life.Life{On: letters[0] == 'O', Lit: letters[1] == 'L', Acked: letters[2] == 'A', Since: 3, Stage: stage}
	return panel.Light{Cond: cond, Priority: priority, Life: l}
}

// loud, acked and dark are lights of that Cond and priority, with a cause.
func loud(cond int, priority byte) panel.Light  { return light(cond, priority, "OL-", 0) }
func acked(cond int, priority byte) panel.Light { return light(cond, priority, "OLA", 0) }
func dark(cond int, priority byte) panel.Light  { return light(cond, priority, "O--", 0) }

// lights is a list of these.
func lights(l ...panel.Light) []panel.Light { return l }

// lamp is what the light of the same words is shown as.
func lamp(cond int, priority byte, letters string, stage int) api.Lamp {
	return api.Lamp{Cond: cond, Priority: priority, Stage: stage, Cause: letters[0] == 'O', Acked: letters[1] == 'A'}
}

// none is no hush; paused is one till a time, off one, too.
func none() hush.Hush              { return hush.Hush{} }
func paused(until int64) hush.Hush { return hush.Hush{Until: until, Mark: api.High} }
func off(till int64) hush.Hush     { return hush.Hush{Off: till} }

func wantLamps(t *testing.T, l []panel.Light, want ...api.Lamp) {
	t.Helper()
	if got := panel.Lamps(l); !slices.Equal(got, want) {
		t.Errorf("Lamps of %+v: %+v, want %+v", l, got, want)
	}
}

func wantGreatest(t *testing.T, l []panel.Light, loudest, highest byte) {
	t.Helper()
	if got := panel.Loudest(l); got != loudest {
		t.Errorf("Loudest of %+v: %d, want %d", l, got, loudest)
	}
	if got := panel.Highest(l); got != highest {
		t.Errorf("Highest of %+v: %d, want %d", l, got, highest)
	}
}

// wantHeard shows, and asks for Audio and Sound; of all else it asks what the chapter says of it at once.
func wantHeard(t *testing.T, p *panel.Panel, now int64, l []panel.Light, h hush.Hush, audio byte, sound bool) {
	t.Helper()
	o := p.Show(now, l, h)
	if o.Audio != audio || o.Sound != sound {
		t.Errorf("at %d, of %+v and %+v: Audio %d, Sound %t, want %d, %t", now, l, h, o.Audio, o.Sound, audio, sound)
	}
	wantShown(t, o, now, l, h)
}

// wantShown: what is shown hangs on nothing that was told before.
func wantShown(t *testing.T, o api.Output, now int64, l []panel.Light, h hush.Hush) {
	t.Helper()
	if o.Tick != now || o.Paused != (now < h.Until) || o.Off != (now < h.Off) || !slices.Equal(o.Lamps, panel.Lamps(l)) {
		t.Errorf("at %d, of %+v and %+v: %+v", now, l, h, o)
	}
}

// wantTicks shows the same from a tick on; signs has a sign for each of them: 1 is a Sound.
func wantTicks(t *testing.T, p *panel.Panel, from int64, l []panel.Light, h hush.Hush, audio byte, signs string) {
	t.Helper()
	for i, sign := range signs {
		wantHeard(t, p, from+int64(i), l, h, audio, sign == '1')
	}
}

func TestExample(t *testing.T) {
	wantLamps(t, lights(dark(1, api.High), light(2, api.Low, "---", 0)))
	wantTicks(t, panel.New(), 0, lights(dark(1, api.High)), none(), silence, "000")
}

// A latched one is shown behind its cause; Stage and Acked are the life's.
func TestLamps(t *testing.T) {
	for _, stage := range []int{0, 1, 4, -1, math.MaxInt, math.MinInt} {
		wantLamps(t, lights(light(7, api.Medium, "OL-", stage)), lamp(7, api.Medium, "O-", stage))
		wantLamps(t, lights(light(7, api.Medium, "OLA", stage)), lamp(7, api.Medium, "OA", stage))
		wantLamps(t, lights(light(7, api.Medium, "-L-", stage)), lamp(7, api.Medium, "--", stage))
		wantLamps(t, lights(light(7, api.Medium, "-LA", stage)), lamp(7, api.Medium, "-A", stage))
		for _, letters := range []string{"O--", "O-A", "--A", "---"} {
			wantLamps(t, lights(light(7, api.Medium, letters, stage)))
		}
	}
}

func TestHigherPrioritiesFirst(t *testing.T) {
	wantLamps(t, lights(loud(1, api.Low), acked(2, api.Medium), loud(3, api.High)),
		lamp(3, api.High, "O-", 0), lamp(2, api.Medium, "OA", 0), lamp(1, api.Low, "O-", 0))
	wantLamps(t, lights(acked(1, api.High), loud(2, api.Low), dark(4, api.High), loud(3, api.Medium)),
		lamp(1, api.High, "OA", 0), lamp(3, api.Medium, "O-", 0), lamp(2, api.Low, "O-", 0))
}

// Of one priority by their Conds, whichever is acknowledged, has a cause, or a greater stage.
func TestOnePriorityByConds(t *testing.T) {
	wantLamps(t,
		lights(light(100, api.Medium, "-LA", 4), loud(31, api.Medium), acked(2, api.Medium), light(10, api.Medium, "-L-", 1), acked(0, api.Medium)),
		lamp(0, api.Medium, "OA", 0), lamp(2, api.Medium, "OA", 0), lamp(10, api.Medium, "--", 1), lamp(31, api.Medium, "O-", 0), lamp(100, api.Medium, "-A", 4))
	wantLamps(t, lights(loud(math.MaxInt, 2), loud(math.MinInt, 2), loud(0, 2), loud(-1, 2), loud(1, 2)),
		lamp(math.MinInt, 2, "O-", 0), lamp(-1, 2, "O-", 0), lamp(0, 2, "O-", 0), lamp(1, 2, "O-", 0), lamp(math.MaxInt, 2, "O-", 0))
}

// orders are all the orders of that many things.
func orders(many int) [][]int {
	if many == 0 {
		return [][]int{nil}
	}
	var all [][]int
	for _, order := range orders(many - 1) {
		for at := range many {
			all = append(all, slices.Insert(slices.Clone(order), at, many-1))
		}
	}
	return all
}

func TestLightsInAnyOrder(t *testing.T) {
	l := lights(light(101, api.Medium, "-L-", 0), loud(4, api.Low), light(100, api.High, "OLA", 1), dark(3, api.High), acked(9, api.Medium), light(0, api.Low, "OLA", 2))
	want := []api.Lamp{
		lamp(100, api.High, "OA", 1), lamp(9, api.Medium, "OA", 0), lamp(101, api.Medium, "--", 0), lamp(0, api.Low, "OA", 2), lamp(4, api.Low, "O-", 0),
	}
	for _, order := range orders(len(l)) {
		var mixed []panel.Light
		for _, at := range order {
			mixed = append(mixed, l[at])
		}
		wantLamps(t, mixed, want...)
		wantGreatest(t, mixed, api.Medium, api.High)
	}
}

func TestGreatest(t *testing.T) {
	for _, x := range []struct {
		l                []panel.Light
		loudest, highest byte
	}{
		{lights(loud(1, api.Low)), api.Low, api.Low},
		{lights(acked(1, api.Low)), silence, api.Low},
		{lights(dark(1, api.Low)), silence, silence},
		{lights(loud(1, api.Low), loud(2, api.High), loud(3, api.Medium)), api.High, api.High},
		{lights(loud(1, api.Low), acked(2, api.High), loud(3, api.Medium)), api.Medium, api.High},
		{lights(loud(1, api.Low), dark(2, api.High), acked(3, api.Medium)), api.Low, api.Medium},
		{lights(acked(1, api.Low), dark(2, api.High), acked(3, api.Medium)), silence, api.Medium},
		{lights(light(1, api.Low, "-L-", 0), light(2, api.Medium, "-LA", 0), light(3, api.High, "O-A", 0)), api.Low, api.Medium},
		{lights(light(1, api.High, "---", 0), light(2, api.Medium, "--A", 0), loud(3, api.Low)), api.Low, api.Low},
		{lights(loud(1, api.Medium), acked(2, api.Medium)), api.Medium, api.Medium},
	} {
		wantGreatest(t, x.l, x.loudest, x.highest)
	}
}

func TestNoLights(t *testing.T) {
	for _, l := range [][]panel.Light{nil, {}, lights(loud(1, api.High))[:0]} {
		wantLamps(t, l)
		wantGreatest(t, l, silence, silence)
		wantTicks(t, panel.New(), 5, l, none(), silence, "00")
		wantTicks(t, panel.New(), 5, l, paused(6), silence, "00")
	}
}

// Each priority, from the tick on at which it is told, round and round.
func TestSoundBeginsAsItIsTold(t *testing.T) {
	for priority, signs := range map[byte]string{
		api.High:   "10101001010000001010100101000000",
		api.Medium: "100100100000000000000000",
		api.Low:    "1000100000000000000000000000000000000000",
	} {
		for _, from := range []int64{0, 1, 5, 1000, most - 200} {
			p := panel.New()
			wantTicks(t, p, from, lights(loud(1, priority)), none(), priority, signs+signs+signs)
		}
	}
}

// It begins anew where the Audio rises, and where it falls.
func TestAudioRisesAndFalls(t *testing.T) {
	p := panel.New()
	wantTicks(t, p, 1, nil, none(), silence, "000")
	wantTicks(t, p, 4, lights(loud(1, api.Low)), none(), api.Low, "1000")
	wantTicks(t, p, 8, lights(loud(1, api.Low), loud(2, api.Medium)), none(), api.Medium, "1001")
	wantTicks(t, p, 12, lights(loud(3, api.High), loud(2, api.Medium)), none(), api.High, "1010100")
	wantTicks(t, p, 19, lights(acked(3, api.High), loud(2, api.Medium)), none(), api.Medium, "10010010")
	wantTicks(t, p, 27, lights(acked(3, api.High), dark(2, api.Medium), loud(1, api.Low)), none(), api.Low, "10001")
	wantTicks(t, p, 32, lights(acked(3, api.High)), none(), silence, "00")
	wantTicks(t, p, 34, lights(loud(3, api.High)), none(), api.High, "101")
}

// It goes on where other lights tell the same Audio.
func TestAudioStays(t *testing.T) {
	p := panel.New()
	wantTicks(t, p, 10, lights(loud(1, api.High)), none(), api.High, "101")
	wantTicks(t, p, 13, lights(loud(1, api.High), loud(2, api.High)), none(), api.High, "01")
	wantTicks(t, p, 15, lights(acked(1, api.High), loud(2, api.High), loud(3, api.Low)), none(), api.High, "001")
	wantTicks(t, p, 18, lights(light(2, api.High, "-L-", 4)), none(), api.High, "01000000")
	wantTicks(t, p, 26, lights(loud(9, api.High)), paused(26), api.High, "101")
}

// What comes again is told since then, also where another one was told for a single tick.
func TestAudioComesAgain(t *testing.T) {
	for _, between := range [][]panel.Light{nil, lights(loud(1, api.Low)), lights(loud(1, api.High))} {
		p := panel.New()
		wantTicks(t, p, 5, lights(loud(2, api.Medium)), none(), api.Medium, "100")
		o := p.Show(8, between, none())
		wantShown(t, o, 8, between, none())
		wantTicks(t, p, 9, lights(loud(2, api.Medium)), none(), api.Medium, "1001001000")
	}
}

// A tick that isn't shown counts, too.
func TestTicksThatAreNotShown(t *testing.T) {
	p := panel.New()
	l := lights(loud(1, api.Medium))
	for _, x := range []struct {
		now   int64
		sound bool
	}{{100, true}, {103, true}, {105, false}, {106, true}, {107, false}, {124, true}, {147, false}, {148, true}, {100 + 24*1000 + 6, true}} {
		wantHeard(t, p, x.now, l, none(), api.Medium, x.sound)
	}
}

// A tick that is shown again has the same.
func TestShownAgain(t *testing.T) {
	p := panel.New()
	for range 3 {
		wantHeard(t, p, 7, lights(loud(1, api.Low)), none(), api.Low, true)
	}
	for range 3 {
		wantHeard(t, p, 8, lights(loud(1, api.Low)), none(), api.Low, false)
	}
	wantHeard(t, p, 8, lights(loud(1, api.High)), none(), api.High, true)
	wantHeard(t, p, 8, lights(loud(1, api.Low)), none(), api.Low, true)
}

// A hush ends sound alone, up to its end; what is heard then begins anew.
func TestHush(t *testing.T) {
	l := lights(loud(1, api.High), acked(2, api.Medium))
	for _, h := range []hush.Hush{paused(15), off(15), {Until: 15, Off: 12}, {Until: 12, Off: 15}, {Until: 15, Off: 15}} {
		p := panel.New()
		wantTicks(t, p, 6, l, none(), api.High, "10101")
		wantTicks(t, p, 11, l, h, silence, "0000")
		wantTicks(t, p, 15, l, h, api.High, "1010100101")
	}
}

// One that is over, or never began, ends nothing.
func TestHushThatIsOver(t *testing.T) {
	l := lights(loud(1, api.Medium))
	for _, h := range []hush.Hush{none(), paused(5), off(5), {Until: 4, Off: 5}, paused(-1), off(least)} {
		wantTicks(t, panel.New(), 5, l, h, api.Medium, "1001001")
	}
}

// With nothing to be heard a hush is told all the same.
func TestHushOfNothing(t *testing.T) {
	p := panel.New()
	wantTicks(t, p, 3, lights(acked(1, api.High)), hush.Hush{Until: 5, Off: 6}, silence, "0000")
	o := p.Show(5, nil, hush.Hush{Until: 5, Off: 6})
	if o.Paused || !o.Off || len(o.Lamps) != 0 || o.Tick != 5 {
		t.Errorf("%+v", o)
	}
}

// The whole of an answer.
func TestWholeOutput(t *testing.T) {
	p := panel.New()
	l := lights(light(4, api.Low, "-LA", 2), light(2, api.Medium, "OL-", 1))
	for _, x := range []struct {
		h    hush.Hush
		want api.Output
	}{
		{none(), api.Output{Audio: api.Medium, Sound: true}},
		{paused(99), api.Output{Paused: true}},
		{off(99), api.Output{Off: true}},
		{hush.Hush{Until: 99, Off: 99}, api.Output{Paused: true, Off: true}},
	} {
		x.want.Tick = 20
		o := p.Show(20, l, x.h)
		if !slices.Equal(o.Lamps, []api.Lamp{lamp(2, api.Medium, "O-", 1), lamp(4, api.Low, "-A", 2)}) {
			t.Errorf("%+v", o.Lamps)
		}
		if o.Tick != x.want.Tick || o.Audio != x.want.Audio || o.Sound != x.want.Sound || o.Paused != x.want.Paused || o.Off != x.want.Off {
			t.Errorf("%+v: %+v, want %+v", x.h, o, x.want)
		}
	}
}
