package panel_test

import (
	"math/rand"
	"slices"
	"testing"

	"handbell/api"
	"handbell/hush"
	"handbell/panel"
)

// plain is all that was told: at which time which Audio.
type plain struct {
	times  []int64
	audios []byte
}

// since: when the last one that was told was told first, without another one between.
func (p *plain) since() int64 {
	at := len(p.audios) - 1
	for at > 0 && p.audios[at-1] == p.audios[at] {
		at--
	}
	return p.times[at]
}

// pulses: the length of a round, and the places of its pulses.
func pulses(priority byte) (int64, []int64) {
	switch priority {
	case api.High:
		return 32, []int64{0, 2, 4, 7, 9, 16, 18, 20, 23, 25}
	case api.Medium:
		return 24, []int64{0, 3, 6}
	case api.Low:
		return 40, []int64{0, 4}
	}
	return 1, nil
}

// shown keeps what is told, and is the answer, but for the lamps.
func (p *plain) shown(now int64, l []panel.Light, h hush.Hush) api.Output {
	o := api.Output{Tick: now, Paused: h.Until > now, Off: h.Off > now}
	for _, x := range l {
		if x.Life.Lit && !x.Life.Acked && x.Priority > o.Audio && !o.Paused && !o.Off {
			o.Audio = x.Priority
		}
	}
	p.times, p.audios = append(p.times, now), append(p.audios, o.Audio)
	round, places := pulses(o.Audio)
	o.Sound = slices.Contains(places, max(now-p.since(), 0)%round)
	return o
}

// picked takes the lamps out one by one: each time the one that stands ahead of all others.
func picked(l []panel.Light) []api.Lamp {
	rest := slices.Clone(l)
	var lamps []api.Lamp
	for len(rest) > 0 {
		best := 0
		for i, x := range rest {
			if x.Priority > rest[best].Priority || x.Priority == rest[best].Priority && x.Cond < rest[best].Cond {
				best = i
			}
		}
		if x := rest[best]; x.Life.Lit {
			lamps = append(lamps, api.Lamp{Cond: x.Cond, Priority: x.Priority, Stage: x.Life.Stage, Cause: x.Life.On, Acked: x.Life.Acked})
		}
		rest = slices.Delete(rest, best, best+1)
	}
	return lamps
}

// drawLights are some of unlike Conds, of few priorities.
func drawLights(draw *rand.Rand) []panel.Light {
	var l []panel.Light
	for _, cond := range draw.Perm(12)[:draw.Intn(12)] {
		x := light(cond-2, byte(draw.Intn(5)), "---", draw.Intn(3))
		x.Life.On, x.Life.Lit, x.Life.Acked = draw.Intn(2) == 0, draw.Intn(2) == 0, draw.Intn(3) > 0
		l = append(l, x)
	}
	return l
}

// drawHush is none most of the time, or one that ends about now.
func drawHush(draw *rand.Rand, now int64) hush.Hush {
	if draw.Intn(6) > 0 {
		return none()
	}
	return hush.Hush{Until: now + int64(draw.Intn(9)-6), Off: now + int64(draw.Intn(9)-6), Mark: byte(draw.Intn(4))}
}

func wantPlain(t *testing.T, p *panel.Panel, m *plain, now int64, l []panel.Light, h hush.Hush) {
	t.Helper()
	want := m.shown(now, l, h)
	wantHeard(t, p, now, l, h, want.Audio, want.Sound)
	wantLamps(t, l, picked(l)...)
	if t.Failed() {
		t.Fatalf("at %d, behind %v of %v", now, m.audios, m.times)
	}
}

func TestTickByTick(t *testing.T) {
	draw := rand.New(rand.NewSource(20))
	for range 200 {
		for _, start := range []int64{0, 1000, most - 150} {
			p, m := panel.New(), &plain{}
			var l []panel.Light
			var h hush.Hush
			for now := start; now < start+150; now++ {
				if draw.Intn(12) == 0 {
					l = drawLights(draw)
				}
				if draw.Intn(12) == 0 {
					h = drawHush(draw, now)
				}
				wantPlain(t, p, m, now, l, h)
			}
		}
	}
}

// Times that come in any order.
func TestTimesInAnyOrder(t *testing.T) {
	draw := rand.New(rand.NewSource(21))
	for range 200 {
		p, m := panel.New(), &plain{}
		for range 60 {
			now := int64(draw.Intn(60))
			l := lights(loud(1, byte(draw.Intn(4))))
			for range 1 + draw.Intn(4) {
				wantPlain(t, p, m, now, l, drawHush(draw, now))
				now += int64(draw.Intn(12) - 4)
			}
		}
	}
}

// Silence is there only where nothing is loud, or a hush is Silent; and that ends sound alone.
func TestSilentOnlyWithCause(t *testing.T) {
	draw := rand.New(rand.NewSource(22))
	p := panel.New()
	for now := range int64(20000) {
		l, h := drawLights(draw), drawHush(draw, now)
		o := p.Show(now, l, h)
		if !h.Silent(now) && o.Audio != panel.Loudest(l) || h.Silent(now) && o.Audio != silence || o.Audio == silence && o.Sound {
			t.Fatalf("at %d, of %+v and %+v: %+v", now, l, h, o)
		}
		wantShown(t, o, now, l, h)
	}
}
