package task_test

import (
	"math/rand"
	"testing"

	"handbell/api"
	"handbell/cell"
	"handbell/gate"
	"handbell/task"
)

// of: all that came of a signal, the oldest first; and those of them that weren't Bad.
func of(all []came, signal int) (samples, values []came) {
	for _, c := range all {
		if c.x.Signal != signal {
			continue
		}
		samples = append(samples, c)
		if !c.x.Bad {
			values = append(values, c)
		}
	}
	return samples, values
}

// modelChange: of all values that ever came of a signal; false: none came within the span.
func modelChange(values []came, now, span int64) (int, bool) {
	for _, v := range values[max(len(values)-api.MaxKeep, 0):] {
		if v.at >= now-span {
			return values[len(values)-1].x.Value - v.x.Value, true
		}
	}
	return 0, false
}

// modelObserve: worked out anew of all that ever came.
func modelObserve(r api.Rule, all []came, now int64) (in, out bool) {
	samples, values := of(all, r.Signal)
	lastBad, since := false, now
	if n := len(samples); n > 0 {
		lastBad, since = samples[n-1].x.Bad, now-samples[n-1].at
	}
	switch r.Kind {
	case api.Quiet:
		return since >= r.Span, since < r.Span
	case api.Bad:
		return lastBad, !lastBad
	case api.Rise, api.Fall:
		change, ok := modelChange(values, now, r.Span)
		if r.Kind == api.Rise {
			return ok && change >= r.Limit, !ok || change < r.Back
		}
		return ok && change <= -r.Limit, !ok || change > -r.Back
	}
	if lastBad || len(values) == 0 {
		return false, false
	}
	value := values[len(values)-1].x.Value
	if r.Kind == api.Above {
		return value > r.Limit, value <= r.Back
	}
	return value < r.Limit, value >= r.Back
}

// seen is what was so at a look.
type seen struct {
	now     int64
	in, out bool
}

// modelGate: what a task is behind all its looks.
func modelGate(looks []seen, delay int64) gate.Gate {
	is, first := false, -1 // first: the look since which it is in, of those behind the last one that wasn't
	for i, l := range looks {
		switch {
		case is:
			is = !l.out
		case !l.in:
			first = -1
		default:
			if first < 0 {
				first = i
			}
			if l.now-looks[first].now >= delay {
				is, first = true, -1
			}
		}
	}
	if first >= 0 {
		return held(looks[first].now)
	}
	return gate.Gate{On: is}
}

// watched is a task, the rule of which it is, and all its looks.
type watched struct {
	k     *task.Task
	r     api.Rule
	looks []seen
}

// look: it is looked at, and held against the lists.
func (w *watched) look(t *testing.T, s *cell.Store, all []came, now int64) {
	t.Helper()
	in, out := modelObserve(w.r, all, now)
	wantObserve(t, w.r, s, now, in, out)
	w.looks = append(w.looks, seen{now, in, out})
	wantRun(t, w.k, s, now, modelGate(w.looks, w.r.Delay))
}

// drawRule is one of a kind, of which the limits are near the values that come.
func drawRule(draw *rand.Rand, kind byte) api.Rule {
	r := api.Rule{Kind: kind, Signal: draw.Intn(3), Delay: int64(draw.Intn(12))}
	switch kind {
	case api.Above:
		r.Back = 90 + draw.Intn(15)
		r.Limit = r.Back + draw.Intn(8)
	case api.Below:
		r.Back = 110 - draw.Intn(15)
		r.Limit = r.Back - draw.Intn(8)
	case api.Rise, api.Fall:
		r.Limit = 1 + draw.Intn(8)
		r.Back = draw.Intn(r.Limit + 1)
		r.Span = int64(1 + draw.Intn(30))
	case api.Quiet:
		r.Span = int64(1 + draw.Intn(12))
	}
	return r
}

func watch(draw *rand.Rand) []*watched {
	var all []*watched
	for kind := byte(api.Above); kind <= api.Bad; kind++ {
		for range 3 {
			r := drawRule(draw, kind)
			all = append(all, &watched{k: task.New(r), r: r})
		}
	}
	return all
}

// Tasks of each kind, looked at now and then while samples of all signals come.
func TestAgainstModel(t *testing.T) {
	draw := rand.New(rand.NewSource(13))
	were := map[byte]int{}
	for range 60 {
		tasks, s := watch(draw), cell.New(3)
		seldom := 1 + draw.Intn(12) // how seldom samples come
		values := [3]int{100, 100, 100}
		var all []came
		now := int64(0)
		for range 150 {
			now += int64(draw.Intn(3)) // times rise, or stay
			if draw.Intn(seldom) == 0 {
				signal := draw.Intn(3)
				values[signal] += draw.Intn(9) - 4
				c := came{now, api.Sample{Signal: signal, Value: values[signal], Bad: draw.Intn(8) == 0}}
				all = append(all, c)
				fill(t, s, c)
			}
			for _, w := range tasks {
				if draw.Intn(3) > 0 {
					continue
				}
				was := w.k.On()
				if w.look(t, s, all, now); w.k.On() != was {
					were[w.r.Kind]++
				}
			}
			if t.Failed() {
				return
			}
		}
	}
	for kind := byte(api.Above); kind <= api.Bad; kind++ {
		if were[kind] < 20 {
			t.Errorf("tasks of kind %d came and went %d times: too few to tell", kind, were[kind])
		}
	}
}
