package book_test

import (
	"math/rand"
	"slices"
	"testing"

	"handbell/api"
	"handbell/book"
	"handbell/panel"
)

// plain is all that was ever added, and how many of it there is room for.
type plain struct {
	room int
	all  []api.Entry
}

func (p *plain) add(e api.Entry) { p.all = append(p.all, e) }

func (p *plain) want(t *testing.T, b *book.Book) {
	t.Helper()
	gone := 0
	for len(p.all)-gone > p.room {
		gone++
	}
	wantBook(t, b, len(p.all), gone, p.all[gone:]...)
	if t.Failed() {
		t.Fatalf("room %d, of %+v", p.room, p.all)
	}
}

func TestAddAgainstPlainList(t *testing.T) {
	draw := rand.New(rand.NewSource(1))
	for _, room := range []int{0, 1, 2, 3, 7, 50, api.MaxLog} {
		for range 5 {
			b, p := book.New(room), &plain{room: room}
			for range 3*room + 20 {
				e := entry(draw.Int63n(api.MaxTick+1), byte(draw.Intn(9)), draw.Intn(40)-4)
				b.Add(e.Tick, e.Kind, e.Cond)
				p.add(e)
				p.want(t, b)
			}
		}
	}
}

// rows has a row for each light that was, a word for each that is, by Lit and Acked
// (neither, Acked alone, Lit alone, both), of Lit ones Since the same time.
var rows = [4][4]byte{
	{0, 0, book.Lit, book.Lit},
	{0, 0, book.Lit, book.Lit},
	{book.Dark, book.Dark, 0, book.Acked},
	{book.Dark, book.Dark, 0, 0},
}

// place is where a light stands in rows.
func place(l panel.Light) int {
	at := 0
	if l.Life.Acked {
		at++
	}
	if l.Life.Lit {
		at += 2
	}
	return at
}

// looked up is what is told of a light.
func lookedUp(was, is panel.Light) byte {
	if place(was) >= 2 && place(is) >= 2 && was.Life.Since != is.Life.Since {
		return book.Lit
	}
	return rows[place(was)][place(is)]
}

// compare is a Compare of which the lookup tells each.
func (p *plain) compare(tick int64, was, is []panel.Light) {
	for i, a := range was {
		if i >= len(is) {
			return
		}
		if kind := lookedUp(a, is[i]); kind != 0 {
			p.add(entry(tick, kind, a.Cond))
		}
	}
}

// drawLight is one of any letters, of few times.
func drawLight(draw *rand.Rand, cond int) panel.Light {
	l := light(cond, "---", int64(draw.Intn(3)))
	l.Life.On, l.Life.Lit, l.Life.Acked = draw.Intn(2) == 0, draw.Intn(3) > 0, draw.Intn(2) == 0
	l.Life.Stage, l.Priority = draw.Intn(3), byte(draw.Intn(5))
	return l
}

// Any two lists, among Adds.
func TestCompareAgainstPlainList(t *testing.T) {
	draw := rand.New(rand.NewSource(2))
	for range 400 {
		room := draw.Intn(20)
		b, p := book.New(room), &plain{room: room}
		for tick := range int64(30) {
			var was, is []panel.Light
			for _, cond := range draw.Perm(8) {
				was, is = append(was, drawLight(draw, cond)), append(is, drawLight(draw, cond))
			}
			was, is = was[:draw.Intn(9)], is[:draw.Intn(9)]
			b.Compare(tick, was, is)
			p.compare(tick, was, is)
			if draw.Intn(3) == 0 {
				b.Add(tick, book.Paused, 0)
				p.add(entry(tick, book.Paused, 0))
			}
			p.want(t, b)
		}
	}
}

// All eight lights of each time, against all eight.
func TestCompareOfAllPairs(t *testing.T) {
	var all []panel.Light
	for _, since := range []int64{0, 5, 6} {
		for _, letters := range []string{"---", "--A", "-L-", "-LA", "O--", "O-A", "OL-", "OLA"} {
			all = append(all, light(4, letters, since))
		}
	}
	for _, was := range all {
		for _, is := range all {
			p := &plain{}
			p.compare(6, lights(was), lights(is))
			wantCompared(t, 6, lights(was), lights(is), p.all...)
		}
	}
}

// deeds drives a light by a deed a tick, and says by what it did what is told: the entries are those of deeds, not of numbers.
type deeds struct {
	light    panel.Light
	latch    bool
	lit, out bool // is it indicated; and latched behind its cause?
	acked    bool
}

// next is a tick's deed; 0: nothing is told of it.
func (d *deeds) next(draw *rand.Rand, now int64) byte {
	switch draw.Intn(6) {
	case 0:
		d.light.Life = d.light.Life.Event(now, true, d.latch)
		if d.lit && !d.out {
			return 0
		}
		d.lit, d.out, d.acked = true, false, false
		return book.Lit
	case 1:
		d.light.Life = d.light.Life.Event(now, false, d.latch)
		if d.latch {
			d.out = d.lit
			return 0
		}
		return d.ended(d.lit)
	case 2:
		d.light.Life = d.light.Life.Ack()
		if !d.lit || d.acked {
			return 0
		}
		d.acked = true
		return book.Acked
	case 3:
		d.light.Life = d.light.Life.Reset()
		return d.ended(d.lit && d.out)
	}
	return 0
}

// ended: it is indicated no more, if that is so.
func (d *deeds) ended(is bool) byte {
	if !is {
		return 0
	}
	d.lit, d.out, d.acked = false, false, false
	return book.Dark
}

// Lights that come, are acknowledged, go, and come anew.
func TestDeedsTickByTick(t *testing.T) {
	draw := rand.New(rand.NewSource(3))
	for range 300 {
		room := draw.Intn(30)
		b, p := book.New(room), &plain{room: room}
		var all []*deeds
		for _, cond := range draw.Perm(34)[:draw.Intn(6)] {
			all = append(all, &deeds{light: light(cond, "---", 0), latch: draw.Intn(2) == 0})
		}
		was := shown(all)
		for now := int64(1); now < 60; now++ {
			for _, d := range all {
				if kind := d.next(draw, now); kind != 0 {
					p.add(entry(now, kind, d.light.Cond))
				}
			}
			is := shown(all)
			b.Compare(now, was, is)
			p.want(t, b)
			was = slices.Clone(is)
		}
	}
}

// shown is the lights of these.
func shown(all []*deeds) []panel.Light {
	var l []panel.Light
	for _, d := range all {
		l = append(l, d.light)
	}
	return l
}

// No book has more than its room.
func TestNoMoreThanItsRoom(t *testing.T) {
	for _, x := range []struct{ n, most int }{{-5, 0}, {0, 0}, {1, 1}, {9, 9}, {1024, 1024}, {5000, 1024}} {
		b := book.New(x.n)
		for tick := range int64(3000) {
			b.Compare(tick, before(), after())
			b.Add(tick, book.On, 0)
			if many := len(b.All()); many > x.most || b.Count() != many+b.Lost() {
				t.Fatalf("New(%d): %d are there, Count %d, Lost %d", x.n, many, b.Count(), b.Lost())
			}
		}
	}
}
