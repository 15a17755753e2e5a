package book_test

import (
	"math"
	"slices"
	"testing"

	"handbell/api"
	"handbell/book"
	"handbell/life"
	"handbell/panel"
)

// entry is one of these.
func entry(tick int64, kind byte, cond int) api.Entry {
	return api.Entry{Tick: tick, Kind: kind, Cond: cond}
}

// light is one of these letters: O of On, L of Lit, A of Acked, each in its place, or a dash.
func light(cond int, letters string, since int64) panel.Light {
	l := life.Life{On: letters[0] == 'O', Lit: letters[1] == 'L', Acked: letters[2] == 'A', Since: since}
	return panel.Light{Cond: cond, Priority: api.Medium, Life: l}
}

// lights is a list of these.
func lights(l ...panel.Light) []panel.Light { return l }

// added is a book with room for so many, to which all these were added.
func added(room int, all ...api.Entry) *book.Book {
	b := book.New(room)
	for _, e := range all {
		b.Add(e.Tick, e.Kind, e.Cond)
	}
	return b
}

func wantBook(t *testing.T, b *book.Book, count, lost int, want ...api.Entry) {
	t.Helper()
	if all := b.All(); !slices.Equal(all, want) {
		t.Errorf("All: %+v, want %+v", all, want)
	}
	if b.Count() != count || b.Lost() != lost {
		t.Errorf("Count %d, Lost %d, want %d, %d", b.Count(), b.Lost(), count, lost)
	}
}

// wantCompared asks what a new book has of one Compare.
func wantCompared(t *testing.T, tick int64, was, is []panel.Light, want ...api.Entry) {
	t.Helper()
	b := book.New(1024)
	b.Compare(tick, was, is)
	if all := b.All(); !slices.Equal(all, want) {
		t.Errorf("Compare at %d of %+v and %+v: %+v, want %+v", tick, was, is, all, want)
	}
	if b.Count() != len(want) || b.Lost() != 0 {
		t.Errorf("Compare of %+v and %+v: Count %d, Lost %d", was, is, b.Count(), b.Lost())
	}
}

func TestExample(t *testing.T) {
	wantBook(t, added(1, entry(3, book.Lit, 0), entry(5, book.Dark, 0)), 2, 1, entry(5, book.Dark, 0))
}

func TestKinds(t *testing.T) {
	kinds := []byte{book.Lit, book.Dark, book.Acked, book.Paused, book.Off, book.On, book.Begun}
	if !slices.Equal(kinds, []byte{1, 2, 3, 4, 5, 6, 7}) {
		t.Error(kinds)
	}
}

func TestNewHasNone(t *testing.T) {
	for _, room := range []int{-1, 0, 1, 50, 2000} {
		wantBook(t, book.New(room), 0, 0)
	}
}

func TestAdd(t *testing.T) {
	b := book.New(3)
	a, c, d, e := entry(4, book.Lit, 7), entry(4, book.Lit, 2), entry(9, book.Paused, 0), entry(12, book.Begun, api.Restart)
	for _, x := range []struct {
		e    api.Entry
		lost int
		all  []api.Entry
	}{
		{a, 0, []api.Entry{a}},
		{c, 0, []api.Entry{a, c}},
		{d, 0, []api.Entry{a, c, d}},
		{e, 1, []api.Entry{c, d, e}},
		{e, 2, []api.Entry{d, e, e}},
		{a, 3, []api.Entry{e, e, a}},
		{c, 4, []api.Entry{e, a, c}},
	} {
		b.Add(x.e.Tick, x.e.Kind, x.e.Cond)
		wantBook(t, b, x.lost+len(x.all), x.lost, x.all...)
	}
}

// The same entry is one more each time.
func TestSameAgain(t *testing.T) {
	e := entry(6, book.On, 0)
	wantBook(t, added(4, e, e, e), 3, 0, e, e, e)
	wantBook(t, added(2, e, e, e), 3, 1, e, e)
}

// Ticks that fall stand in the order in which they came.
func TestOrderIsThatOfAdd(t *testing.T) {
	a, b, c := entry(9, book.Off, 0), entry(2, book.Begun, 101), entry(5, book.Acked, 3)
	wantBook(t, added(3, a, b, c), 3, 0, a, b, c)
	wantBook(t, added(2, a, b, c), 3, 1, b, c)
}

func TestRoom(t *testing.T) {
	for _, x := range []struct{ n, room int }{
		{math.MinInt, 0}, {-1, 0}, {0, 0}, {1, 1}, {2, 2}, {50, 50}, {api.MaxLog, api.MaxLog},
		{1023, 1023}, {1024, 1024}, {1025, 1024}, {math.MaxInt, 1024},
	} {
		b := book.New(x.n)
		var all []api.Entry
		for i := range 2*x.room + 3 {
			e := entry(int64(i), byte(i%7+1), -i)
			b.Add(e.Tick, e.Kind, e.Cond)
			all = append(all, e)
			lost := max(len(all)-x.room, 0)
			wantBook(t, b, len(all), lost, all[lost:]...)
			if t.Failed() {
				t.Fatalf("New(%d), behind %d entries", x.n, len(all))
			}
		}
	}
}

// What is added to a book without room is counted, and lost.
func TestNoRoom(t *testing.T) {
	for _, n := range []int{0, -1, math.MinInt} {
		b := added(n, entry(1, book.On, 0), entry(2, book.Off, 0))
		wantBook(t, b, 2, 2)
		b.Compare(3, lights(light(1, "---", 0), light(2, "OL-", 1)), lights(light(1, "OL-", 3), light(2, "---", 0)))
		wantBook(t, b, 4, 4)
	}
}

// Each sentence of Compare.
func TestCompare(t *testing.T) {
	for _, x := range []struct {
		was, is string
		since   int64 // of was; is is Since 5
		kind    byte  // 0: nothing
	}{
		{"---", "OL-", 0, book.Lit},
		{"---", "OL-", 5, book.Lit},
		{"---", "OLA", 5, book.Lit},
		{"OL-", "OL-", 4, book.Lit},
		{"OL-", "OL-", 6, book.Lit},
		{"OL-", "OLA", 4, book.Lit},
		{"OLA", "OL-", 4, book.Lit},
		{"OLA", "OLA", 4, book.Lit},
		{"-LA", "OL-", 4, book.Lit},
		{"OL-", "---", 5, book.Dark},
		{"OL-", "---", 4, book.Dark},
		{"OLA", "---", 5, book.Dark},
		{"-L-", "---", 4, book.Dark},
		{"OL-", "--A", 5, book.Dark},
		{"OL-", "O--", 5, book.Dark},
		{"OL-", "OLA", 5, book.Acked},
		{"OL-", "-LA", 5, book.Acked},
		{"-L-", "-LA", 5, book.Acked},
		{"OL-", "OL-", 5, 0},
		{"OL-", "-L-", 5, 0},
		{"-L-", "OL-", 5, 0},
		{"OLA", "OLA", 5, 0},
		{"OLA", "-LA", 5, 0},
		{"OLA", "OL-", 5, 0},
		{"-LA", "-L-", 5, 0},
		{"---", "---", 4, 0},
		{"---", "O--", 4, 0},
		{"O--", "---", 4, 0},
		{"---", "--A", 5, 0},
		{"O-A", "O--", 5, 0},
	} {
		was, is := lights(light(8, x.was, x.since)), lights(light(8, x.is, 5))
		if x.kind == 0 {
			wantCompared(t, 30, was, is)
			continue
		}
		wantCompared(t, 30, was, is, entry(30, x.kind, 8))
	}
}

// What has become is told of Lit, Acked and Since alone: neither by On, nor by how high it is, nor by its stage.
func TestCompareAsksNothingElse(t *testing.T) {
	was := lights(light(1, "OL-", 5), light(2, "OLA", 5), light(3, "---", 5), light(4, "-LA", 9))
	is := slices.Clone(was)
	for i := range is {
		is[i].Priority, is[i].Life.Stage, is[i].Life.On = api.High, 3, !is[i].Life.On
	}
	wantCompared(t, 9, was, is)
	wantCompared(t, 9, is, was)
}

// A light that isn't Lit is none, whatever else its numbers say.
func TestCompareOfDarkOnes(t *testing.T) {
	all := lights(light(1, "---", 0), light(1, "O--", 5), light(1, "--A", 9), light(1, "O-A", 30), light(1, "O-A", math.MinInt64))
	for _, was := range all {
		for _, is := range all {
			wantCompared(t, 30, lights(was), lights(is))
		}
		wantCompared(t, 30, lights(was), lights(light(1, "OLA", was.Life.Since)), entry(30, book.Lit, 1))
		wantCompared(t, 30, lights(light(1, "OLA", was.Life.Since)), lights(was), entry(30, book.Dark, 1))
	}
}

// One behind the other, in the order of the lights, whatever is told of them; of some nothing is.
func TestCompareInOrder(t *testing.T) {
	was := lights(light(9, "OL-", 2), light(4, "---", 0), light(7, "OL-", 2), light(100, "OL-", 2), light(1, "OLA", 2), light(101, "-L-", 2))
	is := lights(light(9, "OLA", 2), light(4, "OL-", 6), light(7, "OL-", 2), light(100, "---", 0), light(1, "OL-", 6), light(101, "-LA", 2))
	wantCompared(t, 6, was, is,
		entry(6, book.Acked, 9), entry(6, book.Lit, 4), entry(6, book.Dark, 100), entry(6, book.Lit, 1), entry(6, book.Acked, 101))
	wantCompared(t, 7, is, was,
		entry(7, book.Dark, 4), entry(7, book.Lit, 100), entry(7, book.Lit, 1))
	wantCompared(t, 8, is, is)
}

// As far as both go.
func TestCompareOfUnlikeLengths(t *testing.T) {
	was := lights(light(0, "---", 0), light(1, "OL-", 2), light(2, "OL-", 2))
	is := lights(light(0, "OL-", 6), light(1, "---", 0), light(2, "OLA", 2))
	all := []api.Entry{entry(6, book.Lit, 0), entry(6, book.Dark, 1), entry(6, book.Acked, 2)}
	for ahead := range len(was) + 1 {
		for now := range len(is) + 1 {
			wantCompared(t, 6, was[:ahead], is[:now], all[:min(ahead, now)]...)
		}
	}
	wantCompared(t, 6, nil, is)
	wantCompared(t, 6, was, nil)
	wantCompared(t, 6, nil, nil)
	wantCompared(t, 6, lights(), nil)
}

// What is Compared goes where what is Added goes; the oldest goes in the midst of a Compare, too.
func TestCompareBeyondTheRoom(t *testing.T) {
	b := added(3, entry(1, book.Paused, 0), entry(2, book.On, 0))
	was := lights(light(0, "---", 0), light(1, "OL-", 2), light(2, "OL-", 2), light(3, "---", 0))
	is := lights(light(0, "OL-", 6), light(1, "---", 0), light(2, "OL-", 2), light(3, "OL-", 6))
	b.Compare(6, was, is)
	wantBook(t, b, 5, 2, entry(6, book.Lit, 0), entry(6, book.Dark, 1), entry(6, book.Lit, 3))
	b.Compare(7, is, is)
	wantBook(t, b, 5, 2, entry(6, book.Lit, 0), entry(6, book.Dark, 1), entry(6, book.Lit, 3))
	b.Add(8, book.Off, 0)
	wantBook(t, b, 6, 3, entry(6, book.Dark, 1), entry(6, book.Lit, 3), entry(8, book.Off, 0))
	b.Compare(9, is, was)
	wantBook(t, b, 9, 6, entry(9, book.Dark, 0), entry(9, book.Lit, 1), entry(9, book.Dark, 3))
}

// A book doesn't keep which lights there were: what it is told is all that it knows.
func TestCompareHangsOnWhatItIsHanded(t *testing.T) {
	dark, lit := lights(light(1, "---", 0)), lights(light(1, "OL-", 4))
	b := book.New(9)
	b.Compare(4, dark, lit)
	b.Compare(5, dark, lit)
	b.Compare(6, lit, dark)
	b.Compare(3, lit, dark)
	wantBook(t, b, 4, 0, entry(4, book.Lit, 1), entry(5, book.Lit, 1), entry(6, book.Dark, 1), entry(3, book.Dark, 1))
}

// A light tick by tick: it comes, is acknowledged, goes but stays latched, comes anew, goes, and is reset.
func TestTickByTick(t *testing.T) {
	b := book.New(20)
	was := lights(light(6, "---", 0), light(100, "---", 0))
	step := func(now int64, deeds ...func(life.Life) life.Life) {
		is := slices.Clone(was)
		for _, deed := range deeds {
			is[0].Life = deed(is[0].Life)
		}
		b.Compare(now, was, is)
		was = is
	}
	come := func(now int64) func(life.Life) life.Life {
		return func(l life.Life) life.Life { return l.Event(now, true, true) }
	}
	latch := func(l life.Life) life.Life { return l.Event(99, false, true) }
	leave := func(l life.Life) life.Life { return l.Event(99, false, false) }
	step(1)
	step(2, come(2))
	step(3)
	step(4, life.Life.Ack)
	step(5, life.Life.Ack)
	step(6, latch)
	step(7, come(7))
	step(8, latch, come(8))
	step(9, latch, life.Life.Ack)
	step(10, life.Life.Reset)
	step(11, come(11), leave)
	step(12, come(12), life.Life.Ack)
	step(13, leave, come(13), life.Life.Ack)
	step(14, life.Life.Reset)
	step(15, leave)
	wantBook(t, b, 9, 0,
		entry(2, book.Lit, 6), entry(4, book.Acked, 6), entry(7, book.Lit, 6), entry(8, book.Lit, 6), entry(9, book.Acked, 6),
		entry(10, book.Dark, 6), entry(12, book.Lit, 6), entry(13, book.Lit, 6), entry(15, book.Dark, 6))
}

// One that goes and comes within the tick at which it came is Lit Since the same time: nothing is told.
func TestSameTickAgain(t *testing.T) {
	lit := lights(light(1, "OL-", 5))
	again := lights(light(1, "OL-", 5))
	again[0].Life = again[0].Life.Event(5, false, false).Event(5, true, false)
	wantCompared(t, 5, lit, again)
	again[0].Life = again[0].Life.Event(6, false, false).Event(6, true, false)
	wantCompared(t, 6, lit, again, entry(6, book.Lit, 1))
}
