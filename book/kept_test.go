package book_test

import (
	"slices"
	"testing"

	"handbell/api"
	"handbell/book"
	"handbell/panel"
)

// before and after are lights of which all that may be told is told.
func before() []panel.Light {
	return lights(light(3, "---", 0), light(1, "OL-", 2), light(2, "OL-", 2), light(0, "OLA", 2))
}

func after() []panel.Light {
	return lights(light(3, "OL-", 6), light(1, "---", 0), light(2, "OLA", 2), light(0, "OL-", 6))
}

// told is what is told of them at 6.
func told() []api.Entry {
	return []api.Entry{entry(6, book.Lit, 3), entry(6, book.Dark, 1), entry(6, book.Acked, 2), entry(6, book.Lit, 0)}
}

// The lights stay as they were, and what is behind them, too.
func TestLightsStayAsTheyWere(t *testing.T) {
	was, is := before(), after()
	for many := range len(was) + 1 {
		for _, b := range []*book.Book{book.New(9), book.New(1), nil} {
			b.Compare(6, was[:many], is)
			b.Compare(6, was, is[:many])
			b.Compare(6, was, was)
			b.All()
		}
	}
	if !slices.Equal(was, before()) || !slices.Equal(is, after()) {
		t.Errorf("%+v and %+v, were %+v and %+v", was, is, before(), after())
	}
}

// The lights may be written over, and are then asked as they are.
func TestLightsMayBeWrittenOver(t *testing.T) {
	was, is := before(), after()
	b := book.New(9)
	b.Compare(6, was, is)
	clear(was)
	clear(is)
	wantBook(t, b, 4, 0, told()...)
	b.Compare(7, was, is)
	was[2], is[2] = light(12, "---", 0), light(12, "OL-", 8)
	b.Compare(8, was, is)
	wantBook(t, b, 5, 0, append(told(), entry(8, book.Lit, 12))...)
}

// What All answered may be written over: no two answers share any of it, and neither does the book.
func TestAllMayBeWrittenOver(t *testing.T) {
	for _, room := range []int{4, 9} {
		b := book.New(room)
		b.Compare(6, before(), after())
		all, again := b.All(), b.All()
		clear(all)
		all = append(all, entry(99, book.Begun, 99))
		if !slices.Equal(again, told()) || len(all) != 5 {
			t.Errorf("two answers share: %+v", again)
		}
		wantBook(t, b, 4, 0, told()...)
		b.Add(7, book.On, 0)
		if !slices.Equal(again, told()) {
			t.Errorf("an answer changes behind the call: %+v", again)
		}
	}
}

// What was answered stays while the book is filled beyond its room.
func TestAnswersStay(t *testing.T) {
	b := book.New(3)
	var answers [][]api.Entry
	for tick := range int64(12) {
		b.Add(tick, book.Lit, 0)
		answers = append(answers, b.All())
	}
	for tick, all := range answers {
		for i, e := range all {
			if want := entry(int64(tick-len(all)+1+i), book.Lit, 0); e != want {
				t.Errorf("behind %d: %+v, want %+v", tick, e, want)
			}
		}
	}
}

// Asking changes nothing.
func TestAskedAgain(t *testing.T) {
	b := added(2, told()...)
	for range 3 {
		wantBook(t, b, 4, 2, told()[2:]...)
	}
}

// Two books know nothing of each other.
func TestEachIsItsOwn(t *testing.T) {
	a, b := book.New(2), book.New(2)
	a.Add(1, book.On, 0)
	wantBook(t, b, 0, 0)
	b.Compare(6, before(), after())
	wantBook(t, a, 1, 0, entry(1, book.On, 0))
	wantBook(t, b, 4, 2, told()[2:]...)
	wantBook(t, book.New(2), 0, 0)
}
