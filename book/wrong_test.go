package book_test

import (
	"math"
	"testing"

	"handbell/api"
	"handbell/book"
)

// numbers are those about which the bounds of ticks and of 64 bits lie.
func numbers() []int64 {
	return []int64{math.MinInt64, math.MinInt64 + 1, -1, 0, 1, api.MaxTick, api.MaxTick + 1, math.MaxInt64 - 1, math.MaxInt64}
}

func TestNil(t *testing.T) {
	var b *book.Book
	for _, tick := range numbers() {
		b.Add(tick, book.Lit, 1)
		b.Compare(tick, before(), after())
		b.Compare(tick, nil, after())
		b.Compare(tick, before(), nil)
		wantBook(t, b, 0, 0)
	}
}

// Ticks, Conds and kinds of every sort are kept as they came.
func TestAnyEntry(t *testing.T) {
	b := book.New(1)
	count := 0
	for _, tick := range numbers() {
		for _, cond := range numbers() {
			for kind := range 256 {
				b.Add(tick, byte(kind), int(cond))
				wantBook(t, b, count+1, count, entry(tick, byte(kind), int(cond)))
				count++
			}
		}
	}
}

// Since any two times: another one is another one, however far it is, and whichever is the earlier.
func TestCompareOfAnyTimes(t *testing.T) {
	for _, was := range numbers() {
		for _, is := range numbers() {
			for _, tick := range numbers() {
				if was == is {
					wantCompared(t, tick, lights(light(1, "OL-", was)), lights(light(1, "OL-", is)))
					wantCompared(t, tick, lights(light(1, "OL-", was)), lights(light(1, "OLA", is)), entry(tick, book.Acked, 1))
					continue
				}
				wantCompared(t, tick, lights(light(1, "OL-", was)), lights(light(1, "OL-", is)), entry(tick, book.Lit, 1))
				wantCompared(t, tick, lights(light(1, "OL-", was)), lights(light(1, "OLA", is)), entry(tick, book.Lit, 1))
			}
		}
	}
}

func TestCompareOfAnyConds(t *testing.T) {
	for _, n := range numbers() {
		cond := int(n)
		wantCompared(t, 5, lights(light(cond, "---", 0)), lights(light(cond, "OL-", 5)), entry(5, book.Lit, cond))
		wantCompared(t, 5, lights(light(cond, "OL-", 1)), lights(light(cond, "---", 0)), entry(5, book.Dark, cond))
		wantCompared(t, 5, lights(light(cond, "OL-", 1)), lights(light(cond, "OLA", 1)), entry(5, book.Acked, cond))
	}
}

// Priorities that are none, and stages that there aren't, are no concern of a book.
func TestCompareOfAnyPriority(t *testing.T) {
	for _, priority := range []byte{0, 4, 255} {
		was, is := before(), after()
		for i := range was {
			was[i].Priority, is[i].Priority = priority, 255-priority
			was[i].Life.Stage, is[i].Life.Stage = math.MinInt, math.MaxInt
		}
		wantCompared(t, 6, was, is, told()...)
	}
}

// Of lights of unlike Conds nothing is promised, but that each call ends.
func TestCompareOfUnlikeConds(t *testing.T) {
	b := book.New(3)
	b.Compare(5, lights(light(1, "OL-", 1), light(2, "---", 0), light(3, "OL-", 1)), lights(light(7, "---", 0), light(8, "OL-", 5), light(9, "OLA", 1)))
	if b.Count() != len(b.All()) || b.Lost() != 0 {
		t.Errorf("Count %d, Lost %d, All %+v", b.Count(), b.Lost(), b.All())
	}
}

// Many lights, and many entries, in a book of the greatest room.
func TestManyLights(t *testing.T) {
	b := book.New(math.MaxInt)
	was, is := lights(), lights()
	for i := range 100000 {
		was, is = append(was, light(i, "---", 0)), append(is, light(i, "OL-", 5))
	}
	b.Compare(5, was, is)
	all := b.All()
	if b.Count() != 100000 || b.Lost() != 100000-1024 || len(all) != 1024 {
		t.Fatalf("Count %d, Lost %d, %d are there", b.Count(), b.Lost(), len(all))
	}
	for i, e := range all {
		if e != entry(5, book.Lit, 100000-1024+i) {
			t.Fatalf("%d: %+v", i, e)
		}
	}
}
