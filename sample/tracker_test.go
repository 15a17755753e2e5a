package sample_test

import (
	"math"
	"math/rand"
	"testing"

	"handbell/api"
	"handbell/sample"
)

func wantNext(t *testing.T, k *sample.Tracker, signal int, seq byte, lost int, fresh bool) {
	t.Helper()
	if gotLost, gotFresh := k.Next(api.Sample{Signal: signal, Seq: seq}); gotLost != lost || gotFresh != fresh {
		t.Errorf("Next of signal %d, Seq %d: %d, %t, want %d, %t", signal, seq, gotLost, gotFresh, lost, fresh)
	}
}

func wantCount(t *testing.T, k *sample.Tracker, signal, fresh, lost int) {
	t.Helper()
	if gotFresh, gotLost := k.Count(signal); gotFresh != fresh || gotLost != lost {
		t.Errorf("Count of signal %d: %d, %d, want %d, %d", signal, gotFresh, gotLost, fresh, lost)
	}
}

func TestExample(t *testing.T) {
	k := sample.NewTracker(1)
	wantNext(t, k, 0, 250, 0, true)
	wantNext(t, k, 0, 2, 7, true)
	wantCount(t, k, 0, 2, 7)
}

// The first one of a signal is new, whichever its Seq is: 0 and 255, too.
func TestEveryFirst(t *testing.T) {
	for seq := range 256 {
		k := sample.NewTracker(2)
		wantCount(t, k, 1, 0, 0)
		wantNext(t, k, 1, byte(seq), 0, true)
		wantCount(t, k, 1, 1, 0)
		wantNext(t, k, 1, byte(seq), 0, false)
		wantCount(t, k, 1, 1, 0)
		wantCount(t, k, 0, 0, 0)
	}
}

func TestEveryTwo(t *testing.T) {
	for last := range 256 {
		for seq := range 256 {
			k := sample.NewTracker(1)
			wantNext(t, k, 0, byte(last), 0, true)
			lost := 0
			for at := last + 1; at%256 != seq && lost < 255; at++ {
				lost++
			}
			if seq == last {
				wantNext(t, k, 0, byte(seq), 0, false)
				wantCount(t, k, 0, 1, 0)
				continue
			}
			wantNext(t, k, 0, byte(seq), lost, true)
			wantCount(t, k, 0, 2, lost)
			wantNext(t, k, 0, byte(seq), 0, false)
			wantCount(t, k, 0, 2, lost)
		}
	}
}

func TestOneBehindTheOther(t *testing.T) {
	k := sample.NewTracker(1)
	for i := range 1000 { // from 255 to 0, too
		wantNext(t, k, 0, byte(i), 0, true)
		wantCount(t, k, 0, i+1, 0)
	}
}

func TestSteps(t *testing.T) {
	k := sample.NewTracker(1)
	for _, c := range []struct {
		seq   byte
		lost  int
		fresh bool
	}{
		{254, 0, true}, {255, 0, true}, {0, 0, true}, {0, 0, false}, {1, 0, true}, {3, 1, true}, {3, 0, false}, {3, 0, false},
		{2, 254, true}, {1, 254, true}, {0, 254, true}, {255, 254, true}, {1, 1, true}, {255, 253, true}, {127, 127, true},
		{0, 128, true}, {128, 127, true}, {0, 127, true}, {0, 0, false},
	} {
		wantNext(t, k, 0, c.seq, c.lost, c.fresh)
	}
	wantCount(t, k, 0, 15, 1+4*254+1+253+127+128+127+127)
}

// One that came twice isn't the last one anew: what is behind it is told by itself.
func TestTwiceChangesNothing(t *testing.T) {
	k := sample.NewTracker(1)
	wantNext(t, k, 0, 10, 0, true)
	for range 5 {
		wantNext(t, k, 0, 10, 0, false)
	}
	wantNext(t, k, 0, 11, 0, true)
	wantNext(t, k, 0, 10, 254, true) // not the last one any more
	wantCount(t, k, 0, 3, 254)
}

// By its Signal and its Seq alone, and what was Bad counts as well.
func TestValuesSayNothing(t *testing.T) {
	k := sample.NewTracker(1)
	for _, c := range []struct {
		s     api.Sample
		lost  int
		fresh bool
	}{
		{api.Sample{Seq: 5, Value: 7, Bad: true}, 0, true},
		{api.Sample{Seq: 5, Value: 8}, 0, false},
		{api.Sample{Seq: 6, Value: 7, Bad: true}, 0, true},
		{api.Sample{Seq: 8, Value: math.MinInt}, 1, true},
		{api.Sample{Seq: 8, Value: math.MaxInt, Bad: true}, 0, false},
	} {
		if lost, fresh := k.Next(c.s); lost != c.lost || fresh != c.fresh {
			t.Errorf("Next(%v): %d, %t, want %d, %t", c.s, lost, fresh, c.lost, c.fresh)
		}
	}
	wantCount(t, k, 0, 3, 1)
}

func TestSignalsAreApart(t *testing.T) {
	k := sample.NewTracker(3)
	wantNext(t, k, 2, 100, 0, true)
	wantNext(t, k, 0, 100, 0, true)
	wantNext(t, k, 2, 102, 1, true)
	wantNext(t, k, 1, 7, 0, true)
	wantNext(t, k, 0, 101, 0, true)
	wantNext(t, k, 1, 7, 0, false)
	wantNext(t, k, 2, 101, 254, true)
	wantNext(t, k, 0, 101, 0, false)
	wantNext(t, k, 1, 9, 1, true)
	wantCount(t, k, 0, 2, 0)
	wantCount(t, k, 1, 2, 1)
	wantCount(t, k, 2, 3, 255)
}

// sizes are how many signals a tracker is told, and how many it has.
var sizes = []struct{ told, has int }{
	{math.MinInt, 0}, {math.MinInt32, 0}, {-9, 0}, {-1, 0}, {0, 0}, {1, 1}, {2, 2}, {3, 3}, {4, 4}, {5, 5}, {6, 6}, {7, 7}, {8, 8},
	{9, 8}, {10, 8}, {255, 8}, {256, 8}, {257, 8}, {1 << 32, 8}, {math.MaxInt, 8},
}

// others are numbers that are no signals, whatever a tracker was told.
var others = []int{
	math.MinInt, math.MinInt + 1, -1 << 32, math.MinInt32, -257, -256, -255, -8, -2, -1,
	8, 9, 10, 255, 256, 257, 1<<31 - 1, 1 << 32, 1<<32 + 1, math.MaxInt - 1, math.MaxInt,
}

func TestSizes(t *testing.T) {
	for _, c := range sizes {
		k := sample.NewTracker(c.told)
		if k == nil {
			t.Fatal("a tracker is one, however many it is told")
		}
		for round := range 2 { // the second time each is behind the first
			for signal := range api.MaxSignals {
				if signal >= c.has {
					wantNext(t, k, signal, byte(2*round), 0, false)
					wantCount(t, k, signal, 0, 0)
					continue
				}
				wantNext(t, k, signal, byte(2*round), round, true)
				wantCount(t, k, signal, round+1, round)
			}
			for _, signal := range others {
				wantNext(t, k, signal, byte(round), 0, false)
				wantCount(t, k, signal, 0, 0)
			}
		}
		for signal := range c.has { // and those that there aren't have changed nothing
			wantCount(t, k, signal, 2, 1)
		}
	}
}

func TestNil(t *testing.T) {
	var k *sample.Tracker
	for _, signal := range append([]int{0, 1, 7}, others...) {
		for _, seq := range []byte{0, 1, 255} {
			wantNext(t, k, signal, seq, 0, false)
		}
		wantCount(t, k, signal, 0, 0)
	}
}

// A tracker that wasn't made, though it isn't nil, must not panic either.
func TestZeroTracker(t *testing.T) {
	k := &sample.Tracker{}
	for _, signal := range append([]int{0, 1, 7}, others...) {
		wantNext(t, k, signal, 1, 0, false)
		wantCount(t, k, signal, 0, 0)
	}
}

func TestTrackersAreApart(t *testing.T) {
	a, b := sample.NewTracker(2), sample.NewTracker(2)
	wantNext(t, a, 1, 5, 0, true)
	wantNext(t, b, 1, 9, 0, true)
	wantNext(t, a, 1, 9, 3, true)
	wantNext(t, b, 1, 9, 0, false)
	wantCount(t, a, 1, 2, 3)
	wantCount(t, b, 1, 1, 0)
}

// In all more may be lost than 32 bits hold.
func TestMany(t *testing.T) {
	k := sample.NewTracker(8)
	const many = 1<<32/254 + 1000
	for i := range many {
		if lost, fresh := k.Next(api.Sample{Signal: 7, Seq: byte(-i)}); lost != 254 && i > 0 || !fresh {
			t.Fatal(i, lost, fresh)
		}
	}
	wantCount(t, k, 7, many, 254*(many-1))
}

// counted is what must be known of a signal.
type counted struct {
	seqs []byte // all that were new
	lost int
}

// next is a model of Next, that counts one by one what is between.
func (c *counted) next(seq byte) (int, bool) {
	n := len(c.seqs)
	if n == 0 {
		c.seqs = append(c.seqs, seq)
		return 0, true
	}
	last := c.seqs[n-1]
	if last == seq {
		return 0, false
	}
	lost := 0
	for want := last + 1; want != seq; want++ {
		lost++
	}
	c.seqs = append(c.seqs, seq)
	c.lost += lost
	return lost, true
}

// drawSeq is the one behind the last one, most often, or near it, or any.
func drawSeq(draw *rand.Rand, last byte) byte {
	switch draw.Intn(4) {
	case 0:
		return last
	case 1:
		return last + 1
	case 2:
		return last + byte(draw.Intn(7)) - 3
	}
	return byte(draw.Intn(256))
}

func TestTrackerAtRandom(t *testing.T) {
	draw := rand.New(rand.NewSource(72))
	for range 300 {
		told := draw.Intn(14) - 2
		has := min(max(told, 0), api.MaxSignals)
		k, want := sample.NewTracker(told), make([]counted, has)
		lasts := map[int]byte{}
		for range 500 {
			signal := draw.Intn(12) - 2
			seq := drawSeq(draw, lasts[signal])
			lasts[signal] = seq
			if signal < 0 || signal >= has {
				wantNext(t, k, signal, seq, 0, false)
				wantCount(t, k, signal, 0, 0)
				continue
			}
			lost, fresh := want[signal].next(seq)
			wantNext(t, k, signal, seq, lost, fresh)
			for i := range want {
				wantCount(t, k, i, len(want[i].seqs), want[i].lost)
			}
		}
		if t.Failed() {
			return
		}
	}
}
