package sample_test

import (
	"bytes"
	"math"
	"math/rand"
	"slices"
	"testing"

	"handbell/api"
	"handbell/sample"
)

const (
	most  = 1<<31 - 1
	least = -1 << 31
	size  = 7 // of a payload
)

// laid is the payload of these, byte for byte: Bytes itself is held against it.
func laid(signal, seq, bad byte, value int) []byte {
	return []byte{signal, seq, bad, byte(value >> 24), byte(value >> 16), byte(value >> 8), byte(value)}
}

// wide are n signals that have each value of 32 bits.
func wide(n int) []api.Signal {
	return slices.Repeat([]api.Signal{{Min: least, Max: most}}, n)
}

// ends are numbers at the bounds of 32 bits, and some between.
func ends() []int {
	return []int{least, least + 1, -70000, -257, -256, -255, -2, -1, 0, 1, 2, 127, 128, 255, 256, 258, 0x01020304, 70000, most - 1, most}
}

func wantBytes(t *testing.T, s api.Sample, want []byte) {
	t.Helper()
	if got := sample.Bytes(s); !bytes.Equal(got, want) {
		t.Errorf("Bytes(%v): %x, want %x", s, got, want)
	}
}

func wantRead(t *testing.T, p []byte, signals []api.Signal, want api.Sample) {
	t.Helper()
	if got, e := sample.Read(p, signals); got != want || e != api.OK {
		t.Errorf("Read(%x): %v, %v, want %v", p, got, e, want)
	}
}

// wantError: that error, and the zero value beside it.
func wantError(t *testing.T, p []byte, signals []api.Signal, want api.Errno) {
	t.Helper()
	if got, e := sample.Read(p, signals); got != (api.Sample{}) || e != want {
		t.Errorf("Read(%x) of %d signals: %v, %v, want %v", p, len(signals), got, e, want)
	}
}

func TestBytes(t *testing.T) {
	for _, c := range []struct {
		s    api.Sample
		want string
	}{
		{api.Sample{}, "\x00\x00\x00\x00\x00\x00\x00"},
		{api.Sample{Signal: 3}, "\x03\x00\x00\x00\x00\x00\x00"},
		{api.Sample{Seq: 250}, "\x00\xfa\x00\x00\x00\x00\x00"},
		{api.Sample{Bad: true}, "\x00\x00\x01\x00\x00\x00\x00"},
		{api.Sample{Value: 258}, "\x00\x00\x00\x00\x00\x01\x02"},
		{api.Sample{Value: -2}, "\x00\x00\x00\xff\xff\xff\xfe"},
		{api.Sample{Signal: 7, Seq: 255, Value: most, Bad: true}, "\x07\xff\x01\x7f\xff\xff\xff"},
		{api.Sample{Signal: 1, Seq: 2, Value: least}, "\x01\x02\x00\x80\x00\x00\x00"},
		{api.Sample{Signal: 255, Seq: 128, Value: 0x12345678, Bad: true}, "\xff\x80\x01\x12\x34\x56\x78"},
	} {
		wantBytes(t, c.s, []byte(c.want))
	}
}

func TestBytesOfLowestBits(t *testing.T) {
	for _, c := range []struct {
		signal int
		want   byte
	}{
		{256, 0}, {257, 1}, {511, 255}, {512, 0}, {-1, 255}, {-2, 254}, {-255, 1}, {-256, 0}, {-257, 255},
		{1<<32 + 5, 5}, {math.MaxInt, 255}, {math.MinInt, 0}, {math.MinInt + 9, 9},
	} {
		wantBytes(t, api.Sample{Signal: c.signal, Seq: 4, Value: 6}, laid(c.want, 4, 0, 6))
	}
	for _, c := range []struct {
		value int
		want  string
	}{
		{most + 1, "\x80\x00\x00\x00"}, {least - 1, "\x7f\xff\xff\xff"}, {1 << 32, "\x00\x00\x00\x00"},
		{1<<32 + 7, "\x00\x00\x00\x07"}, {-1<<32 - 1, "\xff\xff\xff\xff"}, {0x123456789abcdef0, "\x9a\xbc\xde\xf0"},
		{math.MaxInt, "\xff\xff\xff\xff"}, {math.MinInt, "\x00\x00\x00\x00"},
	} {
		wantBytes(t, api.Sample{Signal: 1, Seq: 4, Value: c.value, Bad: true}, []byte("\x01\x04\x01"+c.want))
	}
}

func TestRead(t *testing.T) {
	signals := []api.Signal{{Min: 0, Max: 9}, {Min: -300, Max: 300}}
	for _, c := range []struct {
		p    string
		want api.Sample
	}{
		{"\x00\x00\x00\x00\x00\x00\x00", api.Sample{}},
		{"\x01\x00\x00\x00\x00\x00\x00", api.Sample{Signal: 1}},
		{"\x01\x07\x00\x00\x00\x01\x02", api.Sample{Signal: 1, Seq: 7, Value: 258}},
		{"\x01\xff\x00\xff\xff\xfe\xfe", api.Sample{Signal: 1, Seq: 255, Value: -258}},
		{"\x00\x07\x00\x00\x00\x01\x02", api.Sample{Seq: 7, Value: 258, Bad: true}}, // each signal has its own bounds
		{"\x01\x07\x01\x00\x00\x00\x05", api.Sample{Signal: 1, Seq: 7, Value: 5, Bad: true}},
		{"\x00\x07\x01\xff\xff\xff\xff", api.Sample{Seq: 7, Value: -1, Bad: true}},
	} {
		wantRead(t, []byte(c.p), signals, c.want)
	}
}

// What was laid of a sample is read again, just so.
func TestThereAndBack(t *testing.T) {
	signals := wide(api.MaxSignals)
	for signal := range signals {
		for seq := range 256 {
			for _, value := range ends() {
				for _, bad := range []bool{false, true} {
					s := api.Sample{Signal: signal, Seq: byte(seq), Value: value, Bad: bad}
					b := byte(0)
					if bad {
						b = 1
					}
					wantBytes(t, s, laid(byte(signal), byte(seq), b, value))
					wantRead(t, laid(byte(signal), byte(seq), b, value), signals, s)
				}
			}
		}
	}
}

// Each bit of a value has its place.
func TestEveryBitOfAValue(t *testing.T) {
	for bit := range 32 {
		value := int(int32(uint32(1) << bit))
		p := make([]byte, size)
		p[size-1-bit/8] = 1 << (bit % 8)
		wantBytes(t, api.Sample{Value: value}, p)
		wantRead(t, p, wide(1), api.Sample{Value: value})
	}
}

func TestLengths(t *testing.T) {
	wantError(t, nil, wide(8), api.ErrForm)
	for _, first := range []byte{0, 1, 2, 7, 255} { // none of these makes another length right
		for n := range 300 {
			p := make([]byte, n)
			if n > 0 {
				p[0] = first
			}
			if n != size {
				wantError(t, p, wide(8), api.ErrForm)
			}
		}
	}
	for _, s := range []api.Sample{{}, {Signal: 1, Seq: 9, Value: -2, Bad: true}} {
		p := sample.Bytes(s)
		wantRead(t, p, wide(2), s)
		wantError(t, p[:6], wide(2), api.ErrForm)
		wantError(t, p[1:], wide(2), api.ErrForm)
		wantError(t, append(bytes.Clone(p), 0), wide(2), api.ErrForm)
		wantError(t, append(bytes.Clone(p), p...), wide(2), api.ErrForm)
	}
	wantError(t, make([]byte, 1<<20), wide(2), api.ErrForm)
}

func TestThirdByte(t *testing.T) {
	for b := range 256 {
		for _, signals := range [][]api.Signal{wide(1), wide(8)} {
			p := laid(0, 5, byte(b), 77)
			if b > 1 {
				wantError(t, p, signals, api.ErrForm)
				continue
			}
			wantRead(t, p, signals, api.Sample{Seq: 5, Value: 77, Bad: b == 1})
		}
	}
}

func TestSignals(t *testing.T) {
	for _, n := range []int{0, 1, 2, 3, 7, 8, 9, 255, 256, 300} {
		for signal := range 256 {
			p := laid(byte(signal), 200, 0, -5)
			if signal >= n {
				wantError(t, p, wide(n), api.ErrNone)
				continue
			}
			wantRead(t, p, wide(n), api.Sample{Signal: signal, Seq: 200, Value: -5})
		}
	}
	wantError(t, make([]byte, size), nil, api.ErrNone)
	wantError(t, make([]byte, size), []api.Signal{}, api.ErrNone)
}

// The form is asked first, and then the signal.
func TestOrderOfErrors(t *testing.T) {
	signals := wide(2)
	for _, p := range [][]byte{
		{2, 7, 2, 0, 0, 0, 0}, {255, 7, 255, 0, 0, 0, 0},
		{2, 7, 0, 0, 0, 0}, {2, 7, 0, 0, 0, 0, 0, 0}, {2, 7, 2, 0, 0, 0}, {255}, {255, 0, 2},
	} {
		wantError(t, p, signals, api.ErrForm)
		wantError(t, p, nil, api.ErrForm)
	}
	wantError(t, laid(2, 7, 1, 0), signals, api.ErrNone)
	wantError(t, laid(2, 7, 1, most), []api.Signal{{}, {}}, api.ErrNone)
	wantError(t, nil, nil, api.ErrForm)
}

func TestBounds(t *testing.T) {
	for _, b := range []api.Signal{
		{Min: 0, Max: 9}, {Min: -300, Max: 300}, {Min: -9, Max: -3}, {Min: 3, Max: 300}, {Min: 5, Max: 5}, {}, {Min: -1, Max: -1},
		{Min: least, Max: most}, {Min: least, Max: least}, {Min: most, Max: most}, {Min: least + 1, Max: most - 1},
		{Min: -1, Max: 0}, {Min: 255, Max: 256}, {Min: -257, Max: -256},
	} {
		// At the place 1, with others beside it that would say something else.
		others := api.Signal{Min: b.Max + 1, Max: b.Max}
		signals := []api.Signal{others, b, others}
		for _, near := range []int{b.Min, b.Max, least, most, 0} {
			for value := near - 2; value <= near+2; value++ {
				if value < least || value > most {
					continue
				}
				outside := value < b.Min || value > b.Max
				wantRead(t, laid(1, 3, 0, value), signals, api.Sample{Signal: 1, Seq: 3, Value: value, Bad: outside})
				wantRead(t, laid(1, 3, 1, value), signals, api.Sample{Signal: 1, Seq: 3, Value: value, Bad: true})
			}
		}
	}
}

// Signals that layer 7 would refuse are no reason for an error.
func TestSignalsThatMayNotBe(t *testing.T) {
	for _, c := range []struct {
		b   api.Signal
		bad bool
	}{
		{api.Signal{Min: 1, Max: -1}, true},
		{api.Signal{Min: math.MinInt, Max: math.MaxInt}, false},
		{api.Signal{Min: math.MaxInt, Max: math.MinInt}, true},
		{api.Signal{Min: most + 1, Max: math.MaxInt}, true},
		{api.Signal{Min: math.MinInt, Max: least - 1}, true},
		{api.Signal{Min: least - 1, Max: most + 1}, false},
	} {
		for _, value := range ends() {
			wantRead(t, laid(0, 0, 0, value), []api.Signal{c.b}, api.Sample{Value: value, Bad: c.bad})
		}
	}
}

// model is what a payload says, by the chapter's words.
func model(p []byte, signals []api.Signal) (api.Sample, api.Errno) {
	if len(p) != size || p[2] != 0 && p[2] != 1 {
		return api.Sample{}, api.ErrForm
	}
	if int(p[0]) >= len(signals) {
		return api.Sample{}, api.ErrNone
	}
	value := int(p[3])<<24 + int(p[4])<<16 + int(p[5])<<8 + int(p[6])
	if value > most {
		value -= 1 << 32
	}
	b := signals[p[0]]
	return api.Sample{Signal: int(p[0]), Seq: p[1], Value: value, Bad: p[2] == 1 || value < b.Min || value > b.Max}, api.OK
}

func TestReadAtRandom(t *testing.T) {
	draw := rand.New(rand.NewSource(71))
	met := map[api.Errno]int{}
	for range 200000 {
		p := make([]byte, size)
		if draw.Intn(4) == 0 {
			p = make([]byte, draw.Intn(12))
		}
		draw.Read(p)
		if len(p) > 2 && draw.Intn(4) > 0 { // else most would be refused
			p[0], p[2] = byte(draw.Intn(9)), byte(draw.Intn(3))
		}
		signals := make([]api.Signal, draw.Intn(api.MaxSignals+1))
		for i := range signals {
			from := least + draw.Intn(1<<32)
			signals[i] = api.Signal{Min: from, Max: from + draw.Intn(most-from+1)}
		}
		s, e := sample.Read(p, signals)
		if wantS, wantE := model(p, signals); s != wantS || e != wantE {
			t.Fatalf("Read(%x) of %v: %v, %v, want %v, %v", p, signals, s, e, wantS, wantE)
		}
		met[e]++
	}
	for _, e := range []api.Errno{api.OK, api.ErrForm, api.ErrNone} {
		if met[e] < 10000 {
			t.Errorf("%v: only %d", e, met[e])
		}
	}
}

func TestNothingIsSharedByBytes(t *testing.T) {
	s := api.Sample{Signal: 1, Seq: 9, Value: -2, Bad: true}
	want := laid(1, 9, 1, -2)
	first, second := sample.Bytes(s), sample.Bytes(s)
	clear(first[:cap(first)])
	if !bytes.Equal(second, want) {
		t.Errorf("two answers share: %x", second)
	}
	wantBytes(t, s, want)
}

func TestNothingIsSharedByRead(t *testing.T) {
	room := append(laid(1, 9, 0, 258), 1, 2, 3) // there is room behind what is handed in
	was := bytes.Clone(room)
	signals := []api.Signal{{Min: 0, Max: 9}, {Min: 0, Max: 300}, {Min: 5, Max: 6}}
	wereSignals := slices.Clone(signals)
	want := api.Sample{Signal: 1, Seq: 9, Value: 258}
	s, e := sample.Read(room[:size], signals[:2])
	for _, n := range []int{0, 3, 6, 8} { // refused ones, too
		sample.Read(room[:n], signals[:1])
	}
	sample.Read(room[:size], signals[:1])
	if !bytes.Equal(room, was) || !slices.Equal(signals, wereSignals) {
		t.Errorf("Read writes into what it was handed: %x, %v", room, signals)
	}
	clear(room)
	clear(signals)
	if s != want || e != api.OK {
		t.Errorf("what was read has changed: %v, %v", s, e)
	}
	wantRead(t, was[:size], wereSignals, want)
}
