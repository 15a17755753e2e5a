package word_test

import (
	"bytes"
	"math"
	"math/rand"
	"testing"

	"handbell/api"
	"handbell/word"
)

const (
	most  = 1<<31 - 1
	least = -1 << 31
)

func wantBytes(t *testing.T, w *word.Writer, want string) {
	t.Helper()
	if got := w.Bytes(); string(got) != want {
		t.Errorf("Bytes: %x, want %x", got, want)
	}
}

func wantLeft(t *testing.T, r *word.Reader, want int) {
	t.Helper()
	if got := r.Left(); got != want {
		t.Errorf("Left: %d, want %d", got, want)
	}
}

func wantFault(t *testing.T, r *word.Reader, at int, e api.Errno) {
	t.Helper()
	if gotAt, got := r.Fault(); gotAt != at || got != e {
		t.Errorf("Fault: %d, %v, want %d, %v", gotAt, got, at, e)
	}
}

func wantEnd(t *testing.T, r *word.Reader, at int, e api.Errno) {
	t.Helper()
	if gotAt, got := r.End(); gotAt != at || got != e {
		t.Errorf("End: %d, %v, want %d, %v", gotAt, got, at, e)
	}
}

func wantByte(t *testing.T, r *word.Reader, want byte) {
	t.Helper()
	if got := r.Byte(); got != want {
		t.Errorf("Byte: %d, want %d", got, want)
	}
}

func wantFlag(t *testing.T, r *word.Reader, want bool) {
	t.Helper()
	if got := r.Flag(); got != want {
		t.Errorf("Flag: %t, want %t", got, want)
	}
}

func wantInt(t *testing.T, r *word.Reader, want int) {
	t.Helper()
	if got := r.Int(); got != want {
		t.Errorf("Int: %d, want %d", got, want)
	}
}

// wantFaulty: that is the first fault, and from it on nothing is read and nothing is left.
func wantFaulty(t *testing.T, r *word.Reader, at int, e api.Errno) {
	t.Helper()
	for range 3 {
		wantLeft(t, r, 0)
		wantFault(t, r, at, e)
		wantEnd(t, r, at, e)
		wantByte(t, r, 0)
		wantFlag(t, r, false)
		wantInt(t, r, 0)
	}
}

func TestExample(t *testing.T) {
	w := &word.Writer{}
	wantBytes(t, w.Byte(7).Int(-2), "\x07\xff\xff\xff\xfe")
	r := word.NewReader(w.Bytes())
	wantByte(t, r, 7)
	wantInt(t, r, -2)
	wantEnd(t, r, 0, api.OK)
}

func TestZeroWriter(t *testing.T) {
	var w word.Writer
	wantBytes(t, &w, "")
	wantBytes(t, &w, "")
	w.Byte(0)
	wantBytes(t, &w, "\x00")
	wantBytes(t, new(word.Writer), "") // a writer's bytes are its own
}

func TestWriterAnswersItself(t *testing.T) {
	w := &word.Writer{}
	if w.Byte(1) != w || w.Flag(true) != w || w.Flag(false) != w || w.Int(2) != w {
		t.Error("a writer answers itself")
	}
	wantBytes(t, w, "\x01\x01\x00\x00\x00\x00\x02")
}

func TestWriter(t *testing.T) {
	w := &word.Writer{}
	wantBytes(t, w.Byte(0xab), "\xab")
	wantBytes(t, w.Flag(true), "\xab\x01")
	wantBytes(t, w.Flag(false), "\xab\x01\x00")
	wantBytes(t, w.Int(0x12345678), "\xab\x01\x00\x12\x34\x56\x78") // and what is told stays
	wantBytes(t, w, "\xab\x01\x00\x12\x34\x56\x78")
	wantBytes(t, w.Byte(255).Byte(0), "\xab\x01\x00\x12\x34\x56\x78\xff\x00")
}

func TestEveryByte(t *testing.T) {
	w := &word.Writer{}
	var want []byte
	for b := range 256 {
		w.Byte(byte(b))
		want = append(want, byte(b))
	}
	wantBytes(t, w, string(want))
	r := word.NewReader(want)
	for b := range 256 {
		wantLeft(t, r, 256-b)
		wantByte(t, r, byte(b))
	}
	wantLeft(t, r, 0)
	wantEnd(t, r, 0, api.OK)
}

// Of numbers beyond 32 bits the lowest 32 are laid, and what they say is read.
func TestInts(t *testing.T) {
	for _, c := range []struct {
		n    int
		laid string
		read int
	}{
		{0, "\x00\x00\x00\x00", 0},
		{1, "\x00\x00\x00\x01", 1},
		{-1, "\xff\xff\xff\xff", -1},
		{255, "\x00\x00\x00\xff", 255},
		{256, "\x00\x00\x01\x00", 256},
		{-256, "\xff\xff\xff\x00", -256},
		{-257, "\xff\xff\xfe\xff", -257},
		{0x01020304, "\x01\x02\x03\x04", 0x01020304},
		{-0x01020304, "\xfe\xfd\xfc\xfc", -0x01020304},
		{most - 1, "\x7f\xff\xff\xfe", most - 1},
		{most, "\x7f\xff\xff\xff", most},
		{least, "\x80\x00\x00\x00", least},
		{least + 1, "\x80\x00\x00\x01", least + 1},
		{most + 1, "\x80\x00\x00\x00", least},
		{least - 1, "\x7f\xff\xff\xff", most},
		{1<<32 - 1, "\xff\xff\xff\xff", -1},
		{1 << 32, "\x00\x00\x00\x00", 0},
		{1<<32 + 7, "\x00\x00\x00\x07", 7},
		{-1 << 32, "\x00\x00\x00\x00", 0},
		{-1<<32 - 1, "\xff\xff\xff\xff", -1},
		{0x123456789abcdef0, "\x9a\xbc\xde\xf0", 0x9abcdef0 - 1<<32},
		{api.MaxTick, "\x00\x00\x00\x00", 0},
		{math.MaxInt, "\xff\xff\xff\xff", -1},
		{math.MinInt, "\x00\x00\x00\x00", 0},
	} {
		w := new(word.Writer).Int(c.n)
		wantBytes(t, w, c.laid)
		r := word.NewReader([]byte(c.laid))
		wantInt(t, r, c.read)
		wantLeft(t, r, 0)
		wantEnd(t, r, 0, api.OK)
	}
}

func TestReader(t *testing.T) {
	r := word.NewReader([]byte("\x07\x01\x00\x00\x00\x01\x02\xff\xff\xff\xfe\x80"))
	wantLeft(t, r, 12)
	wantByte(t, r, 7)
	wantLeft(t, r, 11)
	wantFlag(t, r, true)
	wantLeft(t, r, 10)
	wantFlag(t, r, false)
	wantLeft(t, r, 9)
	wantInt(t, r, 258)
	wantLeft(t, r, 5)
	wantInt(t, r, -2)
	wantLeft(t, r, 1)
	wantFault(t, r, 0, api.OK)
	wantByte(t, r, 128)
	wantLeft(t, r, 0)
	wantFault(t, r, 0, api.OK)
	wantEnd(t, r, 0, api.OK)
}

func TestReaderOfNothing(t *testing.T) {
	for _, p := range [][]byte{nil, {}} {
		r := word.NewReader(p)
		if r == nil {
			t.Fatal("a reader of nothing is one")
		}
		wantLeft(t, r, 0)
		wantFault(t, r, 0, api.OK)
		wantEnd(t, r, 0, api.OK)
		wantByte(t, r, 0)
		wantFaulty(t, r, 0, api.ErrShort)
	}
}

// kinds are the three things that are read, and how many bytes each has.
var kinds = []struct {
	name string
	size int
	read func(r *word.Reader) bool // is the answer the zero value?
}{
	{"Byte", 1, func(r *word.Reader) bool { return r.Byte() == 0 }},
	{"Flag", 1, func(r *word.Reader) bool { return !r.Flag() }},
	{"Int", 4, func(r *word.Reader) bool { return r.Int() == 0 }},
}

// The place of what is short is that of its first byte, not that of the end.
func TestShort(t *testing.T) {
	for _, kind := range kinds {
		for ahead := range 6 {
			for there := range kind.size + 1 {
				r := word.NewReader(bytes.Repeat([]byte{1}, ahead+there))
				for range ahead {
					wantByte(t, r, 1)
				}
				wantLeft(t, r, there)
				zero := kind.read(r)
				if there == kind.size {
					if zero {
						t.Errorf("%s behind %d: it was there", kind.name, ahead)
					}
					wantLeft(t, r, 0)
					wantEnd(t, r, 0, api.OK)
					continue
				}
				if !zero {
					t.Errorf("%s behind %d, %d there: not zero", kind.name, ahead, there)
				}
				wantFaulty(t, r, ahead, api.ErrShort)
			}
		}
	}
}

func TestFlags(t *testing.T) {
	for b := range 256 {
		r := word.NewReader([]byte{9, 9, 9, byte(b), 1, 1})
		for range 3 {
			wantByte(t, r, 9)
		}
		wantFlag(t, r, b == 1)
		if b > 1 {
			wantFaulty(t, r, 3, api.ErrForm)
			continue
		}
		wantLeft(t, r, 2)
		wantFault(t, r, 0, api.OK)
		wantFlag(t, r, true)
		wantEnd(t, r, 5, api.ErrForm)
	}
}

func TestFlagAtTheFirstPlace(t *testing.T) {
	r := word.NewReader([]byte{2, 1, 1})
	wantFlag(t, r, false)
	wantFaulty(t, r, 0, api.ErrForm) // the place is 0, and yet it is a fault
}

// What could be read behind the first fault isn't, and a second one isn't told.
func TestTheFirstFaultStays(t *testing.T) {
	r := word.NewReader([]byte{1, 2, 3, 4})
	wantByte(t, r, 1)
	wantInt(t, r, 0) // three bytes are left, but that isn't enough
	wantFault(t, r, 1, api.ErrShort)
	wantFlag(t, r, false) // 2 is no flag
	wantFault(t, r, 1, api.ErrShort)
	wantByte(t, r, 0)
	wantFaulty(t, r, 1, api.ErrShort)

	r = word.NewReader([]byte{1, 5, 7, 7, 7, 7, 1})
	wantFlag(t, r, true)
	wantFlag(t, r, false)
	wantFault(t, r, 1, api.ErrForm)
	wantByte(t, r, 0)
	wantInt(t, r, 0)
	wantFaulty(t, r, 1, api.ErrForm)
}

// That bytes are left is told by End alone: it is no fault, and reading goes on.
func TestEndWithBytesLeft(t *testing.T) {
	r := word.NewReader([]byte{1, 0, 0, 0, 5, 6})
	for range 2 {
		wantEnd(t, r, 0, api.ErrForm)
		wantFault(t, r, 0, api.OK)
		wantLeft(t, r, 6)
	}
	wantFlag(t, r, true)
	wantEnd(t, r, 1, api.ErrForm)
	wantInt(t, r, 5)
	wantEnd(t, r, 5, api.ErrForm)
	wantFault(t, r, 0, api.OK)
	wantByte(t, r, 6)
	wantEnd(t, r, 0, api.OK)
	wantByte(t, r, 0)
	wantFaulty(t, r, 6, api.ErrShort)
}

func TestNil(t *testing.T) {
	var w *word.Writer
	if w.Byte(1) != nil || w.Flag(true) != nil || w.Flag(false) != nil || w.Int(1) != nil {
		t.Error("a nil writer answers nil")
	}
	wantBytes(t, w.Byte(1).Int(2).Flag(true), "")
	var r *word.Reader
	wantFaulty(t, r, 0, api.ErrNone)
}

// A reader that wasn't made, though it isn't nil, must not panic either.
func TestZeroReader(t *testing.T) {
	r := &word.Reader{}
	wantLeft(t, r, 0)
	wantEnd(t, r, 0, api.OK)
	wantInt(t, r, 0)
	wantFaulty(t, r, 0, api.ErrShort)
}

func TestNothingIsSharedByAReader(t *testing.T) {
	room := []byte{1, 1, 0, 0, 0, 9, 8, 7}
	r := word.NewReader(room[:6])
	again := word.NewReader(room[:6])
	clear(room)
	wantByte(t, r, 1)
	room[1] = 5
	wantFlag(t, r, true)
	wantInt(t, r, 9)
	wantEnd(t, r, 0, api.OK) // what is behind p's end is none of it
	wantLeft(t, again, 6)    // two readers of the same bytes read each for itself
	wantByte(t, again, 1)

	kept := []byte{3, 1, 0, 0, 0, 9, 2}
	r = word.NewReader(kept)
	r.Byte()
	r.Flag()
	r.Int()
	r.Flag()
	r.End()
	if string(kept) != "\x03\x01\x00\x00\x00\x09\x02" {
		t.Error("a reader writes into what it was handed:", kept)
	}
}

func TestNothingIsSharedByAWriter(t *testing.T) {
	w := new(word.Writer).Byte(1).Byte(2).Byte(3)
	first, second := w.Bytes(), w.Bytes()
	first[0] = 99
	wantBytes(t, w, "\x01\x02\x03")
	if string(second) != "\x01\x02\x03" {
		t.Error("two answers share:", second)
	}
	first = append(first, 98, 97) // there may be room behind an answer, but it isn't the writer's
	w.Byte(4).Int(5)
	wantBytes(t, w, "\x01\x02\x03\x04\x00\x00\x00\x05")
	if string(first) != "\x63\x02\x03\x62\x61" || string(second) != "\x01\x02\x03" {
		t.Error("an answer changes behind the call:", first, second)
	}
	other := new(word.Writer).Byte(7)
	w.Byte(6)
	wantBytes(t, other, "\x07")
}

// item is one thing that is laid: what it is, and its bytes as they must be.
type item struct {
	kind int
	n    int
	laid []byte
}

// drawItem is one of any kind, its bytes made by division, not by shifts.
func drawItem(draw *rand.Rand) item {
	switch kind := draw.Intn(3); kind {
	case 0:
		n := draw.Intn(256)
		return item{kind, n, []byte{byte(n)}}
	case 1:
		n := draw.Intn(2)
		return item{kind, n, []byte{byte(n)}}
	default:
		n := draw.Intn(1<<32) - 1<<31
		if draw.Intn(2) == 0 {
			n = draw.Intn(601) - 300
		}
		positive := (n + 1<<32) % (1 << 32)
		laid := make([]byte, 4)
		for i := 3; i >= 0; i-- {
			laid[i] = byte(positive % 256)
			positive /= 256
		}
		return item{kind, n, laid}
	}
}

func TestThereAndBack(t *testing.T) {
	draw := rand.New(rand.NewSource(7))
	for range 300 {
		w := &word.Writer{}
		var items []item
		var want []byte
		for range draw.Intn(60) {
			x := drawItem(draw)
			items = append(items, x)
			want = append(want, x.laid...)
			switch x.kind {
			case 0:
				w.Byte(byte(x.n))
			case 1:
				w.Flag(x.n == 1)
			default:
				w.Int(x.n)
			}
		}
		wantBytes(t, w, string(want))
		r := word.NewReader(want)
		left := len(want)
		for _, x := range items {
			wantLeft(t, r, left)
			switch x.kind {
			case 0:
				wantByte(t, r, byte(x.n))
			case 1:
				wantFlag(t, r, x.n == 1)
			default:
				wantInt(t, r, x.n)
			}
			left -= len(x.laid)
		}
		wantEnd(t, r, 0, api.OK)
	}
}

// model is a reader that has all bytes, and the first fault if there is one.
type model struct {
	p     []byte
	at    int
	place int
	fault api.Errno
}

func (m *model) fail(e api.Errno) int {
	if m.fault == api.OK {
		m.place, m.fault = m.at, e
	}
	return 0
}

// read is a number of that many bytes, up to the limit.
func (m *model) read(size, limit int) int {
	if m.fault != api.OK || m.at+size > len(m.p) {
		return m.fail(api.ErrShort)
	}
	n := 0
	for i := range size {
		n = n*256 + int(m.p[m.at+i])
	}
	if n > limit {
		return m.fail(api.ErrForm)
	}
	m.at += size
	return n
}

func (m *model) left() int {
	if m.fault != api.OK {
		return 0
	}
	return len(m.p) - m.at
}

func TestAgainstModel(t *testing.T) {
	draw := rand.New(rand.NewSource(8))
	for range 3000 {
		p := make([]byte, draw.Intn(20))
		for i := range p {
			p[i] = byte(draw.Intn(2))
			if draw.Intn(6) == 0 {
				p[i] = byte(draw.Intn(256))
			}
		}
		r, m := word.NewReader(p), &model{p: p}
		for range 12 {
			switch draw.Intn(3) {
			case 0:
				wantByte(t, r, byte(m.read(1, 255)))
			case 1:
				wantFlag(t, r, m.read(1, 1) == 1)
			default:
				n := m.read(4, 1<<32)
				if n > most {
					n -= 1 << 32
				}
				wantInt(t, r, n)
			}
			wantLeft(t, r, m.left())
			wantFault(t, r, m.place, m.fault)
			if m.left() > 0 {
				wantEnd(t, r, m.at, api.ErrForm)
			} else {
				wantEnd(t, r, m.place, m.fault)
			}
		}
		if t.Failed() {
			t.Fatalf("of %x", p)
		}
	}
}

func TestMany(t *testing.T) {
	const many = 200000
	w := &word.Writer{}
	for n := range many {
		w.Int(n)
	}
	r := word.NewReader(w.Bytes())
	wantLeft(t, r, 4*many)
	for n := range many {
		if got := r.Int(); got != n {
			t.Fatalf("Int: %d, want %d", got, n)
		}
	}
	wantInt(t, r, 0)
	wantFaulty(t, r, 4*many, api.ErrShort)
}
