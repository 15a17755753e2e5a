package sum_test

import (
	"bytes"
	"math/rand"
	"strings"
	"testing"

	"handbell/api"
	"handbell/sum"
)

// Sums that others have told of these, with this register.
func TestOf(t *testing.T) {
	for _, c := range []struct {
		p    string
		want uint16
	}{
		{"", 0xffff},
		{"123456789", 0x29b1},
		{"A", 0xb915},
		{strings.Repeat("A", 256), 0xea0b},
		{"\x00", 0xe1f0},
		{"\xff", 0xff00},
		{"\x00\x00", 0x1d0f},
		{"\xff\xff", 0x0000},
	} {
		if got := sum.Of([]byte(c.p)); got != c.want {
			t.Errorf("Of(%.20q): %04x, want %04x", c.p, got, c.want)
		}
	}
	if got := sum.Of(nil); got != 0xffff {
		t.Errorf("Of(nil): %04x", got)
	}
}

// ofBits is the register as sixteen truths, the highest first.
func ofBits(p []byte) uint16 {
	var register [16]bool
	for i := range register {
		register[i] = true
	}
	for _, b := range p {
		for mask := 128; mask > 0; mask /= 2 {
			taken := register[0] != (int(b)&mask != 0)
			copy(register[:], register[1:])
			register[15] = false
			for _, i := range []int{3, 10, 15} { // 1021 (base 16): the places of 1000, 20, and 1
				register[i] = register[i] != taken
			}
		}
	}
	n := 0
	for _, bit := range register {
		n *= 2
		if bit {
			n++
		}
	}
	return uint16(n)
}

func TestOfAgainstBits(t *testing.T) {
	for b := range 256 {
		for _, p := range [][]byte{{byte(b)}, {byte(b), 0}, {0, byte(b)}, {byte(b), byte(b), 1}} {
			if got, want := sum.Of(p), ofBits(p); got != want {
				t.Errorf("Of(%x): %04x, want %04x", p, got, want)
			}
		}
	}
	draw := rand.New(rand.NewSource(5))
	for _, n := range []int{2, 3, 7, 15, 16, 17, 32, 33, 255, 256, 257, 1000, 65536, 100001} {
		p := make([]byte, n)
		draw.Read(p)
		if got, want := sum.Of(p), ofBits(p); got != want {
			t.Errorf("Of %d bytes: %04x, want %04x", n, got, want)
		}
	}
}

func TestClose(t *testing.T) {
	for _, c := range []struct{ p, want string }{
		{"", "\xff\xff"},
		{"A", "A\xb9\x15"},
		{"123456789", "123456789\x29\xb1"},
		{"\xff\xff", "\xff\xff\x00\x00"},
	} {
		if got := sum.Close([]byte(c.p)); string(got) != c.want {
			t.Errorf("Close(%q): %x, want %x", c.p, got, c.want)
		}
	}
	if got := sum.Close(nil); string(got) != "\xff\xff" {
		t.Errorf("Close(nil): %x", got)
	}
}

func TestOpen(t *testing.T) {
	for _, c := range []struct {
		p, want string
		e       api.Errno
	}{
		{"", "", api.ErrShort},
		{"\xff", "", api.ErrShort},
		{"\xff\xff", "", api.OK},
		{"A\xb9\x15", "A", api.OK},
		{"A\x15\xb9", "", api.ErrSum}, // the lower byte first
		{"123456789\x29\xb1", "123456789", api.OK},
		{"\xff\xff\x00\x00", "\xff\xff", api.OK},
		{"\x00\x00", "", api.ErrSum},
		{"\xff\xfe", "", api.ErrSum},
		{"\xfe\xff", "", api.ErrSum},
		{"A\xb9", "", api.ErrSum},
		{"B\xb9\x15", "", api.ErrSum},
		{"123456789", "", api.ErrSum},
		{"123456789\x29\xb1\x01", "", api.ErrSum},
		{"123456789\x29\xb1\x00", "123456789\x29", api.OK}, // a 0 behind a right sum isn't seen: these are the Of of the others, too
		{"\x29\xb1123456789", "", api.ErrSum},              // the sum ahead
		{"132456789\x29\xb1", "", api.ErrSum},              // two that changed places
	} {
		if got, e := sum.Open([]byte(c.p)); string(got) != c.want || e != c.e {
			t.Errorf("Open(%q): %q, %v, want %q, %v", c.p, got, e, c.want, c.e)
		}
	}
	if got, e := sum.Open(nil); got != nil || e != api.ErrShort {
		t.Error("Open(nil):", got, e)
	}
}

func TestThereAndBack(t *testing.T) {
	draw := rand.New(rand.NewSource(6))
	for _, n := range []int{0, 1, 2, 3, 31, 32, 33, 255, 256, 4096, 100000} {
		p := make([]byte, n)
		draw.Read(p)
		closed := sum.Close(p)
		if len(closed) != n+2 || !bytes.Equal(closed[:n], p) || sum.Of(p) != uint16(closed[n])<<8|uint16(closed[n+1]) {
			t.Errorf("Close of %d bytes", n)
		}
		if got, e := sum.Open(closed); !bytes.Equal(got, p) || e != api.OK {
			t.Errorf("Open of %d bytes: %v", n, e)
		}
	}
}

// wantTurned: what was turned is shown.
func wantTurned(t *testing.T, p []byte) {
	t.Helper()
	if got, e := sum.Open(p); len(got) != 0 || e != api.ErrSum {
		t.Fatalf("Open(%x): %x, %v", p, got, e)
	}
}

func TestTurned(t *testing.T) {
	for n := range 34 {
		p := make([]byte, n)
		for i := range p {
			p[i] = byte(7*i + n)
		}
		closed := sum.Close(p)
		for i := range closed { // one byte, in any way
			for turned := 1; turned < 256; turned++ {
				spoilt := bytes.Clone(closed)
				spoilt[i] ^= byte(turned)
				wantTurned(t, spoilt)
			}
		}
		for i := range 8 * len(closed) { // any two bits
			for j := range i {
				spoilt := bytes.Clone(closed)
				spoilt[i/8] ^= 1 << (i % 8)
				spoilt[j/8] ^= 1 << (j % 8)
				wantTurned(t, spoilt)
			}
		}
	}
}

func TestNothingIsShared(t *testing.T) {
	room := []byte("abcdefgh") // there is room behind what is handed in
	closed := sum.Close(room[:3])
	if string(room) != "abcdefgh" {
		t.Fatal("Close writes into what it was handed:", room)
	}
	closed[0] = 'x'
	if string(room) != "abcdefgh" {
		t.Error("Close's answer shares with what it was handed")
	}
	sum.Of(room)
	if string(room) != "abcdefgh" {
		t.Error("Of writes into what it was handed:", room)
	}
	whole := sum.Close(room)
	opened, _ := sum.Open(whole)
	opened[0] = 'x'
	opened = append(opened, 1, 2)
	if again, e := sum.Open(whole); string(again) != "abcdefgh" || e != api.OK {
		t.Error("Open's answer shares with what it was handed:", opened, again, e)
	}
}
