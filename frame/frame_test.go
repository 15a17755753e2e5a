package frame_test

import (
	"bytes"
	"math/rand"
	"slices"
	"strings"
	"testing"

	"handbell/api"
	"handbell/frame"
	"handbell/sum"
)

// around is how many bytes a frame has beside its payload.
const around = 5

// framed is a frame as the chapter tells it: Frame itself is held against it.
func framed(p string) string {
	counted := string([]byte{byte(len(p))}) + p
	n := sum.Of([]byte(counted))
	return "\x55\xaa" + counted + string([]byte{byte(n >> 8), byte(n)})
}

// spoilt is a frame with another sum.
func spoilt(p string) string {
	f := []byte(framed(p))
	f[len(f)-1] ^= 0x10
	return string(f)
}

// rising is n bytes, none of which is 55 or aa (base 16).
func rising(n int) string {
	p := make([]byte, n)
	for i := range p {
		p[i] = byte(i + 1)
	}
	return string(p)
}

// texts are what was told, so that it may be held against texts.
func texts(told [][]byte) []string {
	var l []string
	for _, p := range told {
		l = append(l, string(p))
	}
	return l
}

func wantCounts(t *testing.T, s *frame.Scanner, lost, held int) {
	t.Helper()
	if s.Lost() != lost || s.Held() != held {
		t.Errorf("Lost %d, Held %d, want %d, %d", s.Lost(), s.Held(), lost, held)
	}
}

// wantFed: of these bytes that is told, and then so many are lost, and wait.
func wantFed(t *testing.T, s *frame.Scanner, p string, lost, held int, told ...string) {
	t.Helper()
	if got := texts(s.Feed([]byte(p))); !slices.Equal(got, told) {
		t.Errorf("Feed(%x): %q, want %q", p, got, told)
	}
	wantCounts(t, s, lost, held)
}

func TestExample(t *testing.T) {
	f := frame.Frame([]byte("hello"))
	s := frame.New()
	for i := range len(f) - 1 {
		wantFed(t, s, string(f[i:i+1]), 0, i+1)
	}
	wantFed(t, s, string(f[len(f)-1:]), 0, 0, "hello")
}

// Sums that others have told of these, with layer 4's register.
func TestFrame(t *testing.T) {
	var all string
	for i := range api.MaxPay {
		all += string([]byte{byte(i)})
	}
	for _, c := range []struct{ p, want string }{
		{"A", "\x55\xaa\x01A\x76\xdb"},
		{"\x00", "\x55\xaa\x01\x00\x2e\x3e"},
		{"\xff", "\x55\xaa\x01\xff\x30\xce"},
		{"\x55\xaa", "\x55\xaa\x02\x55\xaa\x47\x16"},
		{"\x00\x05\x00\x00\x00\x00\x78", "\x55\xaa\x07\x00\x05\x00\x00\x00\x00\x78\x4a\xb8"},
		{all, "\x55\xaa\x20" + all + "\xd8\x51"},
	} {
		if got := frame.Frame([]byte(c.p)); string(got) != c.want {
			t.Errorf("Frame(%x): %x, want %x", c.p, got, c.want)
		}
		wantFed(t, frame.New(), c.want, 0, 0, c.p)
	}
}

func TestEveryLength(t *testing.T) {
	one := frame.New()
	for n := 1; n <= api.MaxPay; n++ {
		for _, p := range []string{
			rising(n), strings.Repeat("\x00", n), strings.Repeat("\xff", n), strings.Repeat("\x55", n),
			strings.Repeat("\xaa", n), strings.Repeat("\x55\xaa", n)[:n], strings.Repeat("\x55\xaa\x01", n)[:n],
		} {
			f := frame.Frame([]byte(p))
			if string(f) != framed(p) || len(f) != n+around {
				t.Errorf("Frame(%x): %x, want %x", p, f, framed(p))
			}
			wantFed(t, frame.New(), string(f), 0, 0, p)
			wantFed(t, one, string(f), 0, 0, p)
		}
	}
}

// Of other lengths nothing is promised, but that the call ends.
func TestFrameOfOtherLengths(t *testing.T) {
	frame.Frame(nil)
	for _, n := range []int{0, api.MaxPay + 1, 255, 256, 257, 65536} {
		frame.Frame(make([]byte, n))
	}
}

func TestOneBehindTheOther(t *testing.T) {
	var all string
	var told []string
	for n := 1; n <= api.MaxPay; n++ {
		told = append(told, rising(n), rising(api.MaxPay+1-n))
		all += framed(rising(n)) + framed(rising(api.MaxPay+1-n))
	}
	wantFed(t, frame.New(), all, 0, 0, told...)
	s := frame.New()
	wantFed(t, s, "xyz"+all+"\xaa\x01", 5, 0, told...) // what was lost ahead and behind
	wantFed(t, s, all+all, 5, 0, append(slices.Clone(told), told...)...)
}

func TestOtherBytesBetween(t *testing.T) {
	for _, between := range []string{
		"x", "\x00", "\xaa", "\xaa\x55x", "\x55x", "\x55\x55x", "\x55\xaax", "\x55\xaa\x00", "\x55\xaa\x21", "\x55\xaa\xff", "\x55\xaa\x55\xaa\x00",
		"some more bytes", spoilt("A"), spoilt(rising(api.MaxPay)), strings.Repeat("\x00", 100), strings.Repeat("\x55\xaa\x00", 100),
	} {
		n := len(between)
		all := framed("A") + between + framed("BC") + framed("D") + between + between + framed(rising(32)) + between
		wantFed(t, frame.New(), all, 4*n, 0, "A", "BC", "D", rising(32))
		wantFed(t, frame.New(), between+all, 5*n, 0, "A", "BC", "D", rising(32))
	}
}

func TestFirstByte(t *testing.T) {
	for b := range 256 {
		s := frame.New()
		if b == 0x55 {
			wantFed(t, s, "\x55", 0, 1)
			wantFed(t, s, framed("A"), 1, 0, "A")
			continue
		}
		wantFed(t, s, string([]byte{byte(b)}), 1, 0)
		wantFed(t, s, framed("A"), 1, 0, "A")
		wantFed(t, s, string([]byte{byte(b)})+framed("A")[1:], 7, 0) // a frame, but for its first byte
	}
}

func TestSecondByte(t *testing.T) {
	for b := range 256 {
		s, p := frame.New(), string([]byte{0x55, byte(b)})
		switch b {
		case 0xaa:
			wantFed(t, s, p, 0, 2)
			wantFed(t, s, framed("A")[2:], 0, 0, "A")
		case 0x55:
			wantFed(t, s, p, 1, 1)
			wantFed(t, s, framed("A"), 2, 0, "A")
		default:
			wantFed(t, s, p, 2, 0)
			wantFed(t, s, framed("A")[2:], 6, 0)
			wantFed(t, s, framed("A"), 6, 0, "A")
		}
	}
}

func TestThirdByte(t *testing.T) {
	for b := range 256 {
		s, p := frame.New(), string([]byte{0x55, 0xaa, byte(b)})
		switch {
		case 1 <= b && b <= api.MaxPay:
			wantFed(t, s, p, 0, 3)
			wantFed(t, s, framed(rising(b))[3:], 0, 0, rising(b))
		case b == 0x55:
			wantFed(t, s, p, 2, 1)
			wantFed(t, s, framed("A"), 3, 0, "A")
		default:
			wantFed(t, s, p, 3, 0)
			wantFed(t, s, "A", 4, 0)
			wantFed(t, s, framed("A"), 4, 0, "A")
		}
	}
}

// A frame of no bytes, and one of more than MaxPay, are none, though their sums are right.
func TestTooShortAndTooLong(t *testing.T) {
	for _, n := range []int{0, api.MaxPay + 1, api.MaxPay + 2, 200, 255} {
		f := framed(strings.Repeat("x", n))
		wantFed(t, frame.New(), f+framed("A"), len(f), 0, "A")
	}
}

// A frame waits till its last byte is there, the longest one, too.
func TestHeld(t *testing.T) {
	for _, p := range []string{"A", rising(31), rising(32), strings.Repeat("\x55\xaa\x01", 11)[:32]} {
		s, f := frame.New(), framed(p)
		for i := range len(f) - 1 {
			wantFed(t, s, f[i:i+1], 0, i+1)
			wantFed(t, s, "", 0, i+1)
		}
		wantFed(t, s, f[len(f)-1:], 0, 0, p)
	}
}

// That a first byte of the sum is another one decides nothing, for not all bytes are there.
func TestWrongSumWaitsForItsEnd(t *testing.T) {
	for _, p := range []string{"A", rising(32)} {
		f := []byte(framed(p))
		f[len(f)-2] ^= 1
		s := frame.New()
		wantFed(t, s, string(f[:len(f)-1]), 0, len(f)-1)
		wantFed(t, s, string(f[len(f)-1:]), len(f), 0)
	}
}

// Any bit of a frame turned: it isn't told, and what stands behind it is.
func TestTurned(t *testing.T) {
	for n := 1; n <= api.MaxPay; n++ {
		f := framed(rising(n))
		for bit := range 8 * len(f) {
			turned := []byte(f)
			turned[bit/8] ^= 1 << (bit % 8)
			all := string(turned) + framed("good") + strings.Repeat("x", api.MaxPay+around)
			s := frame.New()
			wantFed(t, s, all, len(all)-len("good")-around, 0, "good")
			if t.Failed() {
				t.Fatalf("bit %d of %x", bit, f)
			}
		}
	}
}

// What stands in a right frame is its own: the next place is behind it.
func TestFrameInARightOne(t *testing.T) {
	inner := framed("A") + framed("B")
	wantFed(t, frame.New(), framed(inner)+framed("C"), 0, 0, inner, "C")
	half := "x" + framed("ABC")[:4] // what begins in it doesn't go on behind it
	wantFed(t, frame.New(), framed(half)+framed("ABC")[4:]+framed("D"), 4, 0, half, "D")
	wantFed(t, frame.New(), framed("\x55")+"\xaa\x01A\x76\xdb", 5, 0, "\x55")
}

// What stands in a spoilt frame is told, once that one is lost.
func TestFrameInASpoiltOne(t *testing.T) {
	inner := framed("A") + "x" + framed("B")
	s := frame.New()
	wantFed(t, s, spoilt(inner)[:len(inner)+4], 0, len(inner)+4)
	wantFed(t, s, spoilt(inner)[len(inner)+4:], 6, 0, "A", "B")
	for n := 1; n <= 26; n++ { // at any place of it
		for at := range n + 1 {
			p := rising(n)[:at] + framed("A") + rising(n)[at:]
			wantFed(t, frame.New(), spoilt(p)+framed("B"), len(p)-1, 0, "A", "B")
		}
	}
}

// What begins in a spoilt frame, and goes on behind it.
func TestFrameBeginsInASpoiltOne(t *testing.T) {
	long := framed("ABCDEFGH")
	s := frame.New()
	wantFed(t, s, "\x55\xaa\x05"+long[:6], 0, 9)
	wantFed(t, s, long[6:7], 3, 7) // the ten bytes of a frame of five are there
	wantFed(t, s, long[7:12], 3, 12)
	wantFed(t, s, long[12:], 3, 0, "ABCDEFGH")

	s = frame.New() // in its sum
	wantFed(t, s, "\x55\xaa\x01A"+"\x55\xaa", 4, 2)
	wantFed(t, s, framed("B")[2:], 4, 0, "B")
	wantFed(t, s, "\x55\xaa\x01A"+"x\x55", 9, 1)
	wantFed(t, s, framed("B")[1:], 9, 0, "B")

	s = frame.New() // of several that begin one in the other, the last one alone is whole
	wantFed(t, s, "\x55\xaa\x20\x55\xaa\x10\x55\xaa\x08\x55\xaa\x04"+framed("A"), 0, 18)
	wantFed(t, s, rising(19), 24+7, 0, "A")
}

// Nothing behind what may still become a frame is told till that is decided.
func TestNothingIsToldTillDecided(t *testing.T) {
	s := frame.New()
	wantFed(t, s, "\x55\xaa\x20", 0, 3)
	wantFed(t, s, framed("A")+framed("B"), 0, 15)
	wantFed(t, s, framed("C"), 0, 21)
	wantFed(t, s, framed("D")+"\x55\xaa\x01", 0, 30)
	wantFed(t, s, "E\x00\x00"+"\x55\xaa\x02", 0, 36)
	wantFed(t, s, "F", 3+6, 4, "A", "B", "C", "D")
	wantFed(t, s, "G"+framed("FG")[5:], 9, 0, "FG")

	all := "\x55\xaa\x20" + strings.Repeat(framed("A"), 6) // 39 bytes
	s = frame.New()
	for i := range 36 {
		wantFed(t, s, all[i:i+1], 0, i+1)
	}
	wantFed(t, s, all[36:37], 3, 4, "A", "A", "A", "A", "A")
	wantFed(t, s, all[37:38], 3, 5)
	wantFed(t, s, all[38:39], 3, 0, "A")
}

func TestMarks(t *testing.T) {
	s := frame.New()
	wantFed(t, s, strings.Repeat("\x55", 1000), 999, 1)
	wantFed(t, s, "\xaa", 999, 2)
	wantFed(t, s, "\x01A\x76\xdb", 999, 0, "A")
	wantFed(t, s, strings.Repeat("\x55\xaa", 1000), 999+1998, 2) // each but the last one is followed by 55, and that's too many
	wantFed(t, s, "\x01A\x76\xdb", 2997, 0, "A")
	wantFed(t, s, strings.Repeat("\xaa", 1000), 3997, 0)
	wantFed(t, s, framed("A")+"\x55", 3997, 1, "A")
	wantFed(t, s, framed("A")+"\x55", 3998, 1, "A")
	wantFed(t, s, "\xaa", 3998, 2)
	wantFed(t, s, framed("A"), 4000, 0, "A")
}

func TestNothingFed(t *testing.T) {
	s := frame.New()
	if s == nil {
		t.Fatal("a new scanner is one")
	}
	wantCounts(t, s, 0, 0)
	for range 3 {
		if l := s.Feed(nil); len(l) != 0 {
			t.Error("Feed(nil):", l)
		}
		wantFed(t, s, "", 0, 0)
	}
	wantFed(t, s, "x\x55", 1, 1)
	if l := s.Feed(nil); len(l) != 0 {
		t.Error("Feed(nil):", l)
	}
	wantFed(t, s, "", 1, 1)
	wantFed(t, s, framed("A")[1:], 1, 0, "A")
	wantFed(t, s, "", 1, 0) // what was told isn't told again
}

func TestNil(t *testing.T) {
	var s *frame.Scanner
	for _, p := range []string{"", "x", "\x55", framed("A")} {
		wantFed(t, s, p, 0, 0)
	}
	if l := s.Feed(nil); len(l) != 0 {
		t.Error("Feed(nil):", l)
	}
}

// A scanner that wasn't made, though it isn't nil, must not panic either.
func TestZeroScanner(t *testing.T) {
	s := &frame.Scanner{}
	wantCounts(t, s, 0, 0)
	wantFed(t, s, "x"+framed("A")+"\x55", 1, 1, "A")
}

func TestScannersAreApart(t *testing.T) {
	a, b := frame.New(), frame.New()
	f := framed("ABC")
	for i := range len(f) {
		a.Feed([]byte(f[i : i+1]))
		b.Feed([]byte("x"))
	}
	wantCounts(t, a, 0, 0)
	wantCounts(t, b, len(f), 0)
	wantFed(t, a, f[:4], 0, 4)
	wantFed(t, b, f[4:], len(f)+4, 0)
}

func TestMany(t *testing.T) {
	const many = 50000
	all := strings.Repeat("x"+framed("ABCDEFG")+spoilt("H"), many)
	for _, size := range []int{len(all), 1000, 7, 1} {
		s, told := frame.New(), 0
		for piece := range slices.Chunk([]byte(all), size) {
			for _, p := range s.Feed(piece) {
				told++
				if string(p) != "ABCDEFG" {
					t.Fatalf("%q", p)
				}
			}
		}
		if told != many {
			t.Errorf("in pieces of %d: %d told", size, told)
		}
		wantCounts(t, s, 7*many, 0)
	}
}

// What is written over behind a call changes nothing that comes.
func TestNothingIsSharedWithWhatIsFed(t *testing.T) {
	room := []byte(framed("AB") + framed("CD") + framed("EF")) // there is room behind what is handed in
	was := string(room)
	s := frame.New()
	first := s.Feed(room[:10])
	second := s.Feed(room[10:16])
	if string(room) != was {
		t.Fatalf("Feed writes into what it was handed: %x", room)
	}
	clear(room)
	if !slices.Equal(texts(first), []string{"AB"}) || !slices.Equal(texts(second), []string{"CD"}) {
		t.Error("an answer shares with what was handed in:", first, second)
	}
	wantFed(t, s, framed("EF")[2:], 0, 0, "EF") // 55 aa waited

	for cut := range len(was) {
		s := frame.New()
		p := []byte(was[:cut])
		told := texts(s.Feed(p))
		for i := range p {
			p[i] = 0x55
		}
		told = append(told, texts(s.Feed([]byte(was[cut:])))...)
		if !slices.Equal(told, []string{"AB", "CD", "EF"}) {
			t.Errorf("cut at %d: %q", cut, told)
		}
	}
}

// Each frame of an answer, and the list, are the caller's.
func TestNothingIsSharedWithWhatIsAnswered(t *testing.T) {
	s := frame.New()
	s.Feed([]byte(framed("x")[:5]))
	l := s.Feed([]byte(framed("x")[5:] + framed("AB") + framed("CD") + framed("EF")[:6]))
	if !slices.Equal(texts(l), []string{"x", "AB", "CD"}) {
		t.Fatalf("%q", l)
	}
	for i := range l { // each with all the room that it has
		whole := l[i][:cap(l[i])]
		for k := range whole {
			whole[k] = 'z'
		}
		for k := range l {
			if want := []string{"x", "AB", "CD"}[k]; k > i && string(l[k]) != want {
				t.Errorf("behind writing over %d: %q", i, l)
			}
		}
	}
	list := l[:cap(l)]
	clear(list)
	wantFed(t, s, framed("EF")[6:]+framed("GH"), 0, 0, "EF", "GH")
}

func TestNothingIsSharedByFrame(t *testing.T) {
	room := []byte("abcdefgh")
	f, again := frame.Frame(room[:3]), frame.Frame(room[:3])
	if string(room) != "abcdefgh" {
		t.Fatalf("Frame writes into what it was handed: %q", room)
	}
	clear(f[:cap(f)])
	if string(room) != "abcdefgh" || string(again) != framed("abc") {
		t.Errorf("Frame's answer shares: %q, %x", room, again)
	}
	clear(room)
	if string(again) != framed("abc") {
		t.Errorf("Frame's answer shares with what it was handed: %x", again)
	}
	if got := frame.Frame([]byte("A")); string(got) != framed("A") {
		t.Errorf("behind all that: %x", got)
	}
}

// state is what a scanner has told of all that it was fed.
type state struct {
	told       []string
	lost, held int
}

// first is what stands at the first place: a frame's payload; else, may it still become one?
func first(p string) (string, bool) {
	if p[0] != 0x55 {
		return "", false
	}
	may := false
	for n := 1; n <= api.MaxPay; n++ {
		begin := "\x55\xaa" + string([]byte{byte(n)})
		if len(p) < n+around {
			there := min(len(p), len(begin))
			may = may || p[:there] == begin[:there]
		} else if p[:n+around] == framed(p[len(begin):len(begin)+n]) {
			return p[len(begin) : len(begin)+n], false
		}
	}
	return "", may
}

// model is what must be told of all these bytes, whichever pieces they came in.
func model(all string) state {
	var m state
	for all != "" {
		p, may := first(all)
		switch {
		case may:
			m.held = len(all)
			return m
		case p != "":
			m.told = append(m.told, p)
			all = all[len(p)+around:]
		default:
			m.lost++
			all = all[1:]
		}
	}
	return m
}

// models are what must be told of the first n bytes, for each n.
func models(all string) []state {
	var l []state
	for n := range len(all) + 1 {
		l = append(l, model(all[:n]))
	}
	return l
}

// wantPieces: behind each piece just that is told which the bytes so far decide.
func wantPieces(t *testing.T, all string, want []state, cuts ...int) {
	t.Helper()
	s, at := frame.New(), 0
	var told []string
	size := 0
	for _, cut := range append(slices.Clone(cuts), len(all)) {
		for _, p := range s.Feed([]byte(all[at:cut])) {
			told = append(told, string(p))
			size += len(p) + around
		}
		at = cut
		if m := want[at]; !slices.Equal(told, m.told) || s.Lost() != m.lost || s.Held() != m.held {
			t.Fatalf("of %x, cut at %v, behind %d bytes: %q, %d lost, %d held, want %q, %d, %d",
				all, cuts, at, told, s.Lost(), s.Held(), m.told, m.lost, m.held)
		}
		if size+s.Lost()+s.Held() != at {
			t.Fatalf("of %d bytes %d are told, %d lost, %d held", at, size, s.Lost(), s.Held())
		}
		if s.Held() >= api.MaxPay+around {
			t.Fatalf("%d wait: that would be a frame", s.Held())
		}
	}
}

// wantHoweverCut: whole, in every two pieces, one by one, and in pieces drawn at random, empty ones, too.
func wantHoweverCut(t *testing.T, draw *rand.Rand, all string) {
	t.Helper()
	want := models(all)
	wantPieces(t, all, want)
	var each []int
	for cut := range len(all) + 1 {
		wantPieces(t, all, want, cut)
		each = append(each, cut)
	}
	wantPieces(t, all, want, each...)
	for range 8 {
		cuts := make([]int, draw.Intn(12))
		for i := range cuts {
			cuts[i] = draw.Intn(len(all) + 1)
		}
		slices.Sort(cuts)
		wantPieces(t, all, want, cuts...)
	}
}

func TestCuts(t *testing.T) {
	draw := rand.New(rand.NewSource(15))
	for _, all := range []string{
		"", "x", "\x55", "\x55\xaa", "\x55\xaa\x20",
		framed("A"), framed(rising(32)), framed("A") + framed("B"), "xy" + framed("ABC") + "\x55\xaa" + framed("D") + "\x55",
		"\x55\xaa\x20" + strings.Repeat(framed("A"), 7),
		spoilt(framed("A")+framed("B")) + framed("C"),
		spoilt(rising(32)) + framed(rising(32)) + spoilt("A"),
		framed(framed("A")+framed("B")) + "\x55\xaa\x00" + framed("C"),
		"\x55\xaa\x05" + framed("ABCDEFGH") + "\x55\xaa\x01A" + framed("B"),
		strings.Repeat("\x55", 50) + strings.Repeat("\x55\xaa", 30) + strings.Repeat("\x55\xaa\x02", 20),
		"\x55\xaa\x20\x55\xaa\x10\x55\xaa\x08\x55\xaa\x04" + framed("A") + rising(40),
	} {
		wantHoweverCut(t, draw, all)
	}
}

// drawBytes are up to n, most of them such as a frame begins with.
func drawBytes(draw *rand.Rand, n int) string {
	p := make([]byte, draw.Intn(n+1))
	for i := range p {
		p[i] = []byte{0x55, 0xaa, 1, 2, 32, 0, byte(draw.Intn(256))}[draw.Intn(7)]
	}
	return string(p)
}

// drawPay is a payload; some have frames in them.
func drawPay(draw *rand.Rand) string {
	p := drawBytes(draw, api.MaxPay)
	if inner := framed("A"); len(p)+len(inner) <= api.MaxPay && draw.Intn(2) == 0 {
		at := draw.Intn(len(p) + 1)
		p = p[:at] + inner + p[at:]
	}
	if p == "" {
		p = "A"
	}
	return p
}

// drawStream is frames, right, spoilt, and cut off, with other bytes between.
func drawStream(draw *rand.Rand) string {
	all := ""
	for range draw.Intn(9) {
		f := []byte(framed(drawPay(draw)))
		switch draw.Intn(6) {
		case 0, 1:
			all += string(f)
		case 2:
			f[draw.Intn(len(f))] ^= 1 << draw.Intn(8)
			all += string(f)
		case 3:
			all += string(f[:draw.Intn(len(f))])
		case 4:
			all += drawBytes(draw, 10)
		case 5:
			all += string([]byte{0x55, 0xaa, byte(draw.Intn(api.MaxPay + 2))})
		}
	}
	return all
}

func TestAgainstModel(t *testing.T) {
	draw := rand.New(rand.NewSource(16))
	told, lost, held := 0, 0, 0
	for range 300 {
		all := drawStream(draw)
		wantHoweverCut(t, draw, all)
		m := model(all)
		told, lost, held = told+len(m.told), lost+m.lost, held+m.held
	}
	if told < 300 || lost < 300 || held < 300 {
		t.Errorf("%d told, %d lost, %d held: too few of one", told, lost, held)
	}
}

func TestBytesAtRandom(t *testing.T) {
	draw := rand.New(rand.NewSource(17))
	p := make([]byte, 200000)
	draw.Read(p)
	whole, pieces := frame.New(), frame.New()
	told := texts(whole.Feed(p))
	var inPieces []string
	for rest := p; len(rest) > 0; {
		n := min(draw.Intn(50), len(rest))
		inPieces = append(inPieces, texts(pieces.Feed(bytes.Clone(rest[:n])))...)
		rest = rest[n:]
	}
	m := model(string(p))
	if !slices.Equal(told, m.told) || !slices.Equal(inPieces, m.told) {
		t.Errorf("%q, %q, want %q", told, inPieces, m.told)
	}
	wantCounts(t, whole, m.lost, m.held)
	wantCounts(t, pieces, m.lost, m.held)
}
