package image_test

import (
	"bytes"
	"fmt"
	"math"
	"math/rand"
	"slices"
	"testing"

	"handbell/api"
	"handbell/image"
	"handbell/sum"
)

const (
	most  = 1<<31 - 1
	least = -1 << 31
)

// part is one thing that is laid: its bytes, and is it a flag?
type part struct {
	laid []byte
	flag bool
}

// number is n's lowest bits in so many bytes, made by division, not by shifts.
func number(n, size int) part {
	laid := make([]byte, size)
	for i := size - 1; i >= 0; i-- {
		digit := (n%256 + 256) % 256
		laid[i] = byte(digit)
		n = (n - digit) / 256
	}
	return part{laid: laid}
}

func truth(is bool) part {
	if is {
		return part{[]byte{1}, true}
	}
	return part{[]byte{0}, true}
}

// parts are what an image is laid of behind its letters, in order.
func parts(c api.Config) []part {
	all := []part{number(len(c.Signals), 1)}
	for _, s := range c.Signals {
		all = append(all, number(s.Min, 4), number(s.Max, 4))
	}
	all = append(all, number(len(c.Rules), 1))
	for _, r := range c.Rules {
		all = append(all, number(int(r.Kind), 1), number(r.Signal, 1),
			number(r.Limit, 4), number(r.Back, 4), number(int(r.Delay), 4), number(int(r.Span), 4),
			number(int(r.Priority), 1), truth(r.Latch), number(len(r.Stages), 1))
		for _, s := range r.Stages {
			all = append(all, number(int(s.Wait), 4), number(int(s.Priority), 1))
		}
	}
	all = append(all, number(len(c.Table), 1))
	for _, slot := range c.Table {
		all = append(all, number(len(slot), 1))
		for _, n := range slot {
			all = append(all, number(n, 1))
		}
	}
	for _, n := range c.Bands {
		all = append(all, number(n, 1))
	}
	return append(all, number(c.Drain, 1), number(int(c.Pause), 4), number(int(c.Off), 4), truth(c.Break), number(c.Log, 4))
}

// bodyOf is an image without its sum.
func bodyOf(c api.Config) []byte {
	body := []byte("HB1")
	for _, x := range parts(c) {
		body = append(body, x.laid...)
	}
	return body
}

// text is a configuration as a text: of a list of nothing it is the same, be it nil or empty.
func text(c api.Config) string { return fmt.Sprintf("%+v", c) }

func wantEncoded(t *testing.T, c api.Config, body []byte) {
	t.Helper()
	if got, want := image.Encode(c), sum.Close(body); !bytes.Equal(got, want) {
		t.Errorf("Encode(%s):\n%x, want\n%x", text(c), got, want)
	}
}

func wantDecoded(t *testing.T, p []byte, want api.Config) {
	t.Helper()
	got, at, e := image.Decode(p)
	if at != 0 || e != api.OK || text(got) != text(want) {
		t.Errorf("Decode(%x): %d, %v\n%s, want\n%s", p, at, e, text(got), text(want))
	}
}

// wantFault: that place and that error, and nothing of a configuration.
func wantFault(t *testing.T, p []byte, at int, e api.Errno) {
	t.Helper()
	got, gotAt, gotE := image.Decode(p)
	if gotAt != at || gotE != e {
		t.Errorf("Decode(%x): %d, %v, want %d, %v", p, gotAt, gotE, at, e)
	}
	if text(got) != text(api.Config{}) {
		t.Errorf("Decode(%x): with an error it answers %s", p, text(got))
	}
}

func wantThereAndBack(t *testing.T, c api.Config) {
	t.Helper()
	wantEncoded(t, c, bodyOf(c))
	wantDecoded(t, sum.Close(bodyOf(c)), c)
}

// full has a rule of every kind, and no two of its fields alike where that can be.
func full() api.Config {
	return api.Config{
		Signals: []api.Signal{{Min: 0, Max: 300}, {Min: -50, Max: 50}, {Min: least, Max: most}},
		Rules: []api.Rule{
			{Kind: api.Above, Signal: 0, Limit: 120, Back: 110, Delay: 2, Priority: api.Medium, Stages: []api.Stage{{Wait: 3, Priority: api.Medium}, {Wait: 100000, Priority: api.High}}},
			{Kind: api.Below, Signal: 1, Limit: -10, Back: -5, Delay: 7, Priority: api.High, Latch: true},
			{Kind: api.Rise, Signal: 2, Limit: 70000, Back: 65536, Span: 9, Priority: api.Low, Latch: true, Stages: []api.Stage{{Wait: 1, Priority: api.Low}}},
			{Kind: api.Fall, Signal: 0, Limit: 30, Back: 0, Delay: 10000, Span: 10000, Priority: api.Low},
			{Kind: api.Quiet, Signal: 1, Span: 4, Priority: api.Medium, Stages: []api.Stage{{Wait: 5, Priority: 2}, {Wait: 6, Priority: 2}, {Wait: 7, Priority: 3}, {Wait: 8, Priority: 3}}},
			{Kind: api.Bad, Signal: 2, Delay: 257, Priority: api.High},
		},
		Table: [][]int{{0, 1}, {2, 0, 5}, {}, {3, 4}},
		Bands: [3]int{2, 3, 32}, Drain: 64, Pause: 1200, Off: 100000, Break: true, Log: 256,
	}
}

// small has one of everything.
func small() api.Config {
	return api.Config{
		Signals: []api.Signal{{Min: 1, Max: 0x01020304}},
		Rules: []api.Rule{{
			Kind: 1, Signal: 6, Limit: 258, Back: -1, Delay: 5, Span: 8, Priority: 3, Latch: true,
			Stages: []api.Stage{{Wait: 9, Priority: 2}},
		}},
		Table: [][]int{{10, 11}, {}, {12}}, Bands: [3]int{13, 14, 15}, Drain: 16, Pause: 17, Off: 18, Break: false, Log: 19,
	}
}

const smallBody = "HB1" +
	"\x01" + "\x00\x00\x00\x01" + "\x01\x02\x03\x04" +
	"\x01" + "\x01\x06" + "\x00\x00\x01\x02" + "\xff\xff\xff\xff" + "\x00\x00\x00\x05" + "\x00\x00\x00\x08" + "\x03" + "\x01" +
	"\x01" + "\x00\x00\x00\x09" + "\x02" +
	"\x03" + "\x02\x0a\x0b" + "\x00" + "\x01\x0c" +
	"\x0d\x0e\x0f" + "\x10" + "\x00\x00\x00\x11" + "\x00\x00\x00\x12" + "\x00" + "\x00\x00\x00\x13"

func TestEachByteInItsPlace(t *testing.T) {
	wantEncoded(t, small(), []byte(smallBody))
	wantDecoded(t, sum.Close([]byte(smallBody)), small())
}

func TestNothingConfigured(t *testing.T) {
	const body = "HB1\x00\x00\x00" + "\x00\x00\x00\x00" + "\x00\x00\x00\x00\x00\x00\x00\x00" + "\x00" + "\x00\x00\x00\x00"
	var nothing api.Config
	empty := api.Config{Signals: []api.Signal{}, Rules: []api.Rule{}, Table: [][]int{}}
	wantEncoded(t, nothing, []byte(body))
	wantEncoded(t, empty, []byte(body))
	wantDecoded(t, sum.Close([]byte(body)), nothing)

	hollow := api.Config{Rules: []api.Rule{{}, {Stages: []api.Stage{}}}, Table: [][]int{nil, {}}}
	wantThereAndBack(t, hollow) // empty lists in lists
	wantThereAndBack(t, api.Config{Rules: []api.Rule{{Stages: []api.Stage{{}}}}, Table: [][]int{{0}}, Signals: []api.Signal{{}}})
}

func TestEveryKindOfRule(t *testing.T) {
	wantThereAndBack(t, full())
	for kind := byte(api.Above); kind <= api.Bad; kind++ {
		for _, latch := range []bool{false, true} {
			for stages := range api.MaxStages + 1 {
				c := small()
				r := api.Rule{Kind: kind, Signal: 3, Limit: 40, Back: 30, Delay: 20, Span: 10, Priority: api.Low, Latch: latch}
				for i := range stages {
					r.Stages = append(r.Stages, api.Stage{Wait: int64(1000 + i), Priority: api.High})
				}
				c.Rules = append(c.Rules, r, c.Rules[0])
				wantThereAndBack(t, c)
			}
		}
	}
}

// Whether it may be is layer 7's: here all is laid and read as it stands.
func TestConfigurationsThatMayNotBe(t *testing.T) {
	c := full()
	c.Signals[0] = api.Signal{Min: 9, Max: -9}
	c.Rules[0].Kind, c.Rules[0].Signal, c.Rules[0].Priority = 0, 255, 0
	c.Rules[1].Kind, c.Rules[1].Signal, c.Rules[1].Priority = 255, 200, 255
	c.Rules[2].Delay, c.Rules[2].Span = -1, least
	c.Rules[3].Stages = slices.Repeat([]api.Stage{{Wait: -7, Priority: 255}}, 9)
	c.Table[0] = []int{255, 255, 0}
	c.Bands, c.Drain, c.Pause, c.Off, c.Log = [3]int{0, 255, 0}, 0, -1, most, least
	wantThereAndBack(t, c)
}

func TestManyOfEach(t *testing.T) {
	for _, n := range []int{1, 2, 32, 33, 127, 128, 254, 255} {
		c := small()
		c.Signals = slices.Repeat([]api.Signal{{Min: -2, Max: 2}}, n)
		wantThereAndBack(t, c)
		c = small()
		c.Rules = slices.Repeat(full().Rules, n/6+1)[:n]
		wantThereAndBack(t, c)
		c = small()
		c.Rules[0].Stages = slices.Repeat([]api.Stage{{Wait: 3, Priority: 1}}, n)
		wantThereAndBack(t, c)
		c = small()
		c.Table = slices.Repeat([][]int{{1, 2}, {}, {3}}, n)[:n]
		wantThereAndBack(t, c)
		c = small()
		c.Table[1] = slices.Repeat([]int{5}, n)
		wantThereAndBack(t, c)
	}
}

// Of counts the lowest 8 bits are laid. Of more than 255 no more is promised than that the calls end and don't panic.
func TestTooManyOfEach(t *testing.T) {
	for _, n := range []int{256, 257, 1000} {
		c := full()
		c.Signals = make([]api.Signal, n)
		c.Rules = make([]api.Rule, n)
		c.Rules[0].Stages = make([]api.Stage, n)
		c.Table = make([][]int, n)
		c.Table[0] = make([]int, n)
		wantEncoded(t, c, bodyOf(c))
		image.Decode(image.Encode(c))
	}
}

// field is a number of a configuration.
type field struct {
	name string
	set  func(c *api.Config, n int)
}

// laid is a number, and what is read where it was laid.
type laid struct{ n, read int }

// wantLaid: each number of each field is laid as the one that is read of it.
func wantLaid(t *testing.T, fields []field, numbers []laid) {
	t.Helper()
	for _, f := range fields {
		for _, x := range numbers {
			c, want := small(), small()
			f.set(&c, x.n)
			f.set(&want, x.read)
			wantEncoded(t, c, bodyOf(want))
			wantDecoded(t, image.Encode(c), want)
			if t.Failed() {
				t.Fatal(f.name, x.n)
			}
		}
	}
}

// bytewise is every number that is laid as a byte, though it may be greater.
var bytewise = []field{
	{"Signal", func(c *api.Config, n int) { c.Rules[0].Signal = n }},
	{"Table's", func(c *api.Config, n int) { c.Table[0][1] = n }},
	{"Low's band", func(c *api.Config, n int) { c.Bands[0] = n }},
	{"Medium's band", func(c *api.Config, n int) { c.Bands[1] = n }},
	{"High's band", func(c *api.Config, n int) { c.Bands[2] = n }},
	{"Drain", func(c *api.Config, n int) { c.Drain = n }},
	{"Kind", func(c *api.Config, n int) { c.Rules[0].Kind = byte(n) }},
	{"Priority", func(c *api.Config, n int) { c.Rules[0].Priority = byte(n) }},
	{"a stage's Priority", func(c *api.Config, n int) { c.Rules[0].Stages[0].Priority = byte(n) }},
}

// Of bytes the lowest 8 bits are laid, and what these say is read.
func TestBytes(t *testing.T) {
	wantLaid(t, bytewise, []laid{
		{0, 0}, {1, 1}, {127, 127}, {128, 128}, {254, 254}, {255, 255},
		{256, 0}, {257, 1}, {511, 255}, {512, 0}, {-1, 255}, {-2, 254}, {-255, 1}, {-256, 0}, {-257, 255},
		{most, 255}, {least, 0}, {1 << 32, 0}, {1<<40 + 77, 77}, {math.MaxInt, 255}, {math.MinInt, 0}, {math.MinInt + 3, 3},
	})
}

// intwise is every number that is laid as an Int.
var intwise = []field{
	{"Min", func(c *api.Config, n int) { c.Signals[0].Min = n }},
	{"Max", func(c *api.Config, n int) { c.Signals[0].Max = n }},
	{"Limit", func(c *api.Config, n int) { c.Rules[0].Limit = n }},
	{"Back", func(c *api.Config, n int) { c.Rules[0].Back = n }},
	{"Delay", func(c *api.Config, n int) { c.Rules[0].Delay = int64(n) }},
	{"Span", func(c *api.Config, n int) { c.Rules[0].Span = int64(n) }},
	{"Wait", func(c *api.Config, n int) { c.Rules[0].Stages[0].Wait = int64(n) }},
	{"Pause", func(c *api.Config, n int) { c.Pause = int64(n) }},
	{"Off", func(c *api.Config, n int) { c.Off = int64(n) }},
	{"Log", func(c *api.Config, n int) { c.Log = n }},
}

// Of numbers beyond 32 bits the lowest 32 are laid, and what these say is read.
func TestInts(t *testing.T) {
	wantLaid(t, intwise, []laid{
		{0, 0}, {1, 1}, {-1, -1}, {255, 255}, {256, 256}, {-256, -256}, {65536, 65536}, {0x12345678, 0x12345678},
		{most - 1, most - 1}, {most, most}, {least, least}, {least + 1, least + 1},
		{most + 1, least}, {least - 1, most}, {1<<32 - 1, -1}, {1 << 32, 0}, {1<<32 + 7, 7}, {-1<<32 - 1, -1},
		{api.MaxTick, 0}, {api.MaxTick + 5, 5}, {math.MaxInt, -1}, {math.MinInt, 0}, {math.MinInt + 1, 1},
	})
}

func TestNoImage(t *testing.T) {
	wantFault(t, nil, 0, api.ErrShort)
	wantFault(t, []byte{}, 0, api.ErrShort)
	for b := range 256 {
		wantFault(t, []byte{byte(b)}, 0, api.ErrShort)
	}
	wantFault(t, []byte("H"), 0, api.ErrShort)
	wantFault(t, []byte("HB"), 0, api.ErrSum)
	wantFault(t, []byte("HB1"), 0, api.ErrSum)
	wantFault(t, []byte{0, 0}, 0, api.ErrSum)
	wantFault(t, []byte{0xff, 0xff}, 0, api.ErrForm) // a right sum, of nothing
}

func TestSumThatIsNotRight(t *testing.T) {
	for _, c := range []api.Config{{}, small(), full()} {
		p := image.Encode(c)
		for i := range p {
			for _, turned := range []byte{1, 2, 128, 255} {
				q := bytes.Clone(p)
				q[i] ^= turned
				wantFault(t, q, 0, api.ErrSum)
			}
		}
		wantFault(t, p[:len(p)-1], 0, api.ErrSum)
		wantFault(t, p[:len(p)-2], 0, api.ErrSum)
		wantFault(t, p[1:], 0, api.ErrSum)
		q := bytes.Clone(p)
		q[len(q)-1], q[len(q)-2] = q[len(q)-2], q[len(q)-1]
		wantFault(t, q, 0, api.ErrSum) // the lower byte first
	}
	wantFault(t, []byte("no image at all"), 0, api.ErrSum) // ahead of the letters
}

func TestLetters(t *testing.T) {
	for _, body := range []string{"", "H", "HB", "B", "HB2", "HBl", "hb1", "1BH", "HB ", "\x00\x00\x00", " HB1", "HHB1", "\xefHB1"} {
		wantFault(t, sum.Close([]byte(body)), 0, api.ErrForm)
		if len(body) >= 3 {
			wantFault(t, sum.Close([]byte(body+smallBody[3:])), 0, api.ErrForm)
		}
	}
	for i := range 3 {
		for b := range 256 {
			body := []byte(smallBody)
			body[i] = byte(b)
			if string(body) != smallBody {
				wantFault(t, sum.Close(body), 0, api.ErrForm)
				wantFault(t, sum.Close(body[:3]), 0, api.ErrForm) // not ErrShort: the letters are asked first
				wantFault(t, sum.Close(append(body, 1)), 0, api.ErrForm)
			}
		}
	}
}

// At each place an image may end too soon, and then the fault's place is that of the first byte of what is short.
func TestShort(t *testing.T) {
	for _, c := range []api.Config{{}, small(), full()} {
		body := bodyOf(c)
		for end := range 3 {
			wantFault(t, sum.Close(body[:end]), 0, api.ErrForm)
		}
		start := 3
		for _, x := range parts(c) {
			for there := range len(x.laid) {
				wantFault(t, sum.Close(body[:start+there]), start, api.ErrShort)
			}
			start += len(x.laid)
		}
		if start != len(body) {
			t.Fatal("not every place is gone through:", start, len(body))
		}
		wantDecoded(t, sum.Close(body), c)
	}
}

// A count that tells of more than there is takes what is behind for it, up to the end.
func TestCountsThatAreTooGreat(t *testing.T) {
	wantFault(t, sum.Close([]byte("HB1\xff")), 4, api.ErrShort)
	wantFault(t, sum.Close([]byte("HB1\x02\x00\x00\x00\x00\x00\x00\x00\x00\x00\x00\x00")), 12, api.ErrShort)
	wantFault(t, sum.Close([]byte("HB1\x00\xff\x01")), 6, api.ErrShort)
	wantFault(t, sum.Close([]byte("HB1\x00\x00\xff\x00\x02\x05")), 9, api.ErrShort)
	wantFault(t, sum.Close([]byte("HB1\x00\x00\xff")), 6, api.ErrShort)
	wantFault(t, sum.Close(append([]byte("HB1\x00\x00\x00"), 0, 0)), 8, api.ErrShort)
}

func TestBytesThatAreLeft(t *testing.T) {
	for _, c := range []api.Config{{}, small(), full()} {
		body := bodyOf(c)
		for n := 1; n < 10; n++ {
			for _, b := range []byte{0, 1, 2, 255} {
				more := slices.Concat(body, bytes.Repeat([]byte{b}, n))
				wantFault(t, sum.Close(more), len(body), api.ErrForm)
			}
		}
		wantFault(t, sum.Close(slices.Concat(body, body)), len(body), api.ErrForm)
		wantFault(t, sum.Close(sum.Close(body)), len(body), api.ErrForm)
	}
}

// flagsOf are the places of an image's flags.
func flagsOf(c api.Config) []int {
	var places []int
	at := 3
	for _, x := range parts(c) {
		if x.flag {
			places = append(places, at)
		}
		at += len(x.laid)
	}
	return places
}

func TestFlags(t *testing.T) {
	for _, x := range []struct {
		c     api.Config
		flags int // one for Break, and one for each rule's Latch
	}{{api.Config{}, 1}, {small(), 2}, {full(), 7}} {
		places := flagsOf(x.c)
		if len(places) != x.flags {
			t.Fatal("flags:", places)
		}
		body := bodyOf(x.c)
		for _, at := range places {
			for b := 2; b < 256; b++ {
				wrong := bytes.Clone(body)
				wrong[at] = byte(b)
				wantFault(t, sum.Close(wrong), at, api.ErrForm)
			}
			turned := bytes.Clone(body)
			turned[at] = 1 - turned[at]
			if got, _, e := image.Decode(sum.Close(turned)); e != api.OK || !bytes.Equal(bodyOf(got), turned) {
				t.Errorf("a flag at %d turned: %v, %s", at, e, text(got))
			}
		}
	}
}

// Where several hold the first one is told: of the reader's faults the first, and that bytes are left only behind none.
func TestTheFirstFault(t *testing.T) {
	body, flags := bodyOf(full()), flagsOf(full())
	for i, first := range flags {
		for _, second := range flags[i+1:] {
			wrong := bytes.Clone(body)
			wrong[first], wrong[second] = 3, 2
			wantFault(t, sum.Close(wrong), first, api.ErrForm)
		}
		wrong := bytes.Clone(body)
		wrong[first] = 77
		wantFault(t, sum.Close(append(bytes.Clone(wrong), 5, 6)), first, api.ErrForm)
		for end := first + 1; end < len(wrong); end++ {
			wantFault(t, sum.Close(wrong[:end]), first, api.ErrForm)
		}
		wantFault(t, sum.Close(wrong[:first]), first, api.ErrShort)
		p := sum.Close(wrong)
		p[len(p)-1]++
		wantFault(t, p, 0, api.ErrSum)
		wrong[2] = '2'
		wantFault(t, sum.Close(wrong), 0, api.ErrForm)
	}
}

func TestNothingIsSharedByEncode(t *testing.T) {
	c := full()
	p := image.Encode(c)
	again := image.Encode(c)
	want := bytes.Clone(p)
	if text(c) != text(full()) {
		t.Error("Encode writes into what it was handed:", text(c))
	}
	clear(p[:cap(p)])
	if text(c) != text(full()) || !bytes.Equal(again, want) {
		t.Error("Encode's answer shares")
	}
	spoil(&c)
	if !bytes.Equal(again, want) {
		t.Error("Encode's answer changes behind the call")
	}
	wantEncoded(t, full(), bodyOf(full()))
}

// spoil writes over all of a configuration that might be shared.
func spoil(c *api.Config) {
	for i := range c.Rules {
		clear(c.Rules[i].Stages)
	}
	for i := range c.Table {
		clear(c.Table[i])
	}
	clear(c.Signals)
	clear(c.Rules)
	clear(c.Table)
	*c = api.Config{}
}

func TestNothingIsSharedByDecode(t *testing.T) {
	p := image.Encode(full())
	room := slices.Concat(p, []byte("what is behind"))
	first, _, _ := image.Decode(room[:len(p)])
	if !bytes.Equal(room[:len(p)], p) || string(room[len(p):]) != "what is behind" {
		t.Error("Decode writes into what it was handed")
	}
	second, _, _ := image.Decode(room[:len(p)])
	clear(room)
	if text(first) != text(full()) || text(second) != text(full()) {
		t.Error("Decode's answer changes behind the call")
	}
	spoil(&first)
	if text(second) != text(full()) {
		t.Error("two answers share:", text(second))
	}
	wantDecoded(t, p, full())
}

// Lists of one answer share nothing: what is laid behind one's end, or into it, isn't seen in another.
func TestNothingIsSharedWithinAnAnswer(t *testing.T) {
	c := full()
	c.Rules = append(c.Rules, c.Rules[4], c.Rules[0], c.Rules[4])
	c.Table = [][]int{{1, 2}, {1, 2}, {}, {1, 2}, {1}}
	p := image.Encode(c)
	for i := range c.Table {
		got, _, _ := image.Decode(p)
		_ = append(got.Table[i], 98, 99)
		if text(got) != text(c) {
			t.Errorf("behind slot %d: %s", i, text(got))
		}
		clear(got.Table[i])
		got.Table[i] = c.Table[i]
		if text(got) != text(c) {
			t.Errorf("in slot %d: %s", i, text(got))
		}
	}
	for i := range c.Rules {
		got, _, _ := image.Decode(p)
		_ = append(got.Rules[i].Stages, api.Stage{Wait: 99}, api.Stage{Wait: 98})
		if text(got) != text(c) {
			t.Errorf("behind rule %d's stages: %s", i, text(got))
		}
		clear(got.Rules[i].Stages)
		got.Rules[i].Stages = c.Rules[i].Stages
		if text(got) != text(c) {
			t.Errorf("in rule %d's stages: %s", i, text(got))
		}
	}
}

// drawInt is a number of 32 bits, often a little one.
func drawInt(draw *rand.Rand) int {
	if draw.Intn(2) == 0 {
		return draw.Intn(601) - 300
	}
	return draw.Intn(1<<32) - 1<<31
}

func drawByte(draw *rand.Rand) byte { return byte(draw.Intn(256)) }

// drawConfig has only what is laid whole, so that it is read just as it was.
func drawConfig(draw *rand.Rand) api.Config {
	var c api.Config
	for range draw.Intn(5) {
		c.Signals = append(c.Signals, api.Signal{Min: drawInt(draw), Max: drawInt(draw)})
	}
	for range draw.Intn(6) {
		r := api.Rule{
			Kind: drawByte(draw), Signal: draw.Intn(256), Limit: drawInt(draw), Back: drawInt(draw),
			Delay: int64(drawInt(draw)), Span: int64(drawInt(draw)), Priority: drawByte(draw), Latch: draw.Intn(2) == 0,
		}
		for range draw.Intn(5) {
			r.Stages = append(r.Stages, api.Stage{Wait: int64(drawInt(draw)), Priority: drawByte(draw)})
		}
		c.Rules = append(c.Rules, r)
	}
	for range draw.Intn(6) {
		var slot []int
		for range draw.Intn(5) {
			slot = append(slot, draw.Intn(256))
		}
		c.Table = append(c.Table, slot)
	}
	c.Bands = [3]int{draw.Intn(256), draw.Intn(256), draw.Intn(256)}
	c.Drain, c.Log = draw.Intn(256), drawInt(draw)
	c.Pause, c.Off, c.Break = int64(drawInt(draw)), int64(drawInt(draw)), draw.Intn(2) == 0
	return c
}

func TestThereAndBack(t *testing.T) {
	draw := rand.New(rand.NewSource(9))
	for range 2000 {
		wantThereAndBack(t, drawConfig(draw))
		if t.Failed() {
			return
		}
	}
}

// model goes over a body by the chapter's words, and keeps the first fault alone.
type model struct {
	p         []byte
	at, place int
	e         api.Errno
}

// one is the next byte, one of so many that may stand there; 0 behind a fault.
func (m *model) one(many int) int {
	switch {
	case m.e != api.OK:
	case m.at >= len(m.p):
		m.place, m.e = m.at, api.ErrShort
	case int(m.p[m.at]) >= many:
		m.place, m.e = m.at, api.ErrForm
	default:
		m.at++
		return int(m.p[m.at-1])
	}
	return 0
}

// ints are so many numbers of four bytes.
func (m *model) ints(n int) {
	for range n {
		start := m.at
		for range 4 {
			m.one(256)
		}
		if m.e != api.OK && m.place > start { // it isn't the byte that is short, but the number
			m.place = start
		}
		if m.e != api.OK {
			return
		}
	}
}

// modelFault is the place and the error that a body must have.
func modelFault(p []byte) (int, api.Errno) {
	if len(p) < 3 || p[0] != 'H' || p[1] != 'B' || p[2] != '1' {
		return 0, api.ErrForm
	}
	m := &model{p: p, at: 3}
	m.ints(2 * m.one(256))
	for range m.one(256) {
		m.one(256)
		m.one(256)
		m.ints(4)
		m.one(256)
		m.one(2)
		for range m.one(256) {
			m.ints(1)
			m.one(256)
		}
	}
	for range m.one(256) {
		for range m.one(256) {
			m.one(256)
		}
	}
	for range 4 {
		m.one(256)
	}
	m.ints(2)
	m.one(2)
	m.ints(1)
	if m.e == api.OK && m.at < len(p) {
		return m.at, api.ErrForm
	}
	return m.place, m.e
}

// wantByModel: the model's fault, or a configuration that has just this image.
func wantByModel(t *testing.T, body []byte) {
	t.Helper()
	at, e := modelFault(body)
	p := sum.Close(body)
	if e != api.OK {
		wantFault(t, p, at, e)
		return
	}
	c, gotAt, got := image.Decode(p)
	if gotAt != 0 || got != api.OK || !bytes.Equal(bodyOf(c), body) || !bytes.Equal(image.Encode(c), p) {
		t.Errorf("Decode(%x): %d, %v, %s", p, gotAt, got, text(c))
	}
}

func TestAgainstModel(t *testing.T) {
	draw := rand.New(rand.NewSource(10))
	for range 20000 {
		body := bodyOf(drawConfig(draw))
		for range draw.Intn(4) {
			at := draw.Intn(len(body))
			switch draw.Intn(4) {
			case 0:
				body[at] = drawByte(draw)
			case 1:
				body[at] = byte(draw.Intn(5))
			case 2:
				body = slices.Delete(body, at, at+1)
			default:
				body = slices.Insert(body, at, drawByte(draw))
			}
		}
		wantByModel(t, body)
		if t.Failed() {
			return
		}
	}
	for range 20000 { // and bytes of any kind behind the letters
		body := []byte("HB1")
		for range draw.Intn(80) {
			body = append(body, byte(draw.Intn(1+draw.Intn(256))))
		}
		wantByModel(t, body)
		if t.Failed() {
			return
		}
	}
}

// Bytes of any kind, most of them with a wrong sum, make it neither panic nor go on for ever.
func TestAnyBytes(t *testing.T) {
	draw := rand.New(rand.NewSource(11))
	for n := range 3000 {
		p := make([]byte, n%300)
		draw.Read(p)
		if c, at, e := image.Decode(p); e == api.OK || at != 0 || text(c) != text(api.Config{}) {
			t.Fatalf("Decode(%x): %d, %v", p, at, e)
		}
	}
	long := append([]byte("HB1"), bytes.Repeat([]byte{255}, 200000)...)
	at, e := modelFault(long)
	wantFault(t, sum.Close(long), at, e)
}
