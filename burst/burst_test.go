package burst_test

import (
	"math"
	"strings"
	"testing"

	"handbell/api"
	"handbell/burst"
)

const (
	most  = int64(api.MaxTick)
	last  = int64(math.MaxInt64)
	least = int64(math.MinInt64)
)

// sounds is a pattern as the chapter writes it, and its length and the places of its pulses, counted by hand.
type sounds struct {
	priority byte
	pattern  string
	period   int64
	pulses   []int64
}

func all() []sounds {
	return []sounds{
		{api.High, "10101001010000001010100101000000", 32, []int64{0, 2, 4, 7, 9, 16, 18, 20, 23, 25}},
		{api.Medium, "100100100000000000000000", 24, []int64{0, 3, 6}},
		{api.Low, "1000100000000000000000000000000000000000", 40, []int64{0, 4}},
	}
}

// isPulse: is there one at that place of the round?
func (s sounds) isPulse(place int64) bool {
	for _, at := range s.pulses {
		if at == place {
			return true
		}
	}
	return false
}

// none are the numbers of no priority.
func none() []byte {
	numbers := []byte{0}
	for n := 4; n <= 255; n++ {
		numbers = append(numbers, byte(n))
	}
	return numbers
}

func wantSound(t *testing.T, priority byte, phase int64, want bool) {
	t.Helper()
	if got := burst.Sound(priority, phase); got != want {
		t.Errorf("Sound(%d, %d): %t, want %t", priority, phase, got, want)
	}
}

func TestExample(t *testing.T) {
	wantSound(t, api.Medium, 0, true)
	wantSound(t, api.Medium, 1, false)
	wantSound(t, api.Medium, 24, true)
}

func TestPattern(t *testing.T) {
	for _, s := range all() {
		if got := burst.Pattern(s.priority); got != s.pattern {
			t.Errorf("Pattern(%d): %s, want %s", s.priority, got, s.pattern)
		}
		if got := burst.Period(s.priority); got != s.period {
			t.Errorf("Period(%d): %d, want %d", s.priority, got, s.period)
		}
		if got := burst.Pulses(s.priority); got != len(s.pulses) {
			t.Errorf("Pulses(%d): %d, want %d", s.priority, got, len(s.pulses))
		}
	}
}

// A sign for each tick, 1 or 0, and a 1 where the pulses are.
func TestSigns(t *testing.T) {
	for _, s := range all() {
		pattern := burst.Pattern(s.priority)
		if int64(len(pattern)) != s.period || strings.Trim(pattern, "01") != "" {
			t.Fatalf("Pattern(%d): %q", s.priority, pattern)
		}
		for place := range s.period {
			if got := pattern[place] == '1'; got != s.isPulse(place) {
				t.Errorf("Pattern(%d) at %d: %t", s.priority, place, got)
			}
		}
	}
}

// Round and round, sign for sign.
func TestSoundOfSeveralRounds(t *testing.T) {
	for _, s := range all() {
		phase := int64(0)
		for range 5 {
			for place := range s.period {
				wantSound(t, s.priority, phase, s.isPulse(place))
				phase++
			}
		}
	}
}

// The last sign of a round, and the first of the next one; and the last pulse, with what stands beside it.
func TestEndOfARound(t *testing.T) {
	for _, s := range all() {
		ends := s.pulses[len(s.pulses)-1]
		for _, round := range []int64{0, 1, 2, 3, 1000, most / s.period} {
			first := round * s.period
			wantSound(t, s.priority, first+s.period-1, false)
			wantSound(t, s.priority, first+s.period, true)
			wantSound(t, s.priority, first+s.period+1, false)
			wantSound(t, s.priority, first+ends-1, false)
			wantSound(t, s.priority, first+ends, true)
			wantSound(t, s.priority, first+ends+1, false)
		}
	}
}

// Below 0 there is no sound, also where the pattern, gone through backwards, had a pulse.
func TestPhaseBelowNone(t *testing.T) {
	for _, priority := range []byte{api.Low, api.Medium, api.High, 0, 4, 255} {
		for phase := int64(-1); phase >= -200; phase-- {
			wantSound(t, priority, phase, false)
		}
		for _, phase := range []int64{-most - 1, -most, -most + 1, least, least + 1, least + 8, least + 16, least + 32} {
			wantSound(t, priority, phase, false)
		}
	}
}

func TestGreatPhases(t *testing.T) {
	for _, s := range all() {
		for back := range int64(100) {
			for _, phase := range []int64{last - back, most - back, most + back, math.MaxInt32 - back, math.MaxInt32 + back, math.MaxUint32 + back} {
				wantSound(t, s.priority, phase, s.isPulse(phase%s.period))
			}
		}
	}
	wantSound(t, api.High, most, true)    // a whole number of rounds of 32
	wantSound(t, api.Medium, most, false) // 16 signs behind some of 24
	wantSound(t, api.Medium, most+8, true)
	wantSound(t, api.Low, most, false) // 16 signs behind some of 40
	wantSound(t, api.Low, most+24, true)
	wantSound(t, api.High, last, false) // the last sign of a round
}

func TestNoSuchPriority(t *testing.T) {
	for _, priority := range none() {
		if got := burst.Pattern(priority); got != "" {
			t.Errorf("Pattern(%d): %q", priority, got)
		}
		if period, pulses := burst.Period(priority), burst.Pulses(priority); period != 0 || pulses != 0 {
			t.Errorf("Period and Pulses of %d: %d, %d", priority, period, pulses)
		}
		for _, phase := range []int64{least, -1, 0, 1, 2, 3, 4, 7, 24, 32, 40, most, last} {
			wantSound(t, priority, phase, false)
		}
	}
}
