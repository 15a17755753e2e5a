package table_test

import (
	"slices"
	"testing"

	"handbell/api"
	"handbell/table"
)

// roomy is c, but with room behind each slot, in which there is something.
func roomy(c api.Config) api.Config {
	c = copied(c)
	for i, slot := range c.Table {
		c.Table[i] = append(slot, 99, 99)[:len(slot)]
	}
	return c
}

// wantRoom: what is behind the slots is as it was.
func wantRoom(t *testing.T, c api.Config) {
	t.Helper()
	for i, slot := range c.Table {
		if end := len(slot); !slices.Equal(slot[:end+2][end:], []int{99, 99}) {
			t.Errorf("behind the slot %d: %v", i, slot[:end+2][end:])
		}
	}
}

// What Slot answered is written over, up to its room, and added to.
func TestSlotMayBeWrittenOver(t *testing.T) {
	for _, made := range configs() {
		c := roomy(made)
		was := copied(c)
		for now := int64(1); now <= 2*int64(len(c.Table)); now++ {
			got := table.Slot(c, now)
			want := slices.Clone(got)
			got = append(got, 77)
			got = got[:cap(got)]
			for i := range got {
				got[i] = -7
			}
			got = table.Slot(c, now)
			clear(got[:cap(got)])
			wantSlot(t, c, now, want...)
		}
		wantAsItWas(t, c, was)
		wantRoom(t, c)
	}
}

// Two answers share nothing, of one tick, or of the same slot at two.
func TestSlotsAreTheirOwn(t *testing.T) {
	c := five()
	first, again, round := table.Slot(c, 3), table.Slot(c, 3), table.Slot(c, 8)
	first[0], again[1] = 50, 60
	if !slices.Equal(first, []int{50, 3, 0}) || !slices.Equal(again, []int{2, 60, 0}) || !slices.Equal(round, []int{2, 3, 0}) {
		t.Error(first, again, round)
	}
	c.Table[2][2] = 1 // what was answered isn't the configuration's any more
	if !slices.Equal(round, []int{2, 3, 0}) {
		t.Error(round)
	}
	wantSlot(t, c, 3, 2, 3, 1)
}

func TestNothingIsWritten(t *testing.T) {
	for _, made := range configs() {
		for i := range made.Rules {
			made.Rules[i].Stages = []api.Stage{{Wait: 5, Priority: api.High}}
		}
		c := roomy(made)
		was := copied(c)
		for rule := range len(c.Rules) + 1 {
			table.Slot(c, int64(rule))
			table.Gap(c, rule)
			table.Wait(c)
			table.Late(c, rule)
			table.Gone(c, rule)
		}
		wantAsItWas(t, c, was)
		wantRoom(t, c)
	}
}

// An answer hangs on what was handed in alone, not on what was asked before.
func TestEachCallIsItsOwn(t *testing.T) {
	for range 2 {
		wantGap(t, five(), 0, 2)
		wantSlot(t, five(), most, 3, 0, 1)
		wantBounds(t, five(), 0, 29, 27)
		wantGap(t, sparse(), 0, 4)
		wantSlot(t, sparse(), 2, 2, 0)
		wantBounds(t, sparse(), 0, 36, 32)
		wantWait(t, crowded(), 2112)
		wantWait(t, single(), 4)
		wantBounds(t, example(), 1, 15, 12)
	}
}
