package node

import (
	"slices"
	"testing"

	"tether/api"
)

// That nearly all seconds have gone by is made from within.
func TestP13AtTheLastSecondNothingHappensAnyMore(t *testing.T) {
	s, _ := NewSource(api.Config{Id: 1, Blocks: 1, Peers: 2, Every: 1, Wait: 1, Cap: 2, Grid: "1x1", Last: 1})
	s.time = api.MaxTime - 2
	wants := func(want ...api.Letter) {
		t.Helper()
		if got := s.Tick(); !slices.Equal(got, want) {
			t.Errorf("Tick() = %+v, want %+v", got, want)
		}
	}
	wants(api.Letter{To: 0, Text: "A\x00\x00\x00\x00\x01"}, api.Letter{To: 1, Text: "A\x01\x00\x00\x00\x01"})
	wants(api.Letter{To: 0, Text: "A\x00\x00\x00\x00\x02"}, api.Letter{To: 1, Text: "A\x01\x00\x00\x00\x02"})
	want := []api.Snapshot{{Guid: 1000001, Time: api.MaxTime - 1}, {Guid: 1000002, Time: api.MaxTime}}
	for range 10 {
		if got := s.Store().Snaps(); !slices.Equal(got, want) {
			t.Errorf("Snaps() = %v, want %v", got, want)
		}
		wants()
	}
	// What was asked is answered still.
	if got := s.Take(0, "H\x00\x00\x00\x00\x02\x00\x00\x00\x00"); len(got) != 1 || got[0].Text[:10] != "D\x00\x00\x00\x00\x03SND1" {
		t.Errorf("Take = %+v", got)
	}
	wants()
}

// It has waited in vain in each second that there is.
func TestP13ItNeverWaitsLongerThanItMay(t *testing.T) {
	s, _ := NewSource(api.Config{Id: 1, Blocks: 1, Peers: 1, Every: 1, Wait: 3, Cap: 1000, Grid: "1x1", Last: 1})
	for tries, want := range map[int]int{0: 3, 1: 6, 8: 768, 9: 1000, 10: 1000, 31: 1000, 61: 1000, 62: 1000, 63: 1000, 64: 1000, api.MaxTime: 1000} {
		if got := s.patience(tries); got != want {
			t.Errorf("behind %d tries it waits %d seconds, want %d", tries, got, want)
		}
	}
}
