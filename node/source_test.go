package node_test

import (
	"math/rand"
	"slices"
	"testing"

	"tether/api"
	"tether/grid"
	"tether/node"
)

// plain is a source that takes a snapshot each ten seconds, so that there is time to wait in between.
var plain = api.Config{Id: 1, Blocks: 2, Peers: 1, Every: 10, Wait: 3, Cap: 20, Grid: "20x10", Last: 12}

// like is the plain source, but for what is changed.
func like(change func(c *api.Config)) api.Config {
	c := plain
	change(&c)
	return c
}

func TestP13NewSource(t *testing.T) {
	for _, c := range []api.Config{
		{Id: 1, Blocks: 1, Peers: 1, Every: 1, Wait: 1, Cap: 1, Grid: "1x1", Last: 1},
		{Id: api.MaxId, Blocks: api.MaxBlocks, Peers: api.MaxPeers, Every: api.MaxEvery, Wait: api.MaxWait, Cap: api.MaxWait, Grid: "20x1000000", Last: api.MaxSnaps},
		{Id: 5, Blocks: 3, Peers: 2, Every: 7, Wait: 1, Cap: api.MaxWait, Grid: "1x1 2x2 3x3 4x4", Last: 2},
	} {
		s := newSource(t, c)
		if s.Store() != s.Store() {
			t.Error("Store() is not always the same")
		}
		checkSnaps(t, s.Store())
		checkMarks(t, s.Store())
		checkKnown(t, s, make([]int, c.Peers)...)
		if _, errno := s.Known(c.Peers); errno != api.ErrArg {
			t.Errorf("there is a replica %d", c.Peers)
		}
		if _, errno := s.Store().Read(c.Blocks); errno != api.ErrArg {
			t.Errorf("there is a block %d", c.Blocks)
		}
		if guid, errno := s.Store().Snap(0); guid != c.Id*api.Thousands+1 || errno != api.OK {
			t.Errorf("Snap(0) = %d, %d", guid, errno)
		}
	}
}

func TestP13NewSourceRefuses(t *testing.T) {
	refuse := func(want api.Errno, change func(c *api.Config)) {
		t.Helper()
		c := like(change)
		if s, errno := node.NewSource(c); s != nil || errno != want {
			t.Errorf("NewSource(%+v) = %v, %d, want %d", c, s, errno, want)
		}
	}
	for _, number := range []struct {
		most int
		of   func(c *api.Config) *int
	}{
		{api.MaxId, func(c *api.Config) *int { return &c.Id }},
		{api.MaxBlocks, func(c *api.Config) *int { return &c.Blocks }},
		{api.MaxPeers, func(c *api.Config) *int { return &c.Peers }},
		{api.MaxEvery, func(c *api.Config) *int { return &c.Every }},
		{api.MaxSnaps, func(c *api.Config) *int { return &c.Last }},
		{plain.Cap, func(c *api.Config) *int { return &c.Wait }},
	} {
		for _, bad := range append(slices.Clone(odd), number.most+1) {
			if bad < 1 || bad > number.most {
				refuse(api.ErrArg, func(c *api.Config) { *number.of(c) = bad })
				refuse(api.ErrArg, func(c *api.Config) { *number.of(c), c.Grid = bad, "" })
			}
		}
	}
	for _, bad := range append(slices.Clone(odd), plain.Wait-1, api.MaxWait+1) {
		if bad < plain.Wait || bad > api.MaxWait {
			refuse(api.ErrArg, func(c *api.Config) { c.Cap = bad })
			refuse(api.ErrArg, func(c *api.Config) { c.Cap, c.Grid = bad, "" })
		}
	}
	refuse(api.ErrArg, func(c *api.Config) { c.Wait, c.Cap = api.MaxWait+1, api.MaxWait+1 })
	refuse(api.ErrArg, func(c *api.Config) { c.Wait, c.Cap = 0, 0 })
	for _, spec := range []string{"", "x", "0x1", "1x01", "1x1 ", "21x1", "1x1000001", "1x1 1x1 1x1 1x1 1x1"} {
		refuse(api.ErrForm, func(c *api.Config) { c.Grid = spec })
	}
}

func TestP13ByTheClockItTakesSnapshots(t *testing.T) {
	s := newSource(t, like(func(c *api.Config) { c.Every, c.Wait, c.Cap = 7, 1000, 1000 }))
	s.Store().Write(0, "aaaa")
	quiet(t, s, 6)
	checkSnaps(t, s.Store())
	checkTick(t, s, ask(0, 1))
	s.Store().Write(0, "bbbb")
	quiet(t, s, 6)
	checkSnaps(t, s.Store(), api.Snapshot{Guid: 1000001, Time: 7})
	quiet(t, s, 1)
	checkSnaps(t, s.Store(), api.Snapshot{Guid: 1000001, Time: 7}, api.Snapshot{Guid: 1000002, Time: 14})
	checkAt(t, s.Store(), 1000001, 0, "aaaa")
	checkAt(t, s.Store(), 1000002, 0, "bbbb")
}

// timesOf tells the times of the snapshots.
func timesOf(s *node.Source) []int {
	var times []int
	for _, one := range s.Store().Snaps() {
		times = append(times, one.Time)
	}
	return times
}

func TestP13FirstItThinsOut(t *testing.T) {
	for _, c := range []struct {
		every, last int
		grid        string
		seconds     int
		want        []int
	}{
		{1, 1, "1x1", 1, []int{1}},
		{1, 1, "1x1", 2, []int{1, 2}}, // the one that came last stays, and one more comes
		{1, 1, "1x1", 3, []int{2, 3}},
		{1, 2, "1x1", 4, []int{2, 3, 4}},
		{3, 1, "2x3", 9, []int{6, 9}}, // now is 9: 6 has the age 3, and 3 the age 6
		{3, 1, "3x3", 9, []int{3, 6, 9}},
		{3, 1, "2x3", 11, []int{6, 9}},
		{5, 1, "2x5 1x1000", 30, []int{25, 30}},
		{1, 12, "1x1", 12, []int{1, 2, 3, 4, 5, 6, 7, 8, 9, 10, 11, 12}},
		{1, 12, "1x1", 13, []int{2, 3, 4, 5, 6, 7, 8, 9, 10, 11, 12, 13}}, // a full store makes room
		{1, 11, "1x1", 14, []int{3, 4, 5, 6, 7, 8, 9, 10, 11, 12, 13, 14}},
		{1, 1, "20x1", 14, []int{3, 4, 5, 6, 7, 8, 9, 10, 11, 12, 13, 14}},
	} {
		s := newSource(t, api.Config{Id: 1, Blocks: 1, Peers: 1, Every: c.every, Wait: 1000, Cap: 1000, Grid: c.grid, Last: c.last})
		for range c.seconds {
			s.Tick()
		}
		if got := timesOf(s); !slices.Equal(got, c.want) {
			t.Errorf("behind %d seconds, each %d, by %q and %d, there are %v, want %v", c.seconds, c.every, c.grid, c.last, got, c.want)
		}
	}
}

func TestP13OnlyByTheClockItThinsOut(t *testing.T) {
	s := newSource(t, like(func(c *api.Config) { c.Grid, c.Last, c.Wait, c.Cap = "1x1", 1, 1000, 1000 }))
	for time := range 3 {
		s.Store().Snap(time)
	}
	checkTick(t, s, ask(0, 1))
	quiet(t, s, 8)
	if got := timesOf(s); !slices.Equal(got, []int{0, 1, 2}) {
		t.Errorf("there are %v", got)
	}
	quiet(t, s, 1)
	if got := timesOf(s); !slices.Equal(got, []int{2, 10}) {
		t.Errorf("there are %v", got)
	}
}

func TestP13WhatIsHeldStays(t *testing.T) {
	s := newSource(t, like(func(c *api.Config) { c.Every, c.Grid, c.Last, c.Wait, c.Cap = 1, "1x1", 1, 1000, 1000 }))
	s.Tick()
	s.Store().Hold(1000001)
	quiet(t, s, 4)
	if got := timesOf(s); !slices.Equal(got, []int{1, 4, 5}) {
		t.Errorf("there are %v", got)
	}
}

func TestP13WithoutRoomThereIsNoSnapshot(t *testing.T) {
	s := newSource(t, like(func(c *api.Config) { c.Every, c.Wait, c.Cap = 1, 1000, 1000 }))
	for range api.MaxSnaps {
		guid, _ := s.Store().Snap(0)
		s.Store().Hold(guid)
	}
	before := s.Store().Snaps()
	checkTick(t, s, ask(0, 1))
	quiet(t, s, 3)
	checkSnaps(t, s.Store(), before...)
	s.Store().Release(1000012) // the one that came last stays nevertheless
	quiet(t, s, 1)
	if count := len(s.Store().Snaps()); count != api.MaxSnaps || newestOf(s.Store()) != 1000012 {
		t.Errorf("there are %v", s.Store().Snaps())
	}
	s.Store().Release(1000005)
	quiet(t, s, 1)
	if guids := guidsOf(s.Store()); len(guids) != api.MaxSnaps || slices.Contains(guids, 1000005) || newestOf(s.Store()) != 1000013 {
		t.Errorf("there are %v", guids)
	}
}

func TestP13ItAsksAsSoonAsThereIsASnapshot(t *testing.T) {
	s := newSource(t, like(func(c *api.Config) { c.Peers = 3 }))
	quiet(t, s, 4)
	s.Store().Snap(77)
	checkTick(t, s, ask(0, 1), ask(1, 1), ask(2, 1))
	quiet(t, s, 2)
	checkTick(t, s, ask(0, 2), ask(1, 2), ask(2, 2))
}

func TestP13EachReplicaIsAskedByItself(t *testing.T) {
	s := newSource(t, like(func(c *api.Config) { c.Peers = 3 }))
	quiet(t, s, 9)
	checkTick(t, s, ask(0, 1), ask(1, 1), ask(2, 1))
	checkTake(t, s, 1, has(1, 1, 1000001))
	quiet(t, s, 2)
	checkTick(t, s, ask(0, 2), ask(2, 2))
	checkTake(t, s, 0, has(0, 2, 1000001))
	quiet(t, s, 5)
	checkTick(t, s, ask(2, 3))
	checkTick(t, s, ask(0, 3), ask(1, 2)) // 20: there is another
}

func TestP13ItWaitsLongerEachTime(t *testing.T) {
	for _, c := range []struct {
		wait, most int
		want       []int
	}{
		{3, 20, []int{3, 6, 12, 20, 20, 20}},
		{3, 24, []int{3, 6, 12, 24, 24}},
		{3, 25, []int{3, 6, 12, 24, 25, 25}},
		{3, 3, []int{3, 3, 3}},
		{3, 4, []int{3, 4, 4}},
		{1, 1000, []int{1, 2, 4, 8, 16, 32, 64, 128, 256, 512, 1000, 1000}},
		{1000, 1000, []int{1000, 1000}},
		{501, 1000, []int{501, 1000, 1000}},
	} {
		s := newSource(t, like(func(c2 *api.Config) { c2.Wait, c2.Cap, c2.Every = c.wait, c.most, 1 }))
		checkTick(t, s, ask(0, 1))
		for i, seconds := range c.want {
			quiet(t, s, seconds-1)
			checkTick(t, s, ask(0, i+2))
		}
		if t.Failed() {
			t.Fatalf("waiting %d to %d", c.wait, c.most)
		}
	}
}

func TestP13ItWaitsOnAndOn(t *testing.T) {
	s := newSource(t, like(func(c *api.Config) { c.Every, c.Wait, c.Cap = 1000, 1, 1 }))
	quiet(t, s, 999)
	for number := 1; number < 100000 && !t.Failed(); number++ {
		checkTick(t, s, ask(0, number))
	}
}

func TestP13ANewQuestionHasNoTryBehindIt(t *testing.T) {
	s := newSource(t, like(func(c *api.Config) { c.Every = 100 }))
	quiet(t, s, 99)
	checkTick(t, s, ask(0, 1))
	quiet(t, s, 2)
	checkTick(t, s, ask(0, 2))
	quiet(t, s, 5)
	checkTick(t, s, ask(0, 3))
	checkTake(t, s, 0, has(0, 3, 1000001))
	quiet(t, s, 90)
	checkTick(t, s, ask(0, 4)) // 200
	quiet(t, s, 2)
	checkTick(t, s, ask(0, 5))
	quiet(t, s, 5)
	checkTick(t, s, ask(0, 6))
}

func TestP13BehindAStreamItWaitsWithTheTriesThatItHad(t *testing.T) {
	s := newSource(t, like(func(c *api.Config) { c.Every, c.Blocks = 100, 1 }))
	quiet(t, s, 99)
	stream := streamOf(0, 1000001, 100, 1, "\x00\x00\x00\x00\x00")
	checkTick(t, s, ask(0, 1))
	quiet(t, s, 2)
	checkTick(t, s, ask(0, 2)) // one try
	quiet(t, s, 4)
	checkTake(t, s, 0, has(0, 2, 0), data(0, 3, stream))
	quiet(t, s, 2)
	checkTick(t, s, ask(0, 4)) // three seconds behind the stream: two tries
	quiet(t, s, 11)
	checkTick(t, s, ask(0, 5)) // three tries: 24 seconds, but at most 20
	checkTake(t, s, 0, has(0, 5, 0), data(0, 6, stream))
	quiet(t, s, 2)
	checkTick(t, s, ask(0, 7))
	quiet(t, s, 19)
	checkTick(t, s, ask(0, 8))
}

func TestP13WhatTheReplicaHasIsNotAskedFor(t *testing.T) {
	s := newSource(t, plain)
	quiet(t, s, 9)
	checkTick(t, s, ask(0, 1))
	checkTake(t, s, 0, has(0, 1, 1000001))
	quiet(t, s, 9)
	checkTick(t, s, ask(0, 2))
	checkTake(t, s, 0, has(0, 2, 1000002))
	// If others take the last one away, the one ahead of it is last again, and is not what the source knows.
	check(t, "Destroy", s.Store().Destroy(1000002), api.OK)
	checkTick(t, s, ask(0, 3))
}

func TestP13ThinsOutByTheWords(t *testing.T) {
	for seed := range int64(60) {
		dice := rand.New(rand.NewSource(seed))
		spec := []string{"1x1", "2x5 2x20", "20x1", "3x7", "1x100 4x2 2x9"}[dice.Intn(5)]
		rules, _ := grid.Parse(spec)
		last, every := 1+dice.Intn(api.MaxSnaps), 1+dice.Intn(3)
		s := newSource(t, api.Config{Id: 1, Blocks: 1, Peers: 1, Every: every, Wait: 1000, Cap: 1000, Grid: spec, Last: last})
		for time := 1; time < 200; time++ {
			disturb(dice, s.Store())
			before, want := s.Store().Snaps(), guidsOf(s.Store())
			s.Tick()
			if time%every == 0 {
				want = thinned(before, time, last, rules)
			}
			if len(want) < api.MaxSnaps && time%every == 0 {
				want = append(want, newestOf(s.Store()))
				if times := timesOf(s); times[len(times)-1] != time {
					t.Fatalf("seed %d: there is no snapshot of the time %d", seed, time)
				}
			}
			if left := guidsOf(s.Store()); !slices.Equal(left, want) {
				t.Fatalf("seed %d: of %v are left %v, want %v", seed, before, left, want)
			}
		}
	}
}
