package snap_test

import (
	"math"
	"slices"
	"testing"

	"tether/api"
)

func TestP6SnapsInTheirOrder(t *testing.T) {
	s := newStore(t, 7, 2)
	checkSnap(t, s, 5, 7000001, api.OK)
	checkSnap(t, s, 3, 7000002, api.OK)
	checkSnap(t, s, api.MaxTime, 7000003, api.OK)
	checkSnap(t, s, 0, 7000004, api.OK)
	checkSnap(t, s, 3, 7000005, api.OK)
	checkSnaps(t, s,
		api.Snapshot{Guid: 7000001, Time: 5},
		api.Snapshot{Guid: 7000002, Time: 3},
		api.Snapshot{Guid: 7000003, Time: api.MaxTime},
		api.Snapshot{Guid: 7000004, Time: 0},
		api.Snapshot{Guid: 7000005, Time: 3})
}

func TestP6GuidsOfTheStoresNumber(t *testing.T) {
	checkSnap(t, newStore(t, 1, 1), 0, 1000001, api.OK)
	checkSnap(t, newStore(t, api.MaxId, 1), 0, 999000001, api.OK)
}

func TestP6SnapRefuses(t *testing.T) {
	s := newStore(t, 7, 1)
	bad := []int{-1, api.MaxTime + 1, math.MinInt, math.MaxInt, 1 << 32}
	for _, time := range bad {
		checkSnap(t, s, time, 0, api.ErrArg)
	}
	checkSnaps(t, s)
	guids := takeSnaps(t, s, api.MaxSnaps)
	if guids[0] != 7000001 {
		t.Errorf("the first guid behind refusals is %d", guids[0])
	}
	checkSnap(t, s, 1, 0, api.ErrFull)
	for _, time := range bad {
		checkSnap(t, s, time, 0, api.ErrArg)
	}
	checkGuids(t, s, guids...)
	s.Destroy(guids[4])
	checkSnap(t, s, 1, 7000013, api.OK)
	checkSnap(t, s, 1, 0, api.ErrFull)
}

func TestP6NumbersOnlyRise(t *testing.T) {
	s := newStore(t, 7, 1)
	guids := takeSnaps(t, s, 3)
	s.Destroy(guids[2])
	checkSnap(t, s, 0, 7000004, api.OK)
	s.Destroy(guids[0], guids[1], 7000004)
	checkSnap(t, s, 0, 7000005, api.OK)
	checkGuids(t, s, 7000005)
}

func TestP6NoNumberLeft(t *testing.T) {
	s := newStore(t, 7, 1)
	for number := 1; number < api.Thousands; number++ {
		guid, errno := s.Snap(1)
		if guid != 7000000+number || errno != api.OK {
			t.Fatalf("the snapshot of number %d has the guid %d, %d", number, guid, errno)
		}
		if number != 2 {
			s.Destroy(guid)
		}
	}
	checkSnap(t, s, 1, 0, api.ErrFull)
	checkSnap(t, s, -1, 0, api.ErrArg)
	s.Destroy(7000002)
	checkSnap(t, s, 1, 0, api.ErrFull)
	checkSnaps(t, s)
}

func TestP6At(t *testing.T) {
	s := newStore(t, 7, 2)
	s.Write(0, "aaaa")
	first, _ := s.Snap(5)
	s.Write(1, "bbbb")
	second, _ := s.Snap(6)
	third, _ := s.Snap(6)
	s.Write(0, "cccc")
	s.Write(1, zeros)
	checkAt(t, s, first, 0, "aaaa", api.OK)
	checkAt(t, s, first, 1, zeros, api.OK)
	for _, guid := range []int{second, third} {
		checkAt(t, s, guid, 0, "aaaa", api.OK)
		checkAt(t, s, guid, 1, "bbbb", api.OK)
	}
	s.Destroy(second)
	checkAt(t, s, first, 1, zeros, api.OK)
	checkAt(t, s, third, 0, "aaaa", api.OK)
	checkAt(t, s, third, 1, "bbbb", api.OK)
	s.Destroy(first)
	checkAt(t, s, third, 0, "aaaa", api.OK)
	checkRead(t, s, 0, "cccc", api.OK)
}

func TestP6AtRefuses(t *testing.T) {
	s := newStore(t, 7, 2)
	guid, _ := s.Snap(5)
	for _, block := range []int{-1, 2, math.MinInt, math.MaxInt, 1 << 32} {
		checkAt(t, s, guid, block, "", api.ErrArg)
		checkAt(t, s, guid+1, block, "", api.ErrNone)
	}
	for _, none := range []int{0, -1, 1, guid - 1, guid + 1, math.MinInt, math.MaxInt, guid + 1<<32} {
		checkAt(t, s, none, 0, "", api.ErrNone)
	}
	// A mark is the memory of a snapshot without its blocks.
	s.Mark(guid)
	s.Destroy(guid)
	checkAt(t, s, guid, 0, "", api.ErrNone)
}

func TestP7HoldAndRelease(t *testing.T) {
	s := newStore(t, 7, 1)
	guids := takeSnaps(t, s, 2)
	check(t, "Release of what is not held", s.Release(guids[0]), api.ErrArg)
	for holds := 1; holds <= api.MaxHolds; holds++ {
		check(t, "Hold", s.Hold(guids[0]), api.OK)
		checkSnaps(t, s, api.Snapshot{Guid: guids[0], Holds: holds}, api.Snapshot{Guid: guids[1], Time: 1})
	}
	check(t, "Hold once too often", s.Hold(guids[0]), api.ErrFull)
	check(t, "Hold of the other", s.Hold(guids[1]), api.OK)
	checkSnaps(t, s, api.Snapshot{Guid: guids[0], Holds: api.MaxHolds}, api.Snapshot{Guid: guids[1], Time: 1, Holds: 1})
	for holds := api.MaxHolds - 1; holds >= 0; holds-- {
		check(t, "Destroy of what is held", s.Destroy(guids[0]), api.ErrHeld)
		check(t, "Release", s.Release(guids[0]), api.OK)
		checkSnaps(t, s, api.Snapshot{Guid: guids[0], Holds: holds}, api.Snapshot{Guid: guids[1], Time: 1, Holds: 1})
	}
	check(t, "Release of what is held no more", s.Release(guids[0]), api.ErrArg)
	check(t, "Destroy", s.Destroy(guids[0]), api.OK)
	checkSnaps(t, s, api.Snapshot{Guid: guids[1], Time: 1, Holds: 1})
}

func TestP7HoldAndReleaseRefuse(t *testing.T) {
	s := newStore(t, 7, 1)
	guid, _ := s.Snap(1)
	gone, _ := s.Snap(2)
	s.Mark(gone)
	s.Destroy(gone)
	for _, none := range []int{0, -1, gone, guid - 1, math.MinInt, math.MaxInt, guid + 1<<32} {
		check(t, "Hold of none", s.Hold(none), api.ErrNone)
		check(t, "Release of none", s.Release(none), api.ErrNone)
	}
	checkSnaps(t, s, api.Snapshot{Guid: guid, Time: 1})
}

func TestP7Destroy(t *testing.T) {
	s := newStore(t, 7, 2)
	check(t, "Destroy of nothing", s.Destroy(), api.OK)
	check(t, "Destroy of nothing", s.Destroy(nil...), api.OK)
	guids := takeSnaps(t, s, api.MaxSnaps)
	check(t, "Destroy of nothing", s.Destroy(), api.OK)
	checkGuids(t, s, guids...)
	check(t, "Destroy of one", s.Destroy(guids[3]), api.OK)
	checkGuids(t, s, slices.Concat(guids[:3], guids[4:])...)
	check(t, "Destroy of some", s.Destroy(guids[11], guids[0], guids[5]), api.OK)
	checkGuids(t, s, guids[1], guids[2], guids[4], guids[6], guids[7], guids[8], guids[9], guids[10])
	for _, gone := range []int{guids[3], guids[11], guids[0], guids[5]} {
		checkAt(t, s, gone, 0, "", api.ErrNone)
		check(t, "Destroy of what is gone", s.Destroy(gone), api.ErrNone)
	}
	check(t, "Destroy of all", s.Destroy(guidsOf(s)...), api.OK)
	checkSnaps(t, s)
}

func TestP7DestroyRefusesAsAWhole(t *testing.T) {
	s := newStore(t, 7, 2)
	guids := takeSnaps(t, s, 4)
	a, b, held, d := guids[0], guids[1], guids[2], guids[3]
	s.Hold(held)
	s.Mark(d)
	s.Destroy(d)
	before := s.Snaps()
	for _, none := range [][]int{
		{a, a}, {a, b, a}, {held, held}, {a, 0}, {0, a}, {a, d}, {d}, {held, 5}, {5, held}, {a, held, b, held},
		{-1}, {math.MinInt}, {math.MaxInt}, {a + 1<<32}, slices.Repeat([]int{a}, 100000), make([]int, 100000),
	} {
		check(t, "Destroy of none", s.Destroy(none...), api.ErrNone)
	}
	for _, some := range [][]int{{held}, {a, held}, {held, a}, {a, held, b}} {
		check(t, "Destroy of what is held", s.Destroy(some...), api.ErrHeld)
	}
	checkSnaps(t, s, before...)
	checkAt(t, s, a, 1, zeros, api.OK)
	s.Release(held)
	check(t, "Destroy of what is held no more", s.Destroy(b, held), api.OK)
	checkGuids(t, s, a)
}
