package snap_test

import (
	"math"
	"testing"

	"tether/api"
)

func TestP7MarksInTheOrderOfTheSnapshots(t *testing.T) {
	s := newStore(t, 7, 1)
	guids := takeSnaps(t, s, 5)
	for _, i := range []int{3, 0, 4, 1} {
		check(t, "Mark", s.Mark(guids[i]), api.OK)
	}
	checkMarks(t, s, guids[0], guids[1], guids[3], guids[4])
	s.Destroy(guids...)
	checkMarks(t, s, guids[0], guids[1], guids[3], guids[4])
	late, _ := s.Snap(0)
	check(t, "Mark", s.Mark(late), api.OK)
	checkMarks(t, s, guids[0], guids[1], guids[3], guids[4], late)
}

func TestP7MarkOfWhatIsMarked(t *testing.T) {
	s := newStore(t, 7, 1)
	guids := takeSnaps(t, s, 2)
	for range 3 {
		check(t, "Mark", s.Mark(guids[0]), api.OK)
	}
	checkMarks(t, s, guids[0])
	s.Destroy(guids[0])
	check(t, "Mark of what is gone, but marked", s.Mark(guids[0]), api.OK)
	checkMarks(t, s, guids[0])
	check(t, "Unmark", s.Unmark(guids[0]), api.OK)
	check(t, "Mark of what is gone", s.Mark(guids[0]), api.ErrNone)
	checkMarks(t, s)
}

func TestP7Unmark(t *testing.T) {
	s := newStore(t, 7, 1)
	guids := takeSnaps(t, s, 3)
	for _, guid := range guids {
		s.Mark(guid)
	}
	check(t, "Unmark", s.Unmark(guids[1]), api.OK)
	check(t, "Unmark of what is marked no more", s.Unmark(guids[1]), api.ErrNone)
	checkMarks(t, s, guids[0], guids[2])
	checkGuids(t, s, guids...)
	check(t, "Mark again", s.Mark(guids[1]), api.OK)
	checkMarks(t, s, guids...)
}

func TestP7MarkAndUnmarkRefuse(t *testing.T) {
	s := newStore(t, 7, 1)
	guid, _ := s.Snap(1)
	for _, none := range []int{0, -1, guid - 1, guid + 1, math.MinInt, math.MaxInt, guid + 1<<32} {
		check(t, "Mark of none", s.Mark(none), api.ErrNone)
		check(t, "Unmark of none", s.Unmark(none), api.ErrNone)
	}
	check(t, "Unmark of a snapshot without a mark", s.Unmark(guid), api.ErrNone)
	checkMarks(t, s)
}

func TestP7MarksAreFull(t *testing.T) {
	s := newStore(t, 7, 1)
	guids := takeSnaps(t, s, api.MaxMarks-1)
	for _, guid := range guids {
		check(t, "Mark", s.Mark(guid), api.OK)
	}
	s.Destroy(guids[:5]...)
	more := takeSnaps(t, s, 2)
	check(t, "Mark of the last that may be", s.Mark(more[0]), api.OK)
	check(t, "Mark of one more", s.Mark(more[1]), api.ErrFull)
	check(t, "Mark of none", s.Mark(5), api.ErrNone)
	check(t, "Mark of what is marked", s.Mark(guids[0]), api.OK)
	check(t, "Mark of what is marked", s.Mark(more[0]), api.OK)
	checkMarks(t, s, append(guids, more[0])...)
	s.Unmark(guids[3])
	check(t, "Mark where there is room again", s.Mark(more[1]), api.OK)
	check(t, "Mark of what is gone", s.Mark(guids[3]), api.ErrNone)
}

func TestP7MarkHoldsNothing(t *testing.T) {
	s := newStore(t, 7, 1)
	guid, _ := s.Snap(1)
	s.Mark(guid)
	checkSnaps(t, s, api.Snapshot{Guid: guid, Time: 1})
	check(t, "Destroy of what is marked", s.Destroy(guid), api.OK)
	checkSnaps(t, s)
}
