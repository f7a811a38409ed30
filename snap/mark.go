package snap

import (
	"slices"

	"tether/api"
	"tether/wire"
)

// mark is the memory of a snapshot, which may be gone: its guid, and when it came.
type mark struct {
	guid, came int
}

// Mark marks a snapshot (P7).
func (s *Store) Mark(guid int) api.Errno {
	s.mutex.Lock()
	defer s.mutex.Unlock()
	if s.findMark(guid) >= 0 {
		return api.OK
	}
	at := s.findSnapshot(guid)
	if at < 0 {
		return api.ErrNone
	}
	if len(s.marks) >= api.MaxMarks {
		return api.ErrFull
	}
	s.marks = append(s.marks, mark{guid, s.snapshots[at].came})
	slices.SortFunc(s.marks, func(a, b mark) int { return a.came - b.came })
	s.note(wasMark, wire.Number(guid))
	return api.OK
}

// Unmark takes a mark away (P7).
func (s *Store) Unmark(guid int) api.Errno {
	s.mutex.Lock()
	defer s.mutex.Unlock()
	at := s.findMark(guid)
	if at < 0 {
		return api.ErrNone
	}
	s.marks = slices.Delete(s.marks, at, at+1)
	s.note(wasUnmark, wire.Number(guid))
	return api.OK
}

// Marks tells the marks (P7).
func (s *Store) Marks() []int {
	s.mutex.Lock()
	defer s.mutex.Unlock()
	told := make([]int, len(s.marks))
	for i, one := range s.marks {
		told[i] = one.guid
	}
	return told
}

// findMark tells where the mark stands; -1: there is none.
func (s *Store) findMark(guid int) int {
	return slices.IndexFunc(s.marks, func(one mark) bool { return one.guid == guid })
}
