package snap

import (
	"slices"

	"tether/api"
	"tether/wire"
)

// snapshot is one that is there; came is its place among all that ever came to the store.
type snapshot struct {
	api.Snapshot
	came int
}

// Snap takes a snapshot (P6).
func (s *Store) Snap(time int) (int, api.Errno) {
	s.mutex.Lock()
	defer s.mutex.Unlock()
	if time < 0 || time > api.MaxTime {
		return 0, api.ErrArg
	}
	number := s.nextNumber()
	if len(s.snapshots) >= api.MaxSnaps || number >= api.Thousands {
		return 0, api.ErrFull
	}
	s.taken = number
	guid := s.guidOf(number)
	s.add(guid, time)
	s.note(wasSnap, wire.Number(time))
	return guid, api.OK
}

// nextNumber skips numbers whose guid is there already: what another store sent may have a guid of this one.
func (s *Store) nextNumber() int {
	number := s.taken + 1
	for s.findSnapshot(s.guidOf(number)) >= 0 || s.findMark(s.guidOf(number)) >= 0 {
		number++
	}
	return number
}

func (s *Store) guidOf(number int) int {
	return s.id*api.Thousands + number
}

// add lets a snapshot of the volume as it is come to the store.
func (s *Store) add(guid, time int) {
	s.came++
	s.snapshots = append(s.snapshots, snapshot{api.Snapshot{Guid: guid, Time: time}, s.came})
	for block, now := range s.volume {
		s.then[place{guid, block}] = now
	}
}

// Snaps tells the snapshots (P6).
func (s *Store) Snaps() []api.Snapshot {
	s.mutex.Lock()
	defer s.mutex.Unlock()
	told := make([]api.Snapshot, len(s.snapshots))
	for i, one := range s.snapshots {
		told[i] = one.Snapshot
	}
	return told
}

// At reads a block as it was at a snapshot (P6).
func (s *Store) At(guid int, block int) (string, api.Errno) {
	s.mutex.Lock()
	defer s.mutex.Unlock()
	if s.findSnapshot(guid) < 0 {
		return "", api.ErrNone
	}
	if !s.hasBlock(block) {
		return "", api.ErrArg
	}
	was := s.then[place{guid, block}]
	return string(was.bytes[:]), api.OK
}

// Hold holds a snapshot (P7).
func (s *Store) Hold(guid int) api.Errno {
	s.mutex.Lock()
	defer s.mutex.Unlock()
	i := s.findSnapshot(guid)
	if i < 0 {
		return api.ErrNone
	}
	if s.snapshots[i].Holds >= api.MaxHolds {
		return api.ErrFull
	}
	s.snapshots[i].Holds++
	s.note(wasHold, wire.Number(guid))
	return api.OK
}

// Release takes a hold back (P7).
func (s *Store) Release(guid int) api.Errno {
	s.mutex.Lock()
	defer s.mutex.Unlock()
	i := s.findSnapshot(guid)
	if i < 0 {
		return api.ErrNone
	}
	if s.snapshots[i].Holds == 0 {
		return api.ErrArg
	}
	s.snapshots[i].Holds--
	s.note(wasRelease, wire.Number(guid))
	return api.OK
}

// Destroy takes snapshots away, all of them or none (P7).
func (s *Store) Destroy(guids ...int) api.Errno {
	s.mutex.Lock()
	defer s.mutex.Unlock()
	held := false // told last: one that is not there goes first, wherever it stands
	for i, guid := range guids {
		at := s.findSnapshot(guid)
		if at < 0 || slices.Contains(guids[:i], guid) {
			return api.ErrNone
		}
		held = held || s.snapshots[at].Holds > 0
	}
	if held {
		return api.ErrHeld
	}
	told := ""
	for _, guid := range guids {
		s.remove(guid)
		told += wire.Number(guid)
	}
	if told != "" {
		s.note(wasDestroy, told)
	}
	return api.OK
}

func (s *Store) remove(guid int) {
	at := s.findSnapshot(guid)
	s.snapshots = slices.Delete(s.snapshots, at, at+1)
	for block := range s.volume {
		delete(s.then, place{guid, block})
	}
}

// findSnapshot tells where the snapshot stands; -1: there is none.
func (s *Store) findSnapshot(guid int) int {
	return slices.IndexFunc(s.snapshots, func(one snapshot) bool { return one.Guid == guid })
}
