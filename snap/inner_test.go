package snap

import (
	"testing"
	"time"

	"tether/api"
)

// That nearly a million snapshots were taken is made from within.
func TestP6TheLastNumberIsThere(t *testing.T) {
	s, _ := New(7, 1)
	s.taken = api.Thousands - 3
	s.add(7999999, 5)
	if guid, errno := s.Snap(1); guid != 7999998 || errno != api.OK {
		t.Errorf("Snap(1) = %d, %d, want 7999998, 0", guid, errno)
	}
	if guid, errno := s.Snap(1); guid != 0 || errno != api.ErrFull {
		t.Errorf("Snap(1) = %d, %d, want 0, ErrFull", guid, errno)
	}
	s.Destroy(7999999)
	if guid, errno := s.Snap(1); guid != 7999999 || errno != api.OK {
		t.Errorf("Snap(1) = %d, %d, want 7999999, 0", guid, errno)
	}
}

// What is kept of a snapshot goes with it.
func TestP7DestroyLeavesNoBlocks(t *testing.T) {
	s, _ := New(7, api.MaxBlocks)
	for range 3 * api.MaxSnaps {
		guid, _ := s.Snap(1)
		s.Destroy(guid)
	}
	if len(s.then) != 0 {
		t.Errorf("%d blocks are still kept", len(s.then))
	}
}

// calls are those that are asked of a store, by their names.
func calls(guid int) map[string]func(*Store) {
	return map[string]func(*Store){
		"Write":   func(s *Store) { s.Write(0, "data") },
		"Read":    func(s *Store) { s.Read(0) },
		"Snap":    func(s *Store) { s.Snap(1) },
		"Snaps":   func(s *Store) { s.Snaps() },
		"At":      func(s *Store) { s.At(guid, 0) },
		"Hold":    func(s *Store) { s.Hold(guid) },
		"Release": func(s *Store) { s.Release(guid) },
		"Destroy": func(s *Store) { s.Destroy(guid) },
		"Mark":    func(s *Store) { s.Mark(guid) },
		"Unmark":  func(s *Store) { s.Unmark(guid) },
		"Marks":   func(s *Store) { s.Marks() },
		"Send":    func(s *Store) { s.Send(0, guid) },
		"Receive": func(s *Store) { s.Receive("") },
		"Log":     func(s *Store) { s.Log() },
	}
}

// While another call is under way none answers.
func TestP5ToP10EachCallWaitsForTheLock(t *testing.T) {
	s, _ := New(7, 1)
	guid, _ := s.Snap(1)
	for name, call := range calls(guid) {
		done := make(chan bool)
		s.mutex.Lock()
		go func() {
			call(s)
			close(done)
		}()
		select {
		case <-done:
			t.Errorf("%s did not wait for the lock", name)
		case <-time.After(10 * time.Millisecond):
		}
		s.mutex.Unlock()
		<-done
	}
}
