package snap

import (
	"tether/api"
	"tether/wire"
)

// Send writes what changed from one snapshot to another (P8).
func (s *Store) Send(from int, to int) (string, api.Errno) {
	s.mutex.Lock()
	defer s.mutex.Unlock()
	at := s.findSnapshot(to)
	start, known := s.cameOf(from)
	if at < 0 || !known {
		return "", api.ErrNone
	}
	if start >= s.snapshots[at].came {
		return "", api.ErrArg
	}
	stream := wire.Stream{From: from, To: to, Time: s.snapshots[at].Time, Blocks: len(s.volume)}
	for block := range s.volume {
		was := s.then[place{to, block}]
		if was.behind >= start {
			stream.Follow = append(stream.Follow, wire.Block{Number: block, Bytes: was.bytes})
		}
	}
	return stream.Text(), api.OK
}

// cameOf tells when a snapshot came that is there or marked, as its place among all that ever came; that of 0 is ahead of all, so that every block was written behind it. False: there is neither.
func (s *Store) cameOf(guid int) (int, bool) {
	if guid == 0 {
		return 0, true
	}
	if at := s.findSnapshot(guid); at >= 0 {
		return s.snapshots[at].came, true
	}
	if at := s.findMark(guid); at >= 0 {
		return s.marks[at].came, true
	}
	return 0, false
}

// Receive takes in what changed (P9).
func (s *Store) Receive(text string) (int, api.Errno) {
	s.mutex.Lock()
	defer s.mutex.Unlock()
	stream, ok := wire.ParseStream(text)
	if !ok {
		return 0, api.ErrForm
	}
	if errno := s.accepts(stream); errno != api.OK {
		return 0, errno
	}
	// What was written since is lost, and that it was written, too: it does not count in a later Send. Of 0 nothing is there, which reads as bytes 0.
	for block := range s.volume {
		s.volume[block] = s.then[place{stream.From, block}]
	}
	for _, block := range stream.Follow {
		s.volume[block.Number] = content{block.Bytes, s.came}
	}
	s.add(stream.To, stream.Time)
	s.note(wasReceive, text)
	return stream.To, api.OK
}

// accepts tells whether a stream goes with what there is.
func (s *Store) accepts(stream wire.Stream) api.Errno {
	if stream.Blocks != len(s.volume) {
		return api.ErrBase
	}
	if s.findSnapshot(stream.To) >= 0 || s.findMark(stream.To) >= 0 {
		return api.ErrDup
	}
	if stream.From != s.last() {
		return api.ErrBase
	}
	if len(s.snapshots) >= api.MaxSnaps {
		return api.ErrFull
	}
	return api.OK
}

// last tells the guid of the snapshot that came last of those that are there; 0: there is none.
func (s *Store) last() int {
	if len(s.snapshots) == 0 {
		return 0
	}
	return s.snapshots[len(s.snapshots)-1].Guid
}
