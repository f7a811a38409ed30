package snap

import (
	"tether/api"
	"tether/wire"
)

// The calls that stand in a log. An entry is one byte, how many follow; one byte, which call; and what it was asked.
const (
	wasNew     = 'N'
	wasWrite   = 'W'
	wasSnap    = 'S'
	wasHold    = 'H'
	wasRelease = 'R'
	wasDestroy = 'D'
	wasMark    = 'M'
	wasUnmark  = 'U'
	wasReceive = 'T'
)

// note lets a call stand in the log. The longest is a Receive of all blocks: one byte is room enough for its length.
func (s *Store) note(call byte, asked string) {
	s.log = append(s.log, byte(1+len(asked)), call)
	s.log = append(s.log, asked...)
}

// Log tells what was done (P10).
func (s *Store) Log() string {
	s.mutex.Lock()
	defer s.mutex.Unlock()
	return string(s.log)
}

// Open finds a store in what was done (P10).
func Open(log string) (*Store, api.Errno) {
	s, ok := begin(firstEntry(log))
	if !ok {
		return nil, api.ErrForm
	}
	for {
		// Each call notes itself anew: where the log now ends, the next entry begins.
		entry := firstEntry(log[len(s.log):])
		if entry == "" {
			return s, api.OK
		}
		end := len(s.log) + len(entry)
		s.redo(entry)
		if len(s.log) != end {
			return nil, api.ErrForm
		}
	}
}

// firstEntry tells the entry with which a log begins; none: it is cut off, or there is none.
func firstEntry(log string) string {
	if log == "" || len(log) <= int(log[0]) {
		return ""
	}
	return log[:1+int(log[0])]
}

// begin makes the store of a log whose first entry this is; false: it is not New's.
func begin(entry string) (*Store, bool) {
	reader := wire.NewReader(entry)
	reader.Byte()
	isNew := reader.Byte() == wasNew
	s, errno := New(reader.Number(), reader.Byte())
	if !isNew || errno != api.OK || !reader.Ended() {
		return nil, false
	}
	return s, true
}

// redo does what an entry tells. An entry that no call has noted is refused, or notes another.
func (s *Store) redo(entry string) {
	reader := wire.NewReader(entry)
	reader.Byte()
	switch reader.Byte() {
	case wasWrite:
		s.Write(reader.Byte(), reader.Text(reader.Left()))
	case wasSnap:
		s.Snap(reader.Number())
	case wasHold:
		s.Hold(reader.Number())
	case wasRelease:
		s.Release(reader.Number())
	case wasDestroy:
		s.Destroy(readGuids(reader)...)
	case wasMark:
		s.Mark(reader.Number())
	case wasUnmark:
		s.Unmark(reader.Number())
	case wasReceive:
		s.Receive(reader.Text(reader.Left()))
	}
}

func readGuids(reader *wire.Reader) []int {
	var guids []int
	for reader.Left() > 0 {
		guids = append(guids, reader.Number())
	}
	return guids
}
