package snap_test

import (
	"strings"
	"testing"

	"tether/api"
	"tether/snap"
)

const maxGuid = 999999999

func checkReceive(t *testing.T, s *snap.Store, text string, want int, wantErrno api.Errno) {
	t.Helper()
	if guid, errno := s.Receive(text); guid != want || errno != wantErrno {
		t.Errorf("Receive(%q) = %d, %d, want %d, %d", text, guid, errno, want, wantErrno)
	}
}

func TestP9TheVolumeIsAsAtTheBase(t *testing.T) {
	s := newStore(t, 1, 3)
	s.Write(0, "lost")
	checkReceive(t, s, streamOf(0, 9000001, 5, 3, "\x00aaaa", "\x01bbbb", "\x02"+zeros), 9000001, api.OK)
	checkRead(t, s, 0, "aaaa", api.OK)
	checkRead(t, s, 1, "bbbb", api.OK)
	checkRead(t, s, 2, zeros, api.OK)
	s.Write(0, "lost")
	s.Write(1, "lost")
	s.Write(2, "lost")
	checkReceive(t, s, streamOf(9000001, 8000007, 4, 3, "\x01cccc"), 8000007, api.OK)
	checkSnaps(t, s, api.Snapshot{Guid: 9000001, Time: 5}, api.Snapshot{Guid: 8000007, Time: 4})
	for block, want := range []string{"aaaa", "cccc", zeros} {
		checkRead(t, s, block, want, api.OK)
		checkAt(t, s, 8000007, block, want, api.OK)
	}
	checkAt(t, s, 9000001, 1, "bbbb", api.OK)
	checkMarks(t, s)
}

func TestP9TheBaseIsTheOneThatCameLastOfThoseThatAreThere(t *testing.T) {
	s := newStore(t, 1, 2)
	s.Write(0, "aaaa")
	first, _ := s.Snap(1)
	s.Write(0, "bbbb")
	second, _ := s.Snap(2)
	s.Mark(second)
	checkReceive(t, s, streamOf(first, 9000001, 3, 2, "\x01cccc"), 0, api.ErrBase)
	s.Destroy(second)
	checkReceive(t, s, streamOf(second, 9000001, 3, 2, "\x01cccc"), 0, api.ErrBase)
	checkReceive(t, s, streamOf(0, 9000001, 3, 2, "\x00dddd", "\x01cccc"), 0, api.ErrBase)
	checkReceive(t, s, streamOf(first, 9000001, 3, 2, "\x01cccc"), 9000001, api.OK)
	checkRead(t, s, 0, "aaaa", api.OK)
	checkRead(t, s, 1, "cccc", api.OK)
	s.Destroy(first, 9000001)
	// A mark is no base.
	checkReceive(t, s, streamOf(second, 9000002, 3, 2), 0, api.ErrBase)
	checkReceive(t, s, streamOf(9000001, 9000002, 3, 2), 0, api.ErrBase)
	checkReceive(t, s, streamOf(0, 9000002, 3, 2, "\x00dddd", "\x01"+zeros), 9000002, api.OK)
	checkRead(t, s, 0, "dddd", api.OK)
	checkRead(t, s, 1, zeros, api.OK)
	checkMarks(t, s, second)
}

func TestP9TheEdgesOfTheForm(t *testing.T) {
	for _, text := range []string{
		streamOf(0, 1, 0, 1, "\x00aaaa"),
		streamOf(0, maxGuid, api.MaxTime, 1, "\x00aaaa"),
		streamOf(0, maxGuid, 0, 1, "\x00"+zeros),
	} {
		s := newStore(t, 1, 1)
		if guid, errno := s.Receive(text); errno != api.OK || guid != s.Snaps()[0].Guid {
			t.Errorf("Receive(%q) = %d, %d", text, guid, errno)
		}
	}
	s := newStore(t, 1, api.MaxBlocks)
	var follow []string
	for block := range api.MaxBlocks {
		follow = append(follow, string([]byte{byte(block)})+"data")
	}
	checkReceive(t, s, streamOf(0, 1, 1, api.MaxBlocks, follow...), 1, api.OK)
	checkReceive(t, s, streamOf(1, maxGuid, 1, api.MaxBlocks, follow...), maxGuid, api.OK)
	checkReceive(t, s, streamOf(maxGuid, 2, 1, api.MaxBlocks, follow[15]), 2, api.OK)
	checkReceive(t, s, streamOf(2, 3, 1, api.MaxBlocks), 3, api.OK)
	for block := range api.MaxBlocks {
		checkAt(t, s, 3, block, "data", api.OK)
	}
}

// notStreams are texts that are nearly streams, in a store of two blocks.
func notStreams() []string {
	a, b := "\x00aaaa", "\x01bbbb"
	good := streamOf(0, 5, 5, 2, a, b)
	bare := good[:len(good)-4]
	return []string{
		"", "S", "SND1", strings.Repeat("\x00", 22), strings.Repeat("\xff", 300), good + "\x00", "\x00" + good, good + good, bare,
		withCheck("SND2" + bare[4:]), withCheck("snd1" + bare[4:]), withCheck(bare[4:]), withCheck(bare + "\x00"), withCheck(good), withCheck(""),
		streamOf(0, 0, 5, 2, a, b), streamOf(0, maxGuid+1, 5, 2, a, b), streamOf(0, 1<<31, 5, 2, a, b), streamOf(0, -1, 5, 2, a, b), streamOf(1, 0, 5, 2),
		streamOf(maxGuid+1, 5, 5, 2), streamOf(-1, 5, 5, 2), streamOf(1<<31, 5, 5, 2),
		streamOf(0, 5, api.MaxTime+1, 2, a, b), streamOf(0, 5, -1, 2, a, b),
		streamOf(5, 5, 5, 2), streamOf(5, 5, 5, 2, a),
		streamOf(0, 5, 5, 2), streamOf(0, 5, 5, 2, a), streamOf(0, 5, 5, 2, b), streamOf(0, 5, 5, 3, a, b), streamOf(0, 5, 5, 1, a, b),
		streamOf(1, 5, 5, 0), streamOf(0, 5, 5, 0), streamOf(1, 5, 5, 17), streamOf(1, 5, 5, 255),
		streamOf(0, 5, 5, 2, b, a), streamOf(1, 5, 5, 2, b, a), streamOf(0, 5, 5, 2, a, a), streamOf(1, 5, 5, 2, a, a), streamOf(1, 5, 5, 2, b, b),
		streamOf(1, 5, 5, 2, "\x02cccc"), streamOf(1, 5, 5, 2, a, "\xffcccc"), streamOf(0, 5, 5, 2, b, "\x02cccc"), streamOf(1, 5, 5, 16, "\x10cccc"),
		streamOf(1, 5, 5, 2, "\x00aaa"), streamOf(1, 5, 5, 2, "\x00aaaaa"), streamOf(1, 5, 5, 2, ""),
		withCheck("SND1" + numbers(1, 5, 5) + "\x02\x02" + a), withCheck("SND1" + numbers(1, 5, 5) + "\x02\x01" + a + b), withCheck("SND1" + numbers(1, 5, 5) + "\x02"),
	}
}

func TestP9WhatIsNotOfTheForm(t *testing.T) {
	s := newStore(t, 1, 2)
	s.Write(0, "kept")
	good := streamOf(0, 9000001, 5, 2, "\x00aaaa", "\x01bbbb")
	for _, text := range notStreams() {
		checkReceive(t, s, text, 0, api.ErrForm)
	}
	for i := range good {
		checkReceive(t, s, good[:i], 0, api.ErrForm)
		for add := 1; add < 256; add++ {
			broken := []byte(good)
			broken[i] += byte(add)
			checkReceive(t, s, string(broken), 0, api.ErrForm)
		}
	}
	checkRead(t, s, 0, "kept", api.OK)
	checkSnaps(t, s)
	checkReceive(t, s, good, 9000001, api.OK)
	for _, text := range notStreams() {
		checkReceive(t, s, text, 0, api.ErrForm)
	}
}

func TestP9WhatIsThereAlready(t *testing.T) {
	s := newStore(t, 1, 1)
	guids := takeSnaps(t, s, 3)
	s.Mark(guids[0])
	s.Mark(guids[1])
	s.Destroy(guids[0])
	for _, dup := range guids {
		checkReceive(t, s, streamOf(0, dup, 9, 1, "\x00aaaa"), 0, api.ErrDup)
		checkReceive(t, s, streamOf(5, dup, 9, 1, "\x00aaaa"), 0, api.ErrDup)
	}
	checkReceive(t, s, streamOf(guids[2], guids[0], 9, 1), 0, api.ErrDup)
	s.Unmark(guids[0])
	checkReceive(t, s, streamOf(guids[2], guids[0], 9, 1), guids[0], api.OK)
	checkGuids(t, s, guids[1], guids[2], guids[0])
}

// Of several errors that apply the one named first is the answer.
func TestP9TheOrderOfTheErrors(t *testing.T) {
	s := newStore(t, 1, 2)
	guids := takeSnaps(t, s, api.MaxSnaps)
	last := guids[api.MaxSnaps-1]
	broken := []byte(streamOf(last, guids[0], 9, 3))
	broken[len(broken)-1]++
	checkReceive(t, s, string(broken), 0, api.ErrForm)
	checkReceive(t, s, streamOf(last, guids[0], 9, 3), 0, api.ErrBase)
	checkReceive(t, s, streamOf(last, guids[0], 9, 1), 0, api.ErrBase)
	checkReceive(t, s, streamOf(last, guids[0], 9, 2), 0, api.ErrDup)
	checkReceive(t, s, streamOf(guids[1], guids[0], 9, 2), 0, api.ErrDup)
	checkReceive(t, s, streamOf(guids[1], 9000001, 9, 2), 0, api.ErrBase)
	checkReceive(t, s, streamOf(0, 9000001, 9, 2, "\x00aaaa", "\x01bbbb"), 0, api.ErrBase)
	checkReceive(t, s, streamOf(9000002, 9000001, 9, 2), 0, api.ErrBase)
	checkReceive(t, s, streamOf(last, 9000001, 9, 2), 0, api.ErrFull)
	checkGuids(t, s, guids...)
	s.Destroy(guids[0])
	checkReceive(t, s, streamOf(last, 9000001, 9, 2), 9000001, api.OK)
	checkReceive(t, s, streamOf(9000001, 9000002, 9, 2), 0, api.ErrFull)
	empty := newStore(t, 1, 2)
	checkReceive(t, empty, streamOf(0, 9000001, 9, 1, "\x00aaaa"), 0, api.ErrBase)
	checkReceive(t, empty, streamOf(9000002, 9000001, 9, 2), 0, api.ErrBase)
}

// What was received is held, marked and destroyed as any other.
func TestP9AStoreThatHasReceivedIsAStore(t *testing.T) {
	s := newStore(t, 7, 1)
	checkReceive(t, s, streamOf(0, 9000001, 5, 1, "\x00aaaa"), 9000001, api.OK)
	check(t, "Release", s.Release(9000001), api.ErrArg)
	check(t, "Hold", s.Hold(9000001), api.OK)
	checkReceive(t, s, streamOf(9000001, 5000001, 6, 1), 5000001, api.OK)
	checkSnaps(t, s, api.Snapshot{Guid: 9000001, Time: 5, Holds: 1}, api.Snapshot{Guid: 5000001, Time: 6})
	check(t, "Destroy", s.Destroy(5000001, 9000001), api.ErrHeld)
	check(t, "Mark", s.Mark(5000001), api.OK)
	check(t, "Mark", s.Mark(9000001), api.OK)
	// The marks are in the order in which their snapshots came, which is not that of their guids.
	checkMarks(t, s, 9000001, 5000001)
	check(t, "Destroy", s.Destroy(5000001), api.OK)
	checkAt(t, s, 5000001, 0, "", api.ErrNone)
	checkSnap(t, s, 7, 7000001, api.OK)
	checkAt(t, s, 7000001, 0, "aaaa", api.OK)
}

// Snap skips a number whose guid came in a stream, and is there or marked.
func TestP9SnapSkipsWhatWasReceived(t *testing.T) {
	s := newStore(t, 7, 1)
	last := 0
	for _, guid := range []int{7000001, 7000003, 7000004, 7000006} {
		checkReceive(t, s, streamOf(last, guid, 5, 1, "\x00aaaa"), guid, api.OK)
		last = guid
	}
	s.Mark(7000004)
	s.Destroy(7000004, 7000006)
	checkSnap(t, s, 1, 7000002, api.OK)
	checkSnap(t, s, 1, 7000005, api.OK)
	checkSnap(t, s, 1, 7000006, api.OK)
	s.Destroy(7000006)
	checkSnap(t, s, 1, 7000007, api.OK)
	// One that was received is not one that was taken: the next number is above the last so taken.
	checkReceive(t, s, streamOf(7000007, 7999999, 5, 1), 7999999, api.OK)
	checkSnap(t, s, 1, 7000008, api.OK)
}

func TestP9StoresOfOneStreamAreApart(t *testing.T) {
	text := streamOf(0, 9000001, 5, 1, "\x00aaaa")
	s, other := newStore(t, 7, 1), newStore(t, 8, 1)
	checkReceive(t, s, text, 9000001, api.OK)
	checkReceive(t, other, text, 9000001, api.OK)
	other.Write(0, "else")
	checkRead(t, s, 0, "aaaa", api.OK)
	checkSnap(t, s, 1, 7000001, api.OK)
	checkGuids(t, other, 9000001)
}
