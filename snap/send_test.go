package snap_test

import (
	"encoding/binary"
	"hash/fnv"
	"strings"
	"testing"

	"tether/api"
	"tether/snap"
)

// withCheck lays the check behind a text, by another hand than the program's.
func withCheck(text string) string {
	sum := fnv.New32a()
	sum.Write([]byte(text))
	return string(binary.BigEndian.AppendUint32([]byte(text), sum.Sum32()))
}

func numbers(list ...int) string {
	var text []byte
	for _, number := range list {
		text = binary.BigEndian.AppendUint32(text, uint32(number))
	}
	return string(text)
}

// streamOf is a stream; each block that follows is its number in one byte, and its bytes.
func streamOf(from, to, time, blocks int, follow ...string) string {
	return withCheck("SND1" + numbers(from, to, time) + string([]byte{byte(blocks), byte(len(follow))}) + strings.Join(follow, ""))
}

func checkSend(t *testing.T, s *snap.Store, from, to int, want string, wantErrno api.Errno) {
	t.Helper()
	if text, errno := s.Send(from, to); text != want || errno != wantErrno {
		t.Errorf("Send(%d, %d) = %q, %d, want %q, %d", from, to, text, errno, want, wantErrno)
	}
}

// checkFollow looks at the numbers alone of the blocks that follow.
func checkFollow(t *testing.T, s *snap.Store, from, to int, want ...byte) {
	t.Helper()
	text, errno := s.Send(from, to)
	check(t, "Send", errno, api.OK)
	var got []byte
	for at := 18; at < len(text)-4; at += 5 {
		got = append(got, text[at])
	}
	if string(got) != string(want) {
		t.Errorf("Send(%d, %d) has the blocks %v, want %v", from, to, got, want)
	}
}

func TestP8TheExample(t *testing.T) {
	s := newStore(t, 7, 2)
	s.Write(0, "aaaa")
	checkSnap(t, s, 5, 7000001, api.OK)
	s.Write(1, "bbbb")
	checkSnap(t, s, 6, 7000002, api.OK)
	want := "SND1" + string([]byte{0, 106, 207, 193, 0, 106, 207, 194, 0, 0, 0, 6, 2, 1, 1}) + "bbbb"
	checkSend(t, s, 7000001, 7000002, withCheck(want), api.OK)
	check(t, "Mark", s.Mark(7000001), api.OK)
	checkSend(t, s, 7000001, 7000002, withCheck(want), api.OK)
	check(t, "Destroy", s.Destroy(7000001), api.OK)
	checkSend(t, s, 7000001, 7000002, withCheck(want), api.OK)
}

func TestP8TheWhole(t *testing.T) {
	s := newStore(t, api.MaxId, api.MaxBlocks)
	s.Write(15, "last")
	guid, _ := s.Snap(api.MaxTime)
	s.Write(0, "late")
	var follow []string
	for block := range api.MaxBlocks {
		follow = append(follow, string([]byte{byte(block)})+zeros)
	}
	follow[15] = "\x0flast"
	checkSend(t, s, 0, guid, streamOf(0, guid, api.MaxTime, api.MaxBlocks, follow...), api.OK)
	small := newStore(t, 1, 1)
	guid, _ = small.Snap(0)
	checkSend(t, small, 0, guid, streamOf(0, guid, 0, 1, "\x00"+zeros), api.OK)
}

func TestP8WhatWasWrittenBetween(t *testing.T) {
	s := newStore(t, 7, 4)
	s.Write(0, "aaaa")
	s.Write(3, "dddd")
	a, _ := s.Snap(1)
	s.Write(3, "eeee")
	s.Write(1, "bbbb")
	b, _ := s.Snap(2)
	c, _ := s.Snap(1)
	s.Write(1, "cccc")
	d, _ := s.Snap(9)
	s.Write(2, "ffff")
	s.Write(3, "ffff")
	checkSend(t, s, a, b, streamOf(a, b, 2, 4, "\x01bbbb", "\x03eeee"), api.OK)
	checkSend(t, s, a, c, streamOf(a, c, 1, 4, "\x01bbbb", "\x03eeee"), api.OK)
	checkSend(t, s, b, c, streamOf(b, c, 1, 4), api.OK)
	checkSend(t, s, c, d, streamOf(c, d, 9, 4, "\x01cccc"), api.OK)
	checkSend(t, s, a, d, streamOf(a, d, 9, 4, "\x01cccc", "\x03eeee"), api.OK)
	checkSend(t, s, 0, a, streamOf(0, a, 1, 4, "\x00aaaa", "\x01"+zeros, "\x02"+zeros, "\x03dddd"), api.OK)
	// What was written ahead of a snapshot that is gone was written all the same.
	s.Destroy(b, c)
	checkSend(t, s, a, d, streamOf(a, d, 9, 4, "\x01cccc", "\x03eeee"), api.OK)
}

func TestP8WithWhateverBytes(t *testing.T) {
	s := newStore(t, 7, 3)
	s.Write(1, "same")
	a, _ := s.Snap(1)
	s.Write(0, zeros)
	s.Write(1, "same")
	b, _ := s.Snap(2)
	s.Write(1, "else")
	s.Write(1, "same")
	c, _ := s.Snap(3)
	s.Write(2, "long!")
	s.Write(3, "none")
	d, _ := s.Snap(4)
	checkSend(t, s, a, b, streamOf(a, b, 2, 3, "\x00"+zeros, "\x01same"), api.OK)
	checkSend(t, s, b, c, streamOf(b, c, 3, 3, "\x01same"), api.OK)
	checkSend(t, s, c, d, streamOf(c, d, 4, 3), api.OK)
}

func TestP8FromAMark(t *testing.T) {
	s := newStore(t, 7, 3)
	s.Write(0, "aaaa")
	guids := takeSnaps(t, s, 1)
	s.Write(1, "bbbb")
	guids = append(guids, takeSnaps(t, s, 1)...)
	s.Write(2, "cccc")
	guids = append(guids, takeSnaps(t, s, 1)...)
	s.Mark(guids[0])
	s.Mark(guids[1])
	s.Mark(guids[2])
	s.Destroy(guids[0], guids[1])
	checkFollow(t, s, guids[0], guids[2], 1, 2)
	checkFollow(t, s, guids[1], guids[2], 2)
	checkSend(t, s, guids[2], guids[2], "", api.ErrArg)
	checkSend(t, s, 0, guids[1], "", api.ErrNone)
	checkSend(t, s, guids[0], guids[1], "", api.ErrNone)
	s.Unmark(guids[0])
	checkSend(t, s, guids[0], guids[2], "", api.ErrNone)
	checkFollow(t, s, guids[1], guids[2], 2)
}

func TestP8SendRefuses(t *testing.T) {
	s := newStore(t, 7, 1)
	guids := takeSnaps(t, s, 4)
	a, b, gone, marked := guids[0], guids[1], guids[2], guids[3]
	s.Mark(marked)
	s.Destroy(gone, marked)
	for _, none := range append(odd, gone) {
		if none == a || none == b {
			continue
		}
		checkSend(t, s, a, none, "", api.ErrNone)
		checkSend(t, s, 0, none, "", api.ErrNone)
		checkSend(t, s, marked, none, "", api.ErrNone)
		checkSend(t, s, none, none, "", api.ErrNone)
		if none != 0 {
			checkSend(t, s, none, a, "", api.ErrNone)
		}
	}
	checkSend(t, s, 0, marked, "", api.ErrNone)
	checkSend(t, s, a, marked, "", api.ErrNone)
	checkSend(t, s, marked, marked, "", api.ErrNone)
	checkSend(t, s, a, a, "", api.ErrArg)
	checkSend(t, s, b, a, "", api.ErrArg)
	checkSend(t, s, marked, b, "", api.ErrArg)
	s.Mark(b)
	checkSend(t, s, b, a, "", api.ErrArg)
	checkSend(t, s, b, b, "", api.ErrArg)
	checkSend(t, newStore(t, 7, 1), 0, 0, "", api.ErrNone)
}

// What came first counts, neither the guid nor the time.
func TestP8InTheOrderOfComing(t *testing.T) {
	s := newStore(t, 7, 1)
	checkReceive(t, s, streamOf(0, 9000001, 90, 1, "\x00aaaa"), 9000001, api.OK)
	checkReceive(t, s, streamOf(9000001, 5, 1, 1, "\x00bbbb"), 5, api.OK)
	checkSend(t, s, 9000001, 5, streamOf(9000001, 5, 1, 1, "\x00bbbb"), api.OK)
	checkSend(t, s, 5, 9000001, "", api.ErrArg)
	s.Mark(9000001)
	s.Mark(5)
	s.Destroy(9000001)
	checkSend(t, s, 9000001, 5, streamOf(9000001, 5, 1, 1, "\x00bbbb"), api.OK)
	checkSnap(t, s, 2, 7000001, api.OK)
	s.Destroy(5)
	// Behind its mark there may come another one of the guid: then this is when it came.
	s.Unmark(5)
	checkReceive(t, s, streamOf(7000001, 5, 1, 1), 5, api.OK)
	checkSend(t, s, 5, 7000001, "", api.ErrArg)
	checkSend(t, s, 7000001, 5, streamOf(7000001, 5, 1, 1), api.OK)
}

// What was received is sent on as it came.
func TestP8WhatAStreamHad(t *testing.T) {
	s := newStore(t, 7, 3)
	whole := streamOf(0, 9000001, 1, 3, "\x00aaaa", "\x01bbbb", "\x02cccc")
	some := streamOf(9000001, 9000002, 2, 3, "\x00aaaa", "\x02eeee")
	none := streamOf(9000002, 9000003, 2, 3)
	checkReceive(t, s, whole, 9000001, api.OK)
	checkReceive(t, s, some, 9000002, api.OK)
	checkReceive(t, s, none, 9000003, api.OK)
	checkSend(t, s, 0, 9000001, whole, api.OK)
	checkSend(t, s, 9000001, 9000002, some, api.OK)
	checkSend(t, s, 9000002, 9000003, none, api.OK)
	checkSend(t, s, 9000001, 9000003, streamOf(9000001, 9000003, 2, 3, "\x00aaaa", "\x02eeee"), api.OK)
	s.Write(1, "ffff")
	checkSnap(t, s, 3, 7000001, api.OK)
	checkSend(t, s, 9000001, 7000001, streamOf(9000001, 7000001, 3, 3, "\x00aaaa", "\x01ffff", "\x02eeee"), api.OK)
	checkSend(t, s, 9000002, 7000001, streamOf(9000002, 7000001, 3, 3, "\x01ffff"), api.OK)
}

func TestP8WhatWasTakenBackDoesNotCount(t *testing.T) {
	s := newStore(t, 7, 6)
	first, _ := s.Snap(1)
	s.Write(0, "kept")
	base, _ := s.Snap(2)
	s.Write(0, "lost")
	s.Write(1, "lost")
	s.Write(2, "lost")
	gone, _ := s.Snap(3)
	s.Mark(gone)
	s.Destroy(gone)
	s.Write(3, "lost")
	checkReceive(t, s, streamOf(base, 9000001, 4, 6, "\x02come"), 9000001, api.OK)
	checkFollow(t, s, base, 9000001, 2)
	checkFollow(t, s, first, 9000001, 0, 2)
	checkFollow(t, s, gone, 9000001, 2)
	// The volume goes on from there.
	s.Write(4, "then")
	late, _ := s.Snap(5)
	checkFollow(t, s, base, late, 2, 4)
	checkFollow(t, s, 9000001, late, 4)
	// So it is with what a stream had that was taken back by another.
	s.Destroy(9000001, late)
	checkReceive(t, s, streamOf(base, 9000002, 4, 6, "\x05come"), 9000002, api.OK)
	checkFollow(t, s, base, 9000002, 5)
	checkFollow(t, s, first, 9000002, 0, 5)
}

// A mark outlives all snapshots: behind a whole stream all blocks were written.
func TestP8FromAMarkAcrossAWholeStream(t *testing.T) {
	s := newStore(t, 7, 2)
	guid, _ := s.Snap(1)
	s.Mark(guid)
	s.Destroy(guid)
	checkReceive(t, s, streamOf(0, 9000001, 1, 2, "\x00aaaa", "\x01"+zeros), 9000001, api.OK)
	checkFollow(t, s, guid, 9000001, 0, 1)
}

// A copy that takes in each stream has each block of each snapshot.
func TestP8CopiesByStreams(t *testing.T) {
	s, copied := newStore(t, 7, 3), newStore(t, 8, 3)
	last := 0
	for n := range 40 {
		for block := range n % 4 {
			s.Write((n+block)%3, numbers(n*n))
		}
		guid, errno := s.Snap(n)
		check(t, "Snap", errno, api.OK)
		text, errno := s.Send(last, guid)
		check(t, "Send", errno, api.OK)
		checkReceive(t, copied, text, guid, api.OK)
		for block := range 3 {
			was, _ := s.At(guid, block)
			checkAt(t, copied, guid, block, was, api.OK)
			checkRead(t, copied, block, was, api.OK)
		}
		if last != 0 {
			s.Mark(guid)
			s.Unmark(last)
			s.Destroy(guid)
			copied.Destroy(last)
		}
		last = guid
	}
}
