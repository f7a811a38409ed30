package snap_test

import (
	"math/rand"
	"slices"
	"strings"
	"testing"

	"tether/api"
	"tether/snap"
)

func open(t *testing.T, log string) *snap.Store {
	t.Helper()
	s, errno := snap.Open(log)
	if s == nil || errno != api.OK {
		t.Fatalf("Open(%q) = %v, %d", log, s, errno)
	}
	return s
}

func checkNoLog(t *testing.T, log string) {
	t.Helper()
	if s, errno := snap.Open(log); s != nil || errno != api.ErrForm {
		t.Errorf("Open(%q) = %v, %d", log, s, errno)
	}
}

// all is what can be seen of a store, with each stream that it can send, and its log.
type all struct {
	state
	sends []string
	log   string
}

func allOf(s *snap.Store, blocks int) all {
	seen := all{state: stateOf(s, blocks), log: s.Log()}
	froms := append(s.Marks(), 0)
	for _, to := range seen.snaps {
		froms = append(froms, to.Guid)
		for _, from := range froms {
			text, _ := s.Send(from, to.Guid)
			seen.sends = append(seen.sends, text)
		}
	}
	return seen
}

func (a all) same(b all) bool {
	return a.state.same(b.state) && slices.Equal(a.sends, b.sends) && a.log == b.log
}

// deed is a call that answers OK when it is done at its place.
type deed struct {
	name string
	do   func(s *snap.Store) api.Errno
}

func write(block int, data string) deed {
	return deed{"Write", func(s *snap.Store) api.Errno { return s.Write(block, data) }}
}

func take(time int) deed {
	return deed{"Snap", func(s *snap.Store) api.Errno { _, errno := s.Snap(time); return errno }}
}

func receive(text string) deed {
	return deed{"Receive", func(s *snap.Store) api.Errno { _, errno := s.Receive(text); return errno }}
}

func hold(guid int) deed {
	return deed{"Hold", func(s *snap.Store) api.Errno { return s.Hold(guid) }}
}

func release(guid int) deed {
	return deed{"Release", func(s *snap.Store) api.Errno { return s.Release(guid) }}
}

func destroy(guids ...int) deed {
	return deed{"Destroy", func(s *snap.Store) api.Errno { return s.Destroy(guids...) }}
}

func mark(guid int) deed {
	return deed{"Mark", func(s *snap.Store) api.Errno { return s.Mark(guid) }}
}

func unmark(guid int) deed {
	return deed{"Unmark", func(s *snap.Store) api.Errno { return s.Unmark(guid) }}
}

// deeds are calls of each kind, on a store of New(7, 3).
func deeds() []deed {
	return []deed{
		write(0, "aaaa"), write(2, zeros), write(0, "\xff\x00WN"), take(5), take(api.MaxTime), write(1, "bbbb"), take(0),
		hold(7000001), hold(7000001), hold(7000003), release(7000001), release(7000001), mark(7000003), mark(7000001),
		destroy(7000002, 7000001), unmark(7000003), write(2, "lost"), write(2, "lost"),
		receive(streamOf(7000003, 9000001, 9, 3, "\x01cccc")), write(0, "dddd"), take(10), mark(7000004), mark(9000001),
		receive(streamOf(7000004, 7000005, 9, 3)), take(11), take(12), destroy(7000004, 7000007), unmark(7000001), release(7000003),
		destroy(7000003, 9000001, 7000005, 7000006), write(1, "lost"),
		receive(streamOf(0, maxGuid, api.MaxTime, 3, "\x00aaaa", "\x01bbbb", "\x02cccc")), take(3), hold(7000008), write(1, "last"),
	}
}

// told does the deeds, and tells what was to be seen behind New and behind each of them.
func told(t *testing.T) []all {
	t.Helper()
	s := newStore(t, 7, 3)
	seen := []all{allOf(s, 3)}
	for _, one := range deeds() {
		check(t, one.name, one.do(s), api.OK)
		seen = append(seen, allOf(s, 3))
	}
	return seen
}

func TestP10TheLogGrowsAndStays(t *testing.T) {
	seen := told(t)
	if seen[0].log == "" {
		t.Error("behind New the log is empty")
	}
	for i, one := range deeds() {
		if before, after := seen[i].log, seen[i+1].log; len(after) <= len(before) || !strings.HasPrefix(after, before) {
			t.Errorf("behind call %d, %s, the log %q has become %q", i, one.name, before, after)
		}
	}
}

func TestP10OpenOfEachLength(t *testing.T) {
	seen := told(t)
	log := seen[len(seen)-1].log
	found := -1
	for length := range len(log) + 1 {
		for found+1 < len(seen) && len(seen[found+1].log) <= length {
			found++
		}
		if found < 0 {
			checkNoLog(t, log[:length])
			continue
		}
		if got := allOf(open(t, log[:length]), 3); !got.same(seen[found]) {
			t.Fatalf("of %d bytes: it is %v, want %v", length, got, seen[found])
		}
	}
}

// A store that was found goes on as the one that it was, also where it was cut off.
func TestP10WhatWasFoundGoesOn(t *testing.T) {
	seen := told(t)
	whole := seen[len(seen)-1]
	for i := range seen {
		length := len(seen[i].log)
		if i+1 < len(seen) {
			length = len(seen[i+1].log) - 1
		}
		s := open(t, whole.log[:length])
		for _, one := range deeds()[i:] {
			check(t, one.name+" behind Open", one.do(s), api.OK)
		}
		if got := allOf(s, 3); !got.same(whole) {
			t.Fatalf("opened behind call %d: it is %v, want %v", i, got, whole)
		}
	}
}

func TestP10RefusalsAndQuestionsLeaveTheLog(t *testing.T) {
	s := newStore(t, 7, 2)
	guid, _ := s.Snap(1)
	other, _ := s.Snap(1)
	s.Hold(other)
	before := s.Log()
	s.Write(2, "aaaa")
	s.Write(0, "aaa")
	s.Snap(-1)
	s.Hold(5)
	s.Release(guid)
	s.Release(5)
	s.Destroy(5)
	s.Destroy(guid, guid)
	s.Destroy(guid, other)
	s.Mark(5)
	s.Unmark(guid)
	s.Receive("")
	s.Receive(streamOf(0, guid, 1, 2, "\x00aaaa", "\x01bbbb"))
	s.Receive(streamOf(other, 5, 1, 3))
	s.Read(0)
	s.At(guid, 0)
	s.Snaps()
	s.Marks()
	s.Send(guid, other)
	s.Send(other, guid)
	s.Log()
	if after := s.Log(); after != before {
		t.Errorf("the log %q has become %q", before, after)
	}
}

func TestP10DestroyOfNothingAndMarkOfWhatIsMarked(t *testing.T) {
	s := newStore(t, 7, 1)
	guid, _ := s.Snap(1)
	check(t, "Mark", s.Mark(guid), api.OK)
	before := s.Log()
	check(t, "Mark of what is marked", s.Mark(guid), api.OK)
	check(t, "Destroy of nothing", s.Destroy(), api.OK)
	if !strings.HasPrefix(s.Log(), before) {
		t.Errorf("the log %q has become %q", before, s.Log())
	}
	check(t, "Destroy", s.Destroy(guid), api.OK)
	check(t, "Mark of what is marked and gone", s.Mark(guid), api.OK)
	check(t, "Write", s.Write(0, "aaaa"), api.OK)
	if want := allOf(s, 1); !allOf(open(t, s.Log()), 1).same(want) {
		t.Errorf("Open(%q) is not %v", s.Log(), want)
	}
}

// What Snap has given out is not given out again, also if there is no trace of it but in the log.
func TestP10NumbersGoOn(t *testing.T) {
	s := newStore(t, 7, 1)
	guids := takeSnaps(t, s, 3)
	s.Destroy(guids...)
	found := open(t, s.Log())
	checkSnaps(t, found)
	checkSnap(t, found, 1, 7000004, api.OK)
}

func TestP10WhatWasFoundIsApart(t *testing.T) {
	s := newStore(t, 7, 1)
	s.Write(0, "aaaa")
	guid, _ := s.Snap(1)
	log := s.Log()
	a, b := open(t, log), open(t, log)
	s.Write(0, "ssss")
	a.Write(0, "bbbb")
	a.Destroy(guid)
	s.Hold(guid)
	checkRead(t, s, 0, "ssss", api.OK)
	checkRead(t, a, 0, "bbbb", api.OK)
	checkRead(t, b, 0, "aaaa", api.OK)
	checkSnaps(t, s, api.Snapshot{Guid: guid, Time: 1, Holds: 1})
	checkSnaps(t, a)
	checkSnaps(t, b, api.Snapshot{Guid: guid, Time: 1})
	if b.Log() != log || a.Log() == log || s.Log() == log {
		t.Errorf("the logs are %q, %q and %q", s.Log(), a.Log(), b.Log())
	}
}

func TestP10EachStoreThatMayBe(t *testing.T) {
	for _, id := range []int{1, 2, 255, 256, api.MaxId} {
		for _, blocks := range []int{1, 2, api.MaxBlocks} {
			s := newStore(t, id, blocks)
			s.Write(blocks-1, "last")
			s.Snap(1)
			found := open(t, s.Log())
			if !allOf(found, blocks).same(allOf(s, blocks)) {
				t.Errorf("of New(%d, %d): %v", id, blocks, allOf(found, blocks))
			}
			checkRead(t, found, blocks, "", api.ErrArg)
			checkSnap(t, found, 1, id*api.Thousands+2, api.OK)
		}
	}
}

// The longest entries: the whole of the greatest volume, and all snapshots at once.
func TestP10TheLongestCalls(t *testing.T) {
	s := newStore(t, 7, api.MaxBlocks)
	var follow []string
	for block := range api.MaxBlocks {
		follow = append(follow, string([]byte{byte(block)})+"data")
	}
	checkReceive(t, s, streamOf(0, maxGuid, api.MaxTime, api.MaxBlocks, follow...), maxGuid, api.OK)
	takeSnaps(t, s, api.MaxSnaps-1)
	check(t, "Destroy", s.Destroy(guidsOf(s)...), api.OK)
	s.Write(0, "late")
	before := len(s.Log())
	if !allOf(open(t, s.Log()), api.MaxBlocks).same(allOf(s, api.MaxBlocks)) {
		t.Errorf("Open(%q) is another store", s.Log())
	}
	if cut := open(t, s.Log()[:before-1]); cut.Log() == s.Log() || !strings.HasPrefix(s.Log(), cut.Log()) {
		t.Errorf("cut off the log is %q", cut.Log())
	}
}

// checkSome opens a text that is no log: there is an error, or a store as any other.
func checkSome(t *testing.T, text string) {
	t.Helper()
	s, errno := snap.Open(text)
	if errno != api.OK {
		checkNoLog(t, text)
		return
	}
	if s == nil {
		t.Fatalf("Open(%q) = nil, OK", text)
	}
	if want := allOf(s, api.MaxBlocks); !allOf(open(t, s.Log()), api.MaxBlocks).same(want) {
		t.Errorf("Open(%q) told the log %q, which is of another store", text, s.Log())
	}
	if !strings.HasPrefix(text, s.Log()) {
		t.Errorf("Open(%q) told the log %q, which was not found there", text, s.Log())
	}
	if len(s.Snaps()) > api.MaxSnaps || len(s.Marks()) > api.MaxMarks {
		t.Errorf("Open(%q) has %v and %v", text, s.Snaps(), s.Marks())
	}
	s.Snap(1)
}

func TestP10OtherTexts(t *testing.T) {
	for _, text := range []string{"", "junk", "\x00", "\x01", "\xff", zeros, strings.Repeat("\xff", 1000), strings.Repeat("\x00", 1000), strings.Repeat("\x05", 1000)} {
		checkSome(t, text)
	}
	seen := told(t)
	first, log := seen[0].log, seen[len(seen)-1].log
	checkSome(t, log[len(first):])
	checkSome(t, first+first+log)
	checkSome(t, log+log)
	for length := range 256 {
		for kind := range 256 {
			checkSome(t, first+string([]byte{byte(length), byte(kind)})+strings.Repeat("\x00", 256))
		}
	}
	dice := rand.New(rand.NewSource(1))
	for i := range log {
		for range 20 {
			broken := []byte(log)
			broken[i] += byte(1 + dice.Intn(255))
			checkSome(t, string(broken))
		}
		checkSome(t, log[:i]+log[i+1:])
		checkSome(t, log[:i]+"\x00"+log[i:])
	}
}

func FuzzP10Open(f *testing.F) {
	s, _ := snap.New(7, 3)
	for _, one := range deeds() {
		one.do(s)
	}
	f.Add(s.Log())
	f.Add("")
	f.Fuzz(func(t *testing.T, text string) { checkSome(t, text) })
}

// The log of a store that several ask at once tells what it became.
func TestP10TheLogOfSeveralAtOnce(t *testing.T) {
	s := newStore(t, 7, api.MaxBlocks)
	atOnce(8, func(number int) {
		for range 100 {
			s.Write(number, "data")
			if guid, errno := s.Snap(number); errno == api.OK {
				s.Mark(guid)
				s.Hold(guid)
				s.Release(guid)
				text, _ := s.Send(0, guid)
				s.Receive(text)
				s.Unmark(guid)
				s.Destroy(guid)
			}
			open(t, s.Log())
		}
	})
	if want := allOf(s, api.MaxBlocks); !allOf(open(t, s.Log()), api.MaxBlocks).same(want) {
		t.Errorf("Open is not %v", want)
	}
}
