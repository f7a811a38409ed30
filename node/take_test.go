package node_test

import (
	"math/rand"
	"slices"
	"testing"

	"tether/api"
	"tether/node"
)

const none = "\x00\x00\x00\x00" // the bytes of a block that was never written

// asking is a plain source of one block, and with so many replicas, that has asked each of them, at the time 10: there is 1000001.
func asking(t *testing.T, peers int) *node.Source {
	t.Helper()
	s := newSource(t, like(func(c *api.Config) { c.Peers, c.Blocks = peers, 1 }))
	quiet(t, s, 9)
	var want []api.Letter
	for peer := range peers {
		want = append(want, ask(peer, 1))
	}
	checkTick(t, s, want...)
	return s
}

// first is the stream of all of 1000001 of such a source.
var first = streamOf(0, 1000001, 10, 1, "\x00"+none)

// sending is such a source with one replica, to which it has sent 1000001.
func sending(t *testing.T) *node.Source {
	t.Helper()
	s := asking(t, 1)
	checkTake(t, s, 0, has(0, 1, 0), data(0, 2, first))
	return s
}

// settled is such a source with one replica, of which it knows that it has 1000001.
func settled(t *testing.T) *node.Source {
	t.Helper()
	s := sending(t)
	checkTake(t, s, 0, got(0, 2, 1000001))
	checkKnown(t, s, 1000001)
	return s
}

func checkHolds(t *testing.T, s *node.Source, guid, want int) {
	t.Helper()
	if got := holdsOf(s.Store(), guid); got != want {
		t.Errorf("%d is held %d times, want %d", guid, got, want)
	}
}

// ignored are letters of which nothing may come, in a source of one replica that waits for an answer to this letter.
func ignored(number int) []string {
	texts := append(notToReplicas(), letterOf('A', 0, number, ""), letterOf('D', 0, number, first),
		letterOf('H', 0, number, ""), letterOf('H', 0, number, "\x00\x00\x00"), letterOf('H', 0, number, none+"\x00"),
		letterOf('G', 0, number, ""), letterOf('G', 0, number, "\x00\x0f\x42"), letterOf('G', 0, number, numberOf(1000001)+"\x00"),
		letterOf('h', 0, number, none), letterOf('g', 0, number, numberOf(1000001)))
	for _, guid := range []int{0, 7, 1000001} {
		for _, other := range []int{0, number - 1, number + 1, number + 256, number + 1<<16, number + 1<<24, number << 8, 1<<32 - 1} {
			if other != number {
				texts = append(texts, has(0, other, guid), got(0, other, guid))
			}
		}
		for _, peer := range []int{1, 2, 3, 255} {
			texts = append(texts, has(peer, number, guid), got(peer, number, guid))
		}
	}
	return slices.DeleteFunc(texts, func(text string) bool {
		return text == has(0, number, 0) || text == has(0, number, 1000001) || text == got(0, number, 1000001)
	})
}

// checkIgnored sees that of these letters nothing comes, neither at once nor later: the source goes on as one like it.
func checkIgnored(t *testing.T, s, alike *node.Source, peer int, texts ...string) {
	t.Helper()
	before := s.Store().Log()
	for _, text := range texts {
		checkTake(t, s, peer, text)
	}
	if s.Store().Log() != before {
		t.Error("what is ignored has changed the store")
	}
	for range 50 {
		checkTick(t, s, alike.Tick()...)
	}
}

func TestP14OfOtherLettersNothingHappens(t *testing.T) {
	checkIgnored(t, asking(t, 1), asking(t, 1), 0, ignored(1)...)
	checkIgnored(t, sending(t), sending(t), 0, ignored(2)...)
	for _, make := range []func(*testing.T) *node.Source{
		func(t *testing.T) *node.Source { return newSource(t, plain) }, settled,
	} {
		for number := range 3 {
			// It does not wait.
			letters := append(ignored(number), has(0, number, 0), has(0, number, 1000001), got(0, number, 1000001))
			checkIgnored(t, make(t), make(t), 0, letters...)
		}
	}
}

func TestP14AnswersThatDoNotFitTheQuestion(t *testing.T) {
	checkIgnored(t, asking(t, 1), asking(t, 1), 0, got(0, 1, 1000001), got(0, 1, 0), got(0, 1, 7))
	checkIgnored(t, sending(t), sending(t), 0, got(0, 2, 0), got(0, 2, 7), got(0, 2, 1000002), got(0, 2, 1<<32-1))
}

func TestP14LettersOfAnotherReplica(t *testing.T) {
	for _, peer := range odd {
		if peer != 1 {
			checkIgnored(t, asking(t, 2), asking(t, 2), peer, has(1, 1, 0), has(1, 1, 1000001), got(1, 1, 1000001))
		}
	}
	for _, peer := range odd {
		if peer < 0 || peer > 1 {
			checkIgnored(t, asking(t, 2), asking(t, 2), peer, has(0, 1, 0), has(peer, 1, 0), has(2, 1, 0))
		}
	}
}

func TestP14WhatIsSentIsHeld(t *testing.T) {
	s := newSource(t, like(func(c *api.Config) { c.Peers = 3 }))
	s.Store().Write(1, "bbbb")
	quiet(t, s, 9)
	checkTick(t, s, ask(0, 1), ask(1, 1), ask(2, 1))
	stream := streamOf(0, 1000001, 10, 2, "\x00"+none, "\x01bbbb")
	for peer := range 3 {
		checkHolds(t, s, 1000001, peer)
		checkTake(t, s, peer, has(peer, 1, 0), data(peer, 2, stream))
		checkTake(t, s, peer, has(peer, 1, 0)) // twice: it is answered already
	}
	checkHolds(t, s, 1000001, 3)
	checkKnown(t, s, 0, 0, 0)
	checkMarks(t, s.Store())
	for peer := range 3 {
		checkTake(t, s, peer, got(peer, 2, 1000001))
		checkTake(t, s, peer, got(peer, 2, 1000001))
		checkHolds(t, s, 1000001, 2-peer)
		checkMarks(t, s.Store(), 1000001)
	}
	checkKnown(t, s, 1000001, 1000001, 1000001)
	quiet(t, s, 9)
}

func TestP14WhatChangedIsSent(t *testing.T) {
	s := settled(t)
	s.Store().Write(0, "bbbb")
	quiet(t, s, 9)
	checkTick(t, s, ask(0, 3)) // 20
	checkTake(t, s, 0, has(0, 3, 1000001), data(0, 4, streamOf(1000001, 1000002, 20, 1, "\x00bbbb")))
	checkTake(t, s, 0, got(0, 4, 1000002))
	quiet(t, s, 9)
	checkTick(t, s, ask(0, 5)) // 30: nothing was written
	checkTake(t, s, 0, has(0, 5, 1000002), data(0, 6, streamOf(1000002, 1000003, 30, 1)))
	checkKnown(t, s, 1000002)
	checkMarks(t, s.Store(), 1000002)
	checkHolds(t, s, 1000003, 1)
}

func TestP14AMarkIsEnoughToSendFrom(t *testing.T) {
	s := settled(t)
	check(t, "Destroy", s.Store().Destroy(1000001), api.OK)
	s.Store().Write(0, "bbbb")
	quiet(t, s, 9)
	checkTick(t, s, ask(0, 3))
	checkTake(t, s, 0, has(0, 3, 1000001), data(0, 4, streamOf(1000001, 1000002, 20, 1, "\x00bbbb")))
	checkKnown(t, s, 1000001)
	checkMarks(t, s.Store(), 1000001)
}

// The aim stays what was sent, though there is a newer one.
func TestP14WhatWasSentIsSentAnew(t *testing.T) {
	s := sending(t)
	s.Store().Write(0, "bbbb")
	quiet(t, s, 2)
	checkTick(t, s, ask(0, 3)) // 13
	s.Store().Snap(14)
	checkTake(t, s, 0, has(0, 3, 0), data(0, 4, first))
	checkHolds(t, s, 1000001, 1)
	checkHolds(t, s, 1000002, 0)
	checkTake(t, s, 0, got(0, 4, 1000001))
	checkHolds(t, s, 1000001, 0)
	checkTick(t, s, ask(0, 5)) // there is a newer one
	checkTake(t, s, 0, has(0, 5, 1000001), data(0, 6, streamOf(1000001, 1000002, 14, 1, "\x00bbbb")))
}

func TestP14ItFindsOutThatWhatItSentCame(t *testing.T) {
	s := sending(t)
	quiet(t, s, 2)
	checkTick(t, s, ask(0, 3))
	checkTake(t, s, 0, has(0, 3, 1000001))
	checkHolds(t, s, 1000001, 0)
	checkKnown(t, s, 1000001)
	checkMarks(t, s.Store(), 1000001)
	quiet(t, s, 6)
	checkTick(t, s, ask(0, 4)) // 20
}

// What it sent came, and there is a newer one already: that is sent at once.
func TestP14ItGoesOnWithTheLastOne(t *testing.T) {
	s := sending(t)
	quiet(t, s, 2)
	checkTick(t, s, ask(0, 3)) // 13
	s.Store().Write(0, "bbbb")
	s.Store().Snap(14)
	checkTake(t, s, 0, has(0, 3, 1000001), data(0, 4, streamOf(1000001, 1000002, 14, 1, "\x00bbbb")))
	checkHolds(t, s, 1000001, 0)
	checkHolds(t, s, 1000002, 1)
	checkKnown(t, s, 1000001)
	checkMarks(t, s.Store(), 1000001)
}

// A late answer to the stream itself does not count once the source has asked anew.
func TestP14OnlyTheLastLetterIsAnswered(t *testing.T) {
	s := sending(t)
	quiet(t, s, 2)
	checkTick(t, s, ask(0, 3))
	checkTake(t, s, 0, got(0, 2, 1000001))
	checkKnown(t, s, 0)
	checkTake(t, s, 0, has(0, 1, 0))
	checkTake(t, s, 0, has(0, 3, 0), data(0, 4, first))
	checkTake(t, s, 0, got(0, 2, 1000001))
	checkKnown(t, s, 0)
	checkTake(t, s, 0, got(0, 4, 1000001))
	checkKnown(t, s, 1000001)
}

func TestP14ARefusedStream(t *testing.T) {
	for _, guid := range []int{0, 7, 1000001, 1<<32 - 1} {
		s := sending(t)
		checkTake(t, s, 0, has(0, 2, guid))
		checkHolds(t, s, 1000001, 1)
		checkKnown(t, s, 0)
		checkMarks(t, s.Store())
		// It waits no more, so it asks at once, with no try behind it.
		checkTake(t, s, 0, got(0, 2, 1000001))
		checkTick(t, s, ask(0, 3))
		quiet(t, s, 2)
		checkTick(t, s, ask(0, 4))
		checkTake(t, s, 0, has(0, 4, 0), data(0, 5, first))
		checkHolds(t, s, 1000001, 1)
		checkTake(t, s, 0, got(0, 5, 1000001))
		checkHolds(t, s, 1000001, 0)
		checkKnown(t, s, 1000001)
	}
}

// gaveUp sees that the source asks no more until there is another snapshot; that one it will take at the time 20.
func gaveUp(t *testing.T, s *node.Source, seconds int, number int) {
	t.Helper()
	checkTake(t, s, 0, has(0, number, 0)) // it waits no more
	quiet(t, s, seconds)
	checkTick(t, s, ask(0, number+1))
}

func TestP14ItGivesUp(t *testing.T) {
	for _, guid := range []int{7, 2000001, 1000002, 999999999, 1<<32 - 1} {
		s := asking(t, 1)
		checkTake(t, s, 0, has(0, 1, guid))
		checkHolds(t, s, 1000001, 0)
		checkKnown(t, s, 0)
		checkMarks(t, s.Store())
		gaveUp(t, s, 9, 1)
		checkTake(t, s, 0, has(0, 2, 0), data(0, 3, streamOf(0, 1000002, 20, 1, "\x00"+none)))
	}
}

func TestP14ItGivesUpWhatItSent(t *testing.T) {
	s := sending(t)
	s.Store().Snap(10)
	quiet(t, s, 2)
	checkTick(t, s, ask(0, 3)) // 13
	checkTake(t, s, 0, has(0, 3, 7))
	checkHolds(t, s, 1000001, 0)
	// It was for 1000002, which came last, not for 1000001, which it sent.
	gaveUp(t, s, 6, 3)
	checkTake(t, s, 0, has(0, 4, 0), data(0, 5, streamOf(0, 1000003, 20, 1, "\x00"+none)))
}

// The one for which it gave up is one: if it goes, that ahead of it is asked for.
func TestP14ItGaveUpForOneSnapshot(t *testing.T) {
	s := asking(t, 1)
	s.Store().Snap(10)
	checkTake(t, s, 0, has(0, 1, 7))
	quiet(t, s, 2)
	check(t, "Destroy", s.Store().Destroy(1000002), api.OK)
	checkTick(t, s, ask(0, 2))
}

func TestP14ItGivesUpWhatCanNotBeHeld(t *testing.T) {
	s := asking(t, 1)
	for range api.MaxHolds {
		check(t, "Hold", s.Store().Hold(1000001), api.OK)
	}
	checkTake(t, s, 0, has(0, 1, 0))
	checkHolds(t, s, 1000001, api.MaxHolds)
	gaveUp(t, s, 9, 1)
}

// What it sent already needs no other hold.
func TestP14WhatWasSentIsHeldOnce(t *testing.T) {
	s := sending(t)
	for range api.MaxHolds - 1 {
		check(t, "Hold", s.Store().Hold(1000001), api.OK)
	}
	quiet(t, s, 2)
	checkTick(t, s, ask(0, 3))
	checkTake(t, s, 0, has(0, 3, 0), data(0, 4, first))
	checkHolds(t, s, 1000001, api.MaxHolds)
	checkTake(t, s, 0, got(0, 4, 1000001))
	checkHolds(t, s, 1000001, api.MaxHolds-1)
}

// The replica has one that came to the source behind what it sent: it can't be sent from there.
func TestP14ItGivesUpWhatCanNotBeSent(t *testing.T) {
	s := sending(t)
	s.Store().Snap(11)
	quiet(t, s, 2)
	checkTick(t, s, ask(0, 3)) // 13
	checkTake(t, s, 0, has(0, 3, 1000002))
	checkKnown(t, s, 1000002)
	checkMarks(t, s.Store(), 1000002)
	checkHolds(t, s, 1000001, 0)
	gaveUp(t, s, 6, 3)
}

// Others took back the hold of what it sent, and destroyed it.
func TestP14WhatItSentIsGone(t *testing.T) {
	s := sending(t)
	s.Store().Snap(11)
	check(t, "Release", s.Store().Release(1000001), api.OK)
	check(t, "Destroy", s.Store().Destroy(1000001), api.OK)
	quiet(t, s, 2)
	checkTick(t, s, ask(0, 3))
	checkTake(t, s, 0, has(0, 3, 0))
	checkHolds(t, s, 1000002, 0)
	gaveUp(t, s, 6, 3)
}

func TestP14WhatItSentCameAndIsGone(t *testing.T) {
	s := sending(t)
	check(t, "Release", s.Store().Release(1000001), api.OK)
	check(t, "Destroy", s.Store().Destroy(1000001), api.OK)
	checkTake(t, s, 0, got(0, 2, 1000001))
	checkKnown(t, s, 1000001)
	checkMarks(t, s.Store())
	quiet(t, s, 9)
	checkTick(t, s, ask(0, 3))
	// There is neither a snapshot nor a mark of it.
	checkTake(t, s, 0, has(0, 3, 1000001))
	checkKnown(t, s, 1000001)
	gaveUp(t, s, 9, 3)
}

// What it sent is gone, but the replica has it: nothing is sent any more, and the last one is the aim.
func TestP14WhatItSentIsGoneButCame(t *testing.T) {
	s := sending(t)
	check(t, "Release", s.Store().Release(1000001), api.OK)
	check(t, "Destroy", s.Store().Destroy(1000001), api.OK)
	quiet(t, s, 2)
	checkTick(t, s, ask(0, 3)) // 13
	checkTake(t, s, 0, has(0, 3, 1000001))
	checkKnown(t, s, 0)
	gaveUp(t, s, 6, 3)
	checkTake(t, s, 0, has(0, 4, 0), data(0, 5, streamOf(0, 1000002, 20, 1, "\x00"+none)))
	checkHolds(t, s, 1000002, 1)
}

func TestP14WithoutASnapshotNothingIsSent(t *testing.T) {
	for _, guid := range []int{0, 7} {
		s := asking(t, 1)
		check(t, "Destroy", s.Store().Destroy(1000001), api.OK)
		checkTake(t, s, 0, has(0, 1, guid))
		checkKnown(t, s, 0)
		checkTake(t, s, 0, has(0, 1, guid)) // it waits no more
		quiet(t, s, 4)
		s.Store().Snap(15)
		checkTick(t, s, ask(0, 2))
	}
}

// The one that it gave up for was none: it has not given up for the one ahead any more.
func TestP14ItGaveUpForNone(t *testing.T) {
	s := asking(t, 1)
	s.Store().Snap(10)
	whole, _ := s.Store().Send(0, 1000002)
	checkTake(t, s, 0, has(0, 1, 7))
	quiet(t, s, 9)
	checkTick(t, s, ask(0, 2)) // 20: 1000003
	check(t, "Destroy", s.Store().Destroy(1000001, 1000002, 1000003), api.OK)
	checkTake(t, s, 0, has(0, 2, 7))
	quiet(t, s, 1)
	if _, errno := s.Store().Receive(whole); errno != api.OK {
		t.Fatalf("Receive = %d", errno)
	}
	checkTick(t, s, ask(0, 3))
}

// That a replica has as little as the source is no giving up: what it gave up for before stays so.
func TestP14ItHasStillGivenUp(t *testing.T) {
	s := asking(t, 1)
	whole, _ := s.Store().Send(0, 1000001)
	checkTake(t, s, 0, has(0, 1, 7))
	s.Store().Snap(10)
	checkTick(t, s, ask(0, 2))
	check(t, "Destroy", s.Store().Destroy(1000001, 1000002), api.OK)
	checkTake(t, s, 0, has(0, 2, 0))
	if _, errno := s.Store().Receive(whole); errno != api.OK {
		t.Fatalf("Receive = %d", errno)
	}
	quiet(t, s, 8)
	checkTick(t, s, ask(0, 3)) // 20
}

// It knows of one, and gave up for another, but there is none.
func TestP13WithoutASnapshotNothingIsAsked(t *testing.T) {
	s := settled(t)
	s.Store().Snap(11)
	checkTick(t, s, ask(0, 3))
	checkTake(t, s, 0, has(0, 3, 7))
	check(t, "Destroy", s.Store().Destroy(1000001, 1000002), api.OK)
	quiet(t, s, 8)
	checkTick(t, s, ask(0, 4)) // 20
}

func TestP14ComingToKnowMovesTheMark(t *testing.T) {
	s := asking(t, 2)
	s.Store().Snap(10)
	s.Store().Snap(10)
	s.Store().Mark(1000002) // by others
	checkTake(t, s, 0, has(0, 1, 1000001), data(0, 2, streamOf(1000001, 1000003, 10, 1)))
	checkTake(t, s, 1, has(1, 1, 1000001), data(1, 2, streamOf(1000001, 1000003, 10, 1)))
	checkMarks(t, s.Store(), 1000001, 1000002)
	checkKnown(t, s, 1000001, 1000001)
	checkTake(t, s, 0, got(0, 2, 1000003))
	checkKnown(t, s, 1000003, 1000001)
	checkMarks(t, s.Store(), 1000001, 1000002, 1000003) // the other replica is known to have it
	checkTake(t, s, 1, got(1, 2, 1000003))
	checkKnown(t, s, 1000003, 1000003)
	checkMarks(t, s.Store(), 1000002, 1000003)
}

func TestP14ComingToKnowItAgain(t *testing.T) {
	s := settled(t)
	quiet(t, s, 9)
	checkTick(t, s, ask(0, 3))
	checkTake(t, s, 0, has(0, 3, 1000001), data(0, 4, streamOf(1000001, 1000002, 20, 1)))
	checkKnown(t, s, 1000001)
	checkMarks(t, s.Store(), 1000001)
	// If others took the mark away, it is there again.
	check(t, "Unmark", s.Store().Unmark(1000001), api.OK)
	quiet(t, s, 2)
	checkTick(t, s, ask(0, 5))
	checkTake(t, s, 0, has(0, 5, 1000001), data(0, 6, streamOf(1000001, 1000002, 20, 1)))
	checkMarks(t, s.Store(), 1000001)
	check(t, "Unmark", s.Store().Unmark(1000001), api.OK)
	checkTake(t, s, 0, got(0, 6, 1000002))
	checkMarks(t, s.Store(), 1000002)
}

func TestP14WithoutRoomForAMark(t *testing.T) {
	s := settled(t)
	for range api.MaxMarks - 1 {
		guid, _ := s.Store().Snap(11)
		check(t, "Mark", s.Store().Mark(guid), api.OK)
		check(t, "Destroy", s.Store().Destroy(guid), api.OK)
	}
	quiet(t, s, 9)
	checkTick(t, s, ask(0, 3))
	guid := newestOf(s.Store())
	checkTake(t, s, 0, has(0, 3, 1000001), data(0, 4, streamOf(1000001, guid, 20, 1)))
	checkTake(t, s, 0, got(0, 4, guid))
	checkKnown(t, s, guid)
	if marks := s.Store().Marks(); len(marks) != api.MaxMarks-1 || slices.Contains(marks, guid) || slices.Contains(marks, 1000001) {
		t.Errorf("the marks are %v", marks)
	}
}

func TestP14Known(t *testing.T) {
	s := asking(t, 2)
	for _, peer := range odd {
		guid, errno := s.Known(peer)
		if peer == 0 || peer == 1 {
			check(t, "Known", errno, api.OK)
		} else {
			check(t, "Known", errno, api.ErrArg)
		}
		if guid != 0 {
			t.Errorf("Known(%d) = %d", peer, guid)
		}
	}
	checkTake(t, s, 1, has(1, 1, 1000001))
	checkKnown(t, s, 0, 1000001)
}

// What a replica has is known also if nothing can be sent to it.
func TestP14AnOlderOneIsKnown(t *testing.T) {
	s := settled(t)
	quiet(t, s, 9)
	checkTick(t, s, ask(0, 3))
	checkTake(t, s, 0, has(0, 3, 1000002))
	checkKnown(t, s, 1000002)
	quiet(t, s, 9)
	checkTick(t, s, ask(0, 4))
	checkTake(t, s, 0, has(0, 4, 1000001), data(0, 5, streamOf(1000001, 1000003, 30, 1)))
	checkKnown(t, s, 1000001)
	checkMarks(t, s.Store(), 1000001)
}

func TestP1AnyTextMayCome(t *testing.T) {
	dice := rand.New(rand.NewSource(1))
	s, r := asking(t, 3), newReplica(t, 2, 1, "1x1", 1)
	for range 20000 {
		text := make([]byte, dice.Intn(12))
		dice.Read(text)
		if len(text) > 5 && dice.Intn(4) > 0 {
			text[0] = "ADHG"[dice.Intn(4)]
			text[1] = byte(dice.Intn(4))
			copy(text[2:], "\x00\x00\x00")
			text[5] = byte(dice.Intn(8))
		}
		answers := s.Take(odd[dice.Intn(len(odd))], string(text))
		answers = append(answers, s.Take(dice.Intn(3), string(text))...)
		if dice.Intn(5) == 0 {
			answers = append(answers, s.Tick()...)
		}
		for _, letter := range answers {
			r.Take(letter.Text)
		}
		r.Take(string(text))
	}
}

func TestP2ListsOfLettersAreNewMemory(t *testing.T) {
	spoil := func(letters []api.Letter) {
		letters = letters[:cap(letters)]
		for i := range letters {
			letters[i] = api.Letter{To: 9, Text: "spoilt"}
		}
	}
	s, alike := asking(t, 3), asking(t, 3)
	for n := range 200 {
		letters := s.Tick()
		kept := slices.Clone(letters)
		checkTick(t, alike, letters...)
		more := s.Take(n%3, has(n%3, n/5, 0))
		checkTake(t, alike, n%3, has(n%3, n/5, 0), more...)
		if !slices.Equal(letters, kept) {
			t.Fatalf("%s became %s", tell(kept), tell(letters))
		}
		spoil(letters)
		spoil(more)
	}
}
