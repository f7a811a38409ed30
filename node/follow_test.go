package node_test

import (
	"math/rand"
	"slices"
	"sync"
	"sync/atomic"
	"testing"

	"tether/api"
	"tether/node"
	"tether/snap"
)

// mail is a letter on its way; back: from the replica to the source.
type mail struct {
	peer int
	back bool
	text string
}

// net is a source, its replicas, and the letters between.
type net struct {
	blocks   int
	source   *node.Source
	replicas []*node.Replica
	way      []mail
	was      map[int]string // the volume at each snapshot that the source ever took
	last     int            // the guid of the one that it took last
}

func anyGrid(dice *rand.Rand) string {
	return []string{"1x1", "2x5 2x20", "20x1", "1x4 2x30", "3x7 1x100"}[dice.Intn(5)]
}

func newNet(t *testing.T, dice *rand.Rand) *net {
	t.Helper()
	c := api.Config{Id: 1, Blocks: 1 + dice.Intn(4), Peers: 1 + dice.Intn(api.MaxPeers), Every: 1 + dice.Intn(5), Wait: 1 + dice.Intn(5), Grid: anyGrid(dice), Last: 1 + dice.Intn(api.MaxSnaps)}
	c.Cap = c.Wait + dice.Intn(20)
	n := &net{blocks: c.Blocks, source: newSource(t, c), was: map[int]string{}}
	for peer := range c.Peers {
		n.replicas = append(n.replicas, newReplica(t, 1+peer, c.Blocks, anyGrid(dice), 1+dice.Intn(api.MaxSnaps)))
	}
	return n
}

func (n *net) volume(s *snap.Store, guid int) string {
	volume := ""
	for block := range n.blocks {
		bytes, _ := s.At(guid, block)
		volume += bytes
	}
	return volume
}

func (n *net) post(letters []api.Letter) {
	for _, letter := range letters {
		n.way = append(n.way, mail{letter.To, false, letter.Text})
	}
}

func (n *net) tick() {
	n.post(n.source.Tick())
	if guid := newestOf(n.source.Store()); guid > n.last {
		n.last = guid
		n.was[guid] = n.volume(n.source.Store(), guid)
	}
}

func (n *net) write(dice *rand.Rand) {
	bytes := []byte("abcd")
	bytes[dice.Intn(4)] = byte(dice.Intn(256))
	n.source.Store().Write(dice.Intn(n.blocks), string(bytes))
}

// deliver delivers a letter; if it stays it comes once more, some day.
func (n *net) deliver(at int, stays bool) {
	letter := n.way[at]
	if !stays {
		n.lose(at)
	}
	if letter.back {
		n.post(n.source.Take(letter.peer, letter.text))
	} else if answer := n.replicas[letter.peer].Take(letter.text); answer != "" {
		n.way = append(n.way, mail{letter.peer, true, answer})
	}
}

func (n *net) lose(at int) {
	n.way = slices.Delete(n.way, at, at+1)
}

// deliverAll delivers at once what is on its way, and what comes of it.
func (n *net) deliverAll(t *testing.T) {
	t.Helper()
	for range 1000 {
		if len(n.way) == 0 {
			return
		}
		n.deliver(0, false)
	}
	t.Fatal("there is no end of letters")
}

// step lets something happen, drawn by the dice; letters are late, and come in any order, twice, or not at all.
func (n *net) step(dice *rand.Rand) {
	if len(n.way) > 40 {
		n.lose(dice.Intn(len(n.way)))
	}
	switch what := dice.Intn(9); {
	case what < 3:
		n.tick()
	case what == 3:
		n.write(dice)
	case len(n.way) == 0:
	case what == 4:
		n.lose(dice.Intn(len(n.way)))
	default:
		n.deliver(dice.Intn(len(n.way)), dice.Intn(3) == 0)
	}
}

// checkCopies sees that each snapshot of a replica is what it was on the source.
func (n *net) checkCopies(t *testing.T) {
	t.Helper()
	for peer, r := range n.replicas {
		for _, guid := range guidsOf(r.Store()) {
			if got := n.volume(r.Store(), guid); got != n.was[guid] {
				t.Fatalf("%d is %q on the replica %d, but was %q on the source", guid, got, peer, n.was[guid])
			}
		}
	}
}

// checkCommon sees that the source and each replica of which it knows something have a snapshot in common.
func (n *net) checkCommon(t *testing.T) {
	t.Helper()
	has := append(guidsOf(n.source.Store()), n.source.Store().Marks()...)
	for peer, r := range n.replicas {
		known, _ := n.source.Known(peer)
		isCommon := func(guid int) bool { return slices.Contains(has, guid) }
		if known != 0 && !slices.ContainsFunc(guidsOf(r.Store()), isCommon) {
			t.Fatalf("the source has %v, the replica %d has %v", has, peer, guidsOf(r.Store()))
		}
	}
}

// checkLast sees that each replica has the snapshot that the source took last, and that the source knows it.
func (n *net) checkLast(t *testing.T) {
	t.Helper()
	for peer, r := range n.replicas {
		known, _ := n.source.Known(peer)
		if newestOf(r.Store()) != n.last || known != n.last {
			t.Fatalf("the source took %d, the replica %d has %d, and is known to have %d", n.last, peer, newestOf(r.Store()), known)
		}
	}
}

// checkFew sees that the source holds and marks no more than it must: what it sent, and what it knows.
func (n *net) checkFew(t *testing.T) {
	t.Helper()
	holds := 0
	for _, one := range n.source.Store().Snaps() {
		holds += one.Holds
	}
	if holds > len(n.replicas) {
		t.Fatalf("there are %d holds for %d replicas", holds, len(n.replicas))
	}
	var known []int
	for peer := range n.replicas {
		if guid, _ := n.source.Known(peer); guid != 0 {
			known = append(known, guid)
		}
	}
	slices.Sort(known)
	if marks := n.source.Store().Marks(); !slices.Equal(marks, slices.Compact(known)) {
		t.Fatalf("the marks are %v, but known are %v", marks, known)
	}
}

func TestP15WhateverBecomesOfTheLetters(t *testing.T) {
	for seed := range int64(150) {
		dice := rand.New(rand.NewSource(seed))
		n := newNet(t, dice)
		for range 400 {
			n.step(dice)
			n.checkCopies(t)
			n.checkCommon(t)
			n.checkFew(t)
		}
		// From now on each letter is delivered; a minute is longer than the source waits for what is lost.
		for range 60 {
			n.write(dice)
			n.tick()
			n.deliverAll(t)
			n.checkCopies(t)
			n.checkCommon(t)
			n.checkFew(t)
		}
		n.checkLast(t)
		if n.last == 0 {
			t.Fatal("the source took no snapshot")
		}
	}
}

func TestP15IfEveryLetterIsDeliveredAtOnce(t *testing.T) {
	for seed := range int64(100) {
		dice := rand.New(rand.NewSource(seed))
		n := newNet(t, dice)
		for range 150 {
			for range dice.Intn(4) {
				n.write(dice)
			}
			n.tick()
			n.deliverAll(t)
			n.checkLast(t)
			n.checkCopies(t)
			n.checkCommon(t)
			n.checkFew(t)
		}
	}
}

// One replica is out of reach for so long that the source and the other one have thinned out all that there was.
func TestP15AReplicaThatWasAwayGoesOn(t *testing.T) {
	c := api.Config{Id: 1, Blocks: 2, Peers: 2, Every: 2, Wait: 1, Cap: 8, Grid: "1x1", Last: 1}
	n := &net{blocks: 2, source: newSource(t, c), was: map[int]string{}}
	for peer := range 2 {
		n.replicas = append(n.replicas, newReplica(t, 2+peer, 2, "1x1", 1))
	}
	n.source.Store().Write(0, "once")
	n.tick()
	n.tick()
	n.deliverAll(t)
	n.checkLast(t)
	for second := range 500 {
		n.source.Store().Write(1, numberOf(second))
		n.tick()
		n.way = slices.DeleteFunc(n.way, func(letter mail) bool { return letter.peer == 1 })
		n.deliverAll(t)
		n.checkCopies(t)
		n.checkCommon(t)
	}
	checkKnown(t, n.source, n.last, 1000001)
	checkGuids(t, n.replicas[1].Store(), 1000001)
	if marks := n.source.Store().Marks(); !slices.Equal(marks, []int{1000001, n.last}) {
		t.Errorf("the marks are %v", marks)
	}
	for range 10 {
		n.tick()
		for len(n.way) > 0 {
			// Block 0 was written but once: what was sent from the mark has it not.
			if text := n.way[0].text; text[0] == 'D' && n.way[0].peer == 1 && text[6+17] != 1 && text[6+17] != 0 {
				t.Errorf("the stream has %d blocks", text[6+17])
			}
			n.deliver(0, false)
		}
		n.checkCopies(t)
		n.checkCommon(t)
	}
	n.checkLast(t)
	checkAt(t, n.replicas[1].Store(), n.last, 0, "once")
	checkAt(t, n.replicas[1].Store(), n.last, 1, numberOf(499))
}

// meddle does to a store what others may, until it is told to stop.
func meddle(s *snap.Store, stop *atomic.Bool) {
	for n := 0; !stop.Load(); n++ {
		s.Write(0, "data")
		s.Snap(n)
		for _, guid := range guidsOf(s) {
			s.Mark(guid)
			s.Hold(guid)
			s.Release(guid)
			s.Destroy(guid)
			s.Unmark(guid)
		}
	}
}

// Nothing is promised then but that each call ends: a snapshot may go between two things that a node does.
func TestP1OthersMayAskTheStoresMeanwhile(t *testing.T) {
	dice := rand.New(rand.NewSource(1))
	n := newNet(t, dice)
	stores := []*snap.Store{n.source.Store()}
	for _, r := range n.replicas {
		stores = append(stores, r.Store())
	}
	var group sync.WaitGroup
	var stop atomic.Bool
	for _, store := range stores {
		group.Go(func() { meddle(store, &stop) })
	}
	for range 2000 {
		n.step(dice)
	}
	stop.Store(true)
	group.Wait()
}
