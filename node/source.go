package node

import (
	"slices"

	"tether/api"
	"tether/snap"
)

// Source is the node whose volume is written.
type Source struct {
	keeper
	every      int // seconds from snapshot to snapshot
	wait, most int // seconds that it waits for an answer, at first and at most
	time       int
	peers      []peer // by the number of the replica
}

// peer is what the source remembers of a replica. Guids are 0, where there is none.
type peer struct {
	known  int  // the snapshot that the replica has
	sent   int  // the one of which it isn't known yet whether it came; it is held
	gaveUp int  // the one for which the source gave up
	number int  // that of the last letter to the replica
	awaits byte // the kind of that letter, as long as the source waits for its answer; else 0
	until  int  // the time at which it has waited long enough
	tries  int  // how often it has waited in vain
}

// NewSource makes a source (P13).
func NewSource(c api.Config) (*Source, api.Errno) {
	peersMayBe := c.Peers >= 1 && c.Peers <= api.MaxPeers
	everyMayBe := c.Every >= 1 && c.Every <= api.MaxEvery
	waitMayBe := c.Wait >= 1 && c.Wait <= c.Cap && c.Cap <= api.MaxWait
	if !peersMayBe || !everyMayBe || !waitMayBe {
		return nil, api.ErrArg
	}
	k, errno := newKeeper(c.Id, c.Blocks, c.Grid, c.Last)
	if errno != api.OK {
		return nil, errno
	}
	return &Source{keeper: k, every: c.Every, wait: c.Wait, most: c.Cap, peers: make([]peer, c.Peers)}, api.OK
}

// Store is its store (P13).
func (s *Source) Store() *snap.Store {
	return s.store
}

// Known tells what a replica has, as far as the source knows (P14).
func (s *Source) Known(peer int) (int, api.Errno) {
	if !s.hasPeer(peer) {
		return 0, api.ErrArg
	}
	return s.peers[peer].known, api.OK
}

func (s *Source) hasPeer(peer int) bool {
	return peer >= 0 && peer < len(s.peers)
}

// has tells whether there is a snapshot or a mark of this guid.
func (s *Source) has(guid int) bool {
	isOne := func(one api.Snapshot) bool { return one.Guid == guid }
	return slices.ContainsFunc(s.store.Snaps(), isOne) || slices.Contains(s.store.Marks(), guid)
}

// learn lets the source come to know what a replica has (P14). Of 0, which it knew at first, there is no mark to take away.
func (s *Source) learn(peer int, guid int) {
	s.store.Mark(guid)
	before := s.peers[peer].known
	s.peers[peer].known = guid
	if !s.knowsOfAny(before) {
		s.store.Unmark(before)
	}
}

// knowsOfAny tells whether the source knows of some replica that it has this.
func (s *Source) knowsOfAny(guid int) bool {
	return slices.ContainsFunc(s.peers, func(p peer) bool { return p.known == guid })
}
