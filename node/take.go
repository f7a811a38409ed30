package node

import (
	"tether/api"
	"tether/wire"
)

// Take takes an answer of a replica (P14).
func (s *Source) Take(peer int, text string) []api.Letter {
	letter, ok := wire.ParseLetter(text)
	if !s.hasPeer(peer) || !ok || letter.Peer != peer {
		return nil
	}
	p := &s.peers[peer]
	if p.awaits == 0 || p.number != letter.Number {
		return nil
	}
	switch {
	case p.awaits == wire.Ask && letter.Kind == wire.Has:
		return s.send(peer, letter.Guid)
	case p.awaits == wire.Data && letter.Kind == wire.Has:
		p.awaits = 0
	case p.awaits == wire.Data && letter.Kind == wire.Got && letter.Guid == p.sent:
		s.learn(peer, letter.Guid)
		s.forgetSent(p)
		p.awaits = 0
	}
	return nil
}

// send sends to a replica what it lacks, if it has this (0: nothing).
func (s *Source) send(to int, has int) []api.Letter {
	p := &s.peers[to]
	if s.has(has) {
		s.learn(to, has)
	}
	if has == p.sent {
		s.forgetSent(p)
	}
	aim := p.sent
	if aim == 0 {
		aim = s.newest()
	}
	if has == aim {
		p.awaits = 0
		return nil
	}
	stream, errno := s.store.Send(has, aim)
	if errno != api.OK || !s.holdSent(p, aim) {
		s.giveUp(p)
		return nil
	}
	return []api.Letter{s.post(to, wire.Letter{Kind: wire.Data, Stream: stream}, s.wait)}
}

// holdSent remembers what is sent, and holds it, but only once; false: it can't be held.
func (s *Source) holdSent(p *peer, aim int) bool {
	if p.sent == 0 && s.store.Hold(aim) != api.OK {
		return false
	}
	p.sent = aim
	return true
}

// forgetSent takes the hold of what was sent back. If there is none, nothing changes.
func (s *Source) forgetSent(p *peer) {
	s.store.Release(p.sent)
	p.sent = 0
}

func (s *Source) giveUp(p *peer) {
	p.awaits = 0
	p.gaveUp = s.newest()
	s.forgetSent(p)
}
