package node

import (
	"tether/api"
	"tether/wire"
)

// Tick lets a second go by (P13).
func (s *Source) Tick() []api.Letter {
	if s.time >= api.MaxTime {
		return nil
	}
	s.time++
	if s.time%s.every == 0 {
		s.thin(s.time)
		s.store.Snap(s.time) // without room there is none, and nothing is lost by it
	}
	var letters []api.Letter
	newest := s.newest()
	for i := range s.peers {
		if s.peers[i].isDue(s.time, newest) {
			letters = append(letters, s.ask(i))
		}
	}
	return letters
}

// isDue tells whether a replica is asked, at this time, and if this snapshot came last (0: there is none).
func (p *peer) isDue(time, newest int) bool {
	if p.awaits != 0 {
		return time >= p.until
	}
	return newest != 0 && newest != p.known && newest != p.gaveUp
}

// ask asks a replica what it has: for the first time, or anew, if the source waited in vain.
func (s *Source) ask(to int) api.Letter {
	p := &s.peers[to]
	if p.awaits != 0 {
		p.tries++
	} else {
		p.tries = 0
	}
	return s.post(to, wire.Letter{Kind: wire.Ask}, s.patience(p.tries))
}

// patience tells how many seconds the source waits, if it did so in vain so many times.
func (s *Source) patience(tries int) int {
	seconds := s.wait
	for range tries {
		seconds *= 2
		// Asked each time, as it would wrap round some day.
		if seconds >= s.most {
			return s.most
		}
	}
	return seconds
}

// post gives a letter its numbers, and waits for the answer.
func (s *Source) post(to int, letter wire.Letter, seconds int) api.Letter {
	p := &s.peers[to]
	p.number++
	p.awaits = letter.Kind
	p.until = s.time + seconds
	letter.Peer, letter.Number = to, p.number
	return api.Letter{To: to, Text: letter.Text()}
}
