package node

import (
	"tether/api"
	"tether/snap"
	"tether/wire"
)

// Replica is a node that takes in.
type Replica struct {
	keeper
}

// NewReplica makes a replica (P12).
func NewReplica(id int, blocks int, grid string, last int) (*Replica, api.Errno) {
	k, errno := newKeeper(id, blocks, grid, last)
	if errno != api.OK {
		return nil, errno
	}
	return &Replica{k}, api.OK
}

// Store is its store (P12).
func (r *Replica) Store() *snap.Store {
	return r.store
}

// Take takes a letter and answers it (P12).
func (r *Replica) Take(text string) string {
	letter, ok := wire.ParseLetter(text)
	if !ok {
		return ""
	}
	answer := wire.Letter{Peer: letter.Peer, Number: letter.Number}
	switch letter.Kind {
	case wire.Ask:
		answer.Kind, answer.Guid = wire.Has, r.newest()
	case wire.Data:
		answer.Kind, answer.Guid = r.takeIn(letter.Stream)
	default:
		return ""
	}
	return answer.Text()
}

// takeIn receives a stream, and tells what is answered.
func (r *Replica) takeIn(stream string) (byte, int) {
	guid, errno := r.store.Receive(stream)
	switch errno {
	case api.OK:
		r.thin(r.greatestTime())
		return wire.Got, guid
	case api.ErrDup:
		// Beside an error Receive tells no guid.
		known, _ := wire.ParseStream(stream)
		return wire.Got, known.To
	}
	return wire.Has, r.newest()
}

func (r *Replica) greatestTime() int {
	greatest := 0
	for _, one := range r.store.Snaps() {
		greatest = max(greatest, one.Time)
	}
	return greatest
}
