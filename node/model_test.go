package node_test

import (
	"math/rand"
	"slices"
	"testing"

	"tether/api"
	"tether/grid"
	"tether/node"
	"tether/snap"
)

// model is a source as the words of P13 and P14 tell it, with a store of its own.
type model struct {
	api.Config
	store *snap.Store
	time  int
	peers []theirs
}

// theirs is what the words say of one replica.
type theirs struct {
	waits, answersA       bool
	asked, seconds, tries int
	number                int
	known, sent, gaveUp   int
}

func newModel(c api.Config) *model {
	store, _ := snap.New(c.Id, c.Blocks)
	return &model{Config: c, store: store, peers: make([]theirs, c.Peers)}
}

func (m *model) thin() {
	rules, _ := grid.Parse(m.Grid)
	left := thinned(m.store.Snaps(), m.time, m.Last, rules)
	gone := slices.DeleteFunc(guidsOf(m.store), func(guid int) bool { return slices.Contains(left, guid) })
	m.store.Destroy(gone...)
}

func (m *model) ask(peer int) api.Letter {
	p := &m.peers[peer]
	p.number++
	p.waits, p.answersA, p.asked = true, true, m.time
	p.seconds = m.Wait << min(p.tries, 20)
	p.seconds = min(p.seconds, m.Cap)
	return ask(peer, p.number)
}

func (m *model) tick() []api.Letter {
	m.time++
	if m.time%m.Every == 0 {
		m.thin()
		m.store.Snap(m.time)
	}
	var letters []api.Letter
	last := newestOf(m.store)
	for peer := range m.peers {
		p := &m.peers[peer]
		if !p.waits && last != 0 && last != p.known && last != p.gaveUp {
			p.tries = 0
			letters = append(letters, m.ask(peer))
		} else if p.waits && m.time == p.asked+p.seconds {
			p.tries++
			letters = append(letters, m.ask(peer))
		}
	}
	return letters
}

func (m *model) comeToKnow(peer, guid int) {
	m.store.Mark(guid)
	before := m.peers[peer].known
	m.peers[peer].known = guid
	if before == 0 || before == guid {
		return
	}
	for _, p := range m.peers {
		if p.known == before {
			return
		}
	}
	m.store.Unmark(before)
}

func (p *theirs) takeBack(s *snap.Store) {
	if p.sent != 0 {
		s.Release(p.sent)
	}
	p.sent = 0
}

// takeH takes what a replica says that it has, in answer to an A.
func (m *model) takeH(peer, guid int) []api.Letter {
	p := &m.peers[peer]
	if slices.Contains(guidsOf(m.store), guid) || slices.Contains(m.store.Marks(), guid) {
		m.comeToKnow(peer, guid)
	}
	if p.sent != 0 && guid == p.sent {
		p.takeBack(m.store)
	}
	sentNothing := p.sent == 0
	aim := p.sent
	if sentNothing {
		aim = newestOf(m.store)
	}
	if (aim != 0 && guid == aim) || (sentNothing && len(m.store.Snaps()) == 0 && guid == 0) {
		p.waits = false
		return nil
	}
	stream, errno := m.store.Send(guid, aim)
	if errno == api.OK && (!sentNothing || m.store.Hold(aim) == api.OK) {
		p.sent, p.answersA, p.asked, p.seconds = aim, false, m.time, m.Wait
		p.number++
		return []api.Letter{data(peer, p.number, stream)}
	}
	p.waits = false
	p.gaveUp = newestOf(m.store)
	p.takeBack(m.store)
	return nil
}

// take takes an H or a G of this replica.
func (m *model) take(peer int, kind byte, number, guid int) []api.Letter {
	p := &m.peers[peer]
	switch {
	case !p.waits || number != p.number:
	case kind == 'H' && p.answersA:
		return m.takeH(peer, guid)
	case kind == 'H':
		p.waits = false
	case kind == 'G' && !p.answersA && guid == p.sent:
		m.comeToKnow(peer, guid)
		p.takeBack(m.store)
		p.waits = false
	}
	return nil
}

// anyGuid is one that the source has, had, or may have heard of.
func (m *model) anyGuid(dice *rand.Rand) int {
	guids := append(guidsOf(m.store), m.store.Marks()...)
	for _, p := range m.peers {
		guids = append(guids, p.sent, p.known, p.gaveUp)
	}
	guids = append(guids, 0, 7, newestOf(m.store), newestOf(m.store)+1)
	return guids[dice.Intn(len(guids))]
}

// others do something to both stores; what they answer must be the same.
func (m *model) others(dice *rand.Rand, s *snap.Store) (got, want api.Errno) {
	guid := m.anyGuid(dice)
	switch dice.Intn(8) {
	case 0, 1:
		block := dice.Intn(m.Blocks)
		return s.Write(block, numberOf(guid)), m.store.Write(block, numberOf(guid))
	case 2:
		time := max(0, m.time+dice.Intn(9)-6)
		_, got = s.Snap(time)
		_, want = m.store.Snap(time)
		return got, want
	case 3:
		return s.Hold(guid), m.store.Hold(guid)
	case 4:
		return s.Release(guid), m.store.Release(guid)
	case 5:
		return s.Destroy(guid), m.store.Destroy(guid)
	case 6:
		return s.Mark(guid), m.store.Mark(guid)
	}
	return s.Unmark(guid), m.store.Unmark(guid)
}

// checkSame sees that a source is as the model.
func (m *model) checkSame(t *testing.T, s *node.Source) {
	t.Helper()
	checkSnaps(t, s.Store(), m.store.Snaps()...)
	checkMarks(t, s.Store(), m.store.Marks()...)
	for peer, p := range m.peers {
		if guid, errno := s.Known(peer); guid != p.known || errno != api.OK {
			t.Errorf("Known(%d) = %d, %d, want %d", peer, guid, errno, p.known)
		}
	}
}

// step lets something happen to both, drawn by the dice; others meddle with the stores now and then.
func (m *model) step(t *testing.T, dice *rand.Rand, s *node.Source, meddling int) {
	t.Helper()
	peer := dice.Intn(m.Peers)
	p := m.peers[peer]
	switch what := dice.Intn(10); {
	case what < 3:
		checkTick(t, s, m.tick()...)
	case what < 6:
		guid := m.anyGuid(dice)
		checkTake(t, s, peer, has(peer, p.number, guid), m.take(peer, 'H', p.number, guid)...)
	case what < 8:
		checkTake(t, s, peer, got(peer, p.number, p.sent), m.take(peer, 'G', p.number, p.sent)...)
	case what == 8:
		number, guid := p.number-dice.Intn(2), m.anyGuid(dice)
		checkTake(t, s, peer, got(peer, number, guid), m.take(peer, 'G', number, guid)...)
	case dice.Intn(10) < meddling:
		got, want := m.others(dice, s.Store())
		check(t, "what others asked", got, want)
	}
}

func TestP13AndP14AgainstAModel(t *testing.T) {
	for seed := range int64(300) {
		dice := rand.New(rand.NewSource(seed))
		c := api.Config{Id: 1, Blocks: 1 + dice.Intn(3), Peers: 1 + dice.Intn(api.MaxPeers), Every: 1 + dice.Intn(6), Wait: 1 + dice.Intn(4), Grid: anyGrid(dice), Last: 1 + dice.Intn(api.MaxSnaps)}
		c.Cap = c.Wait + dice.Intn(12)
		s, m := newSource(t, c), newModel(c)
		for n := range 300 {
			m.step(t, dice, s, int(seed%11))
			m.checkSame(t, s)
			if t.Failed() {
				t.Fatalf("seed %d, step %d", seed, n)
			}
		}
	}
}
