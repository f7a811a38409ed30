package snap_test

import (
	"math"
	"math/rand"
	"slices"
	"sync"
	"sync/atomic"
	"testing"

	"tether/api"
	"tether/snap"
)

// odd are numbers of which each call is asked, whatever they stand for.
var odd = []int{math.MinInt, -1 << 32, -1, 0, 1, 7000001, 7000002, 999999999, 1000000000, 1 << 31, 1 << 32, 7000001 + 1<<32, math.MaxInt}

// state is all that can be seen of a store.
type state struct {
	volume []string
	snaps  []api.Snapshot
	then   []string
	marks  []int
}

func stateOf(s *snap.Store, blocks int) state {
	seen := state{snaps: s.Snaps(), marks: s.Marks()}
	for block := range blocks {
		data, _ := s.Read(block)
		seen.volume = append(seen.volume, data)
		for _, one := range seen.snaps {
			was, _ := s.At(one.Guid, block)
			seen.then = append(seen.then, was)
		}
	}
	return seen
}

func (a state) same(b state) bool {
	return slices.Equal(a.volume, b.volume) && slices.Equal(a.snaps, b.snaps) &&
		slices.Equal(a.then, b.then) && slices.Equal(a.marks, b.marks)
}

func TestP1AnErrorChangesNothing(t *testing.T) {
	s := newStore(t, 7, 2)
	s.Write(1, "bbbb")
	guids := takeSnaps(t, s, api.MaxSnaps)
	s.Hold(guids[0])
	s.Mark(guids[1])
	s.Write(0, "late")
	before := allOf(s, 2)
	ask := func(what string, errno api.Errno) {
		t.Helper()
		after := allOf(s, 2)
		if errno != api.OK && !after.same(before) {
			t.Fatalf("%s answered %d, but it is now %v", what, errno, after)
		}
		before = after
	}
	for _, a := range odd {
		for _, b := range odd {
			ask("Destroy", s.Destroy(a, b))
			ask("Destroy", s.Destroy(guids[4], a, b))
			_, errno := s.Send(a, b)
			ask("Send", errno)
			_, errno = s.Receive(streamOf(a, b, 1, 2, "\x00lost", "\x01lost"))
			ask("Receive", errno)
		}
		_, errno := s.Snap(a)
		ask("Snap", errno)
		ask("Hold", s.Hold(a))
		ask("Release", s.Release(a))
		ask("Mark", s.Mark(a))
		ask("Unmark", s.Unmark(a))
		for _, data := range []string{"", "abc", "abcd", "abcde"} {
			ask("Write", s.Write(a, data))
		}
	}
	for _, text := range notStreams() {
		_, errno := s.Receive(text)
		ask("Receive", errno)
	}
}

func TestP2ListsAreNewMemory(t *testing.T) {
	s := newStore(t, 7, 1)
	guids := takeSnaps(t, s, 3)
	for _, guid := range guids {
		s.Mark(guid)
	}
	s.Unmark(guids[2])
	s.Destroy(guids[2])
	before := stateOf(s, 1)
	snaps, marks := s.Snaps(), s.Marks()
	for i := range snaps[:cap(snaps)] {
		snaps[:cap(snaps)][i] = api.Snapshot{Guid: 1, Time: 2, Holds: 3}
	}
	for i := range marks[:cap(marks)] {
		marks[:cap(marks)][i] = 1
	}
	if after := stateOf(s, 1); !after.same(before) {
		t.Errorf("it was %v, it is %v", before, after)
	}
	snaps, marks = s.Snaps(), s.Marks()
	s.Hold(guids[0])
	late, _ := s.Snap(9)
	s.Mark(late)
	s.Unmark(guids[0])
	s.Destroy(guids[1])
	if !slices.Equal(snaps, before.snaps) || !slices.Equal(marks, before.marks) {
		t.Errorf("lists that were told are now %v and %v", snaps, marks)
	}
}

func TestP2WhatIsHandedInStays(t *testing.T) {
	s := newStore(t, 7, 1)
	guids := takeSnaps(t, s, 5)
	list := []int{guids[3], guids[1], guids[0], 11, 12}
	behind := slices.Clone(list)
	check(t, "Destroy", s.Destroy(list[:3]...), api.OK)
	check(t, "Destroy", s.Destroy(list...), api.ErrNone)
	if !slices.Equal(list, behind) {
		t.Errorf("Destroy made of %v the list %v", behind, list)
	}
	clear(list)
	checkGuids(t, s, guids[2], guids[4])
}

// model is a store as the words of P5 to P9 tell it, without thrift: each snapshot has the whole volume, and all that ever came and all that was written is remembered.
type model struct {
	id     int
	taken  int
	volume []string
	all    []old
	writes []written
}

type old struct {
	api.Snapshot
	volume        []string
	there, marked bool
}

// written is a block that was written, behind so many snapshots; lost: a Receive has taken it back.
type written struct {
	block, behind int
	lost          bool
}

// at tells where the snapshot or mark of this guid stands; -1: there is neither.
func (m *model) at(guid int) int {
	return slices.IndexFunc(m.all, func(o old) bool { return o.Guid == guid && (o.there || o.marked) })
}

func (m *model) find(guid int) *old {
	if at := m.at(guid); at >= 0 {
		return &m.all[at]
	}
	return &old{}
}

func (m *model) count(is func(old) bool) int {
	count := 0
	for _, one := range m.all {
		if is(one) {
			count++
		}
	}
	return count
}

func (m *model) write(block int, data string) {
	m.volume[block] = data
	m.writes = append(m.writes, written{block, len(m.all), false})
}

func (m *model) add(guid, time int) {
	m.all = append(m.all, old{api.Snapshot{Guid: guid, Time: time}, slices.Clone(m.volume), true, false})
}

func (m *model) isFull() bool {
	return m.count(func(o old) bool { return o.there }) == api.MaxSnaps
}

func (m *model) snap(time int) (int, api.Errno) {
	if m.isFull() {
		return 0, api.ErrFull
	}
	for m.taken++; m.at(m.id*api.Thousands+m.taken) >= 0; {
		m.taken++
	}
	m.add(m.id*api.Thousands+m.taken, time)
	return m.all[len(m.all)-1].Guid, api.OK
}

func (m *model) send(from, to int) (string, api.Errno) {
	start, end := m.at(from), m.at(to)
	switch {
	case end < 0 || !m.all[end].there || (from != 0 && start < 0):
		return "", api.ErrNone
	case start >= end:
		return "", api.ErrArg
	}
	var follow []string
	for block := range m.volume {
		counts := func(w written) bool { return w.block == block && w.behind > start && w.behind <= end && !w.lost }
		if from == 0 || slices.ContainsFunc(m.writes, counts) {
			follow = append(follow, string([]byte{byte(block)})+m.all[end].volume[block])
		}
	}
	return streamOf(from, to, m.all[end].Time, len(m.volume), follow...), api.OK
}

// receive takes in a stream of the right form: of all blocks if it has the base 0.
func (m *model) receive(from, to, time, blocks int, follow map[int]string) (int, api.Errno) {
	base := len(m.all) - 1
	for base >= 0 && !m.all[base].there {
		base--
	}
	switch {
	case blocks != len(m.volume):
		return 0, api.ErrBase
	case m.at(to) >= 0:
		return 0, api.ErrDup
	case (from == 0) != (base < 0) || (from != 0 && m.all[base].Guid != from):
		return 0, api.ErrBase
	case m.isFull():
		return 0, api.ErrFull
	}
	for i := range m.writes {
		m.writes[i].lost = m.writes[i].lost || m.writes[i].behind > base
	}
	if from != 0 {
		m.volume = slices.Clone(m.all[base].volume)
	}
	for block, data := range follow {
		m.write(block, data)
	}
	m.add(to, time)
	return to, api.OK
}

func (m *model) hold(guid int) api.Errno {
	one := m.find(guid)
	switch {
	case !one.there:
		return api.ErrNone
	case one.Holds == api.MaxHolds:
		return api.ErrFull
	}
	one.Holds++
	return api.OK
}

func (m *model) release(guid int) api.Errno {
	one := m.find(guid)
	switch {
	case !one.there:
		return api.ErrNone
	case one.Holds == 0:
		return api.ErrArg
	}
	one.Holds--
	return api.OK
}

func (m *model) destroy(guids []int) api.Errno {
	seen := map[int]bool{}
	for _, guid := range guids {
		if !m.find(guid).there || seen[guid] {
			return api.ErrNone
		}
		seen[guid] = true
	}
	for _, guid := range guids {
		if m.find(guid).Holds > 0 {
			return api.ErrHeld
		}
	}
	for _, guid := range guids {
		m.find(guid).there = false
	}
	return api.OK
}

func (m *model) mark(guid int) api.Errno {
	one := m.find(guid)
	switch {
	case !one.there && !one.marked:
		return api.ErrNone
	case !one.marked && m.count(func(o old) bool { return o.marked }) == api.MaxMarks:
		return api.ErrFull
	}
	one.marked = true
	return api.OK
}

func (m *model) unmark(guid int) api.Errno {
	one := m.find(guid)
	if !one.marked {
		return api.ErrNone
	}
	one.marked = false
	return api.OK
}

func (m *model) state() state {
	seen := state{volume: m.volume}
	for _, one := range m.all {
		if one.there {
			seen.snaps = append(seen.snaps, one.Snapshot)
		}
		if one.marked {
			seen.marks = append(seen.marks, one.Guid)
		}
	}
	for block := range m.volume {
		for _, one := range m.all {
			if one.there {
				seen.then = append(seen.then, one.volume[block])
			}
		}
	}
	return seen
}

// near is a guid that is, was or will soon be that of a snapshot.
func (m *model) near(dice *rand.Rand) int {
	if len(m.all) == 0 || dice.Intn(8) == 0 {
		return m.id*api.Thousands + m.taken + 1 + dice.Intn(3)
	}
	return m.all[max(0, len(m.all)-1-dice.Intn(20))].Guid
}

// newest is the guid of the snapshot that came last; 0: there is none.
func (m *model) newest() int {
	for _, one := range slices.Backward(m.all) {
		if one.there {
			return one.Guid
		}
	}
	return 0
}

func bytesOf(dice *rand.Rand) string {
	return string([]byte{byte(dice.Intn(256)), 1, 2, byte(dice.Intn(256))})
}

// stepStream lets both take in the same stream.
func stepStream(dice *rand.Rand, s *snap.Store, m *model) (got, want int, g, w api.Errno) {
	from, to, blocks := m.newest(), m.near(dice), len(m.volume)
	if dice.Intn(3) > 0 {
		to = 1 + dice.Intn(maxGuid)
	}
	if dice.Intn(10) == 0 {
		from = m.near(dice)
	}
	if dice.Intn(20) == 0 {
		blocks = 1 + dice.Intn(api.MaxBlocks)
	}
	if from == to {
		from = 0
	}
	data, follow := map[int]string{}, []string{}
	for block := range blocks {
		if from == 0 || dice.Intn(4) == 0 {
			data[block] = bytesOf(dice)
			follow = append(follow, string([]byte{byte(block)})+data[block])
		}
	}
	got, g = s.Receive(streamOf(from, to, 7, blocks, follow...))
	want, w = m.receive(from, to, 7, blocks, data)
	return got, want, g, w
}

// step does one thing, drawn by the dice, to both, and tells what each answered.
func step(dice *rand.Rand, s *snap.Store, m *model) (got, want [2]int) {
	guid := m.near(dice)
	var g, w api.Errno
	switch dice.Intn(12) {
	case 0, 1, 2:
		block, data := dice.Intn(len(m.volume)), bytesOf(dice)
		g = s.Write(block, data)
		m.write(block, data)
	case 3, 4:
		time := dice.Intn(100)
		got[0], g = s.Snap(time)
		want[0], w = m.snap(time)
	case 5:
		g, w = s.Hold(guid), m.hold(guid)
	case 6:
		g, w = s.Release(guid), m.release(guid)
	case 7, 8:
		guids := make([]int, dice.Intn(4))
		for i := range guids {
			guids[i] = m.near(dice)
		}
		g, w = s.Destroy(guids...), m.destroy(guids)
	case 9:
		g, w = s.Mark(guid), m.mark(guid)
	case 10:
		g, w = s.Unmark(guid), m.unmark(guid)
		if dice.Intn(4) > 0 && w == api.OK { // so that the marks come to be full
			g, w = s.Mark(guid), m.mark(guid)
		}
	case 11:
		got[0], want[0], g, w = stepStream(dice, s, m)
	}
	got[1], want[1] = int(g), int(w)
	return got, want
}

// checkSends asks for each stream that there may be.
func checkSends(t *testing.T, s *snap.Store, m *model) {
	t.Helper()
	guids := []int{0}
	for _, one := range m.all[max(0, len(m.all)-30):] {
		guids = append(guids, one.Guid)
	}
	for _, from := range guids {
		for _, to := range guids {
			want, errno := m.send(from, to)
			checkSend(t, s, from, to, want, errno)
		}
	}
}

func TestP5ToP10AgainstAModel(t *testing.T) {
	for seed := range int64(40) {
		dice := rand.New(rand.NewSource(seed))
		blocks := 1 + dice.Intn(api.MaxBlocks)
		s := newStore(t, 7, blocks)
		m := &model{id: 7, volume: slices.Repeat([]string{zeros}, blocks)}
		for n := range 500 {
			if got, want := step(dice, s, m); got != want {
				t.Fatalf("seed %d, step %d: answered %v, want %v", seed, n, got, want)
			}
			if got, want := stateOf(s, blocks), m.state(); !got.same(want) {
				t.Fatalf("seed %d, step %d: it is %v, want %v", seed, n, got, want)
			}
			if dice.Intn(25) == 0 {
				checkSends(t, s, m)
			}
			if dice.Intn(50) == 0 {
				s = open(t, s.Log())
			}
			if t.Failed() {
				t.Fatalf("seed %d, step %d", seed, n)
			}
		}
	}
}

// atOnce lets several do the same, each with its number.
func atOnce(count int, do func(number int)) {
	var group sync.WaitGroup
	for number := range count {
		group.Go(func() { do(number) })
	}
	group.Wait()
}

func TestP7EachCallIsDoneAsAWhole(t *testing.T) {
	s := newStore(t, 7, api.MaxBlocks)
	pair := takeSnaps(t, s, 2)
	var mutex sync.Mutex
	guids := map[int]int{}
	atOnce(api.MaxBlocks, func(number int) {
		for range 500 {
			s.Write(number, "data")
			guid, errno := s.Snap(1)
			if errno == api.OK {
				s.Mark(guid)
				s.Unmark(guid)
				s.Destroy(guid)
				mutex.Lock()
				guids[guid]++
				mutex.Unlock()
			}
			if s.Hold(pair[0]) == api.OK {
				s.Release(pair[0])
			}
			s.At(pair[1], number)
			s.Read(number)
			s.Marks()
		}
	})
	for guid, times := range guids {
		if times > 1 {
			t.Errorf("the guid %d was given %d times", guid, times)
		}
	}
	if len(guids) == 0 {
		t.Error("nobody could take a snapshot")
	}
	checkSnaps(t, s, api.Snapshot{Guid: pair[0]}, api.Snapshot{Guid: pair[1], Time: 1})
	checkMarks(t, s)
}

func TestP7DestroyIsSeenAsAWhole(t *testing.T) {
	for range 300 {
		s := newStore(t, 7, 1)
		guids := takeSnaps(t, s, api.MaxSnaps)
		var gone atomic.Bool
		atOnce(4, func(number int) {
			if number == 0 {
				check(t, "Destroy", s.Destroy(guids...), api.OK)
				gone.Store(true)
				return
			}
			for !gone.Load() {
				left := len(s.Snaps())
				if left != 0 && left != api.MaxSnaps {
					t.Errorf("%d snapshots were left for a while", left)
				}
			}
		})
	}
}
