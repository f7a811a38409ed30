package node_test

import (
	"encoding/binary"
	"fmt"
	"hash/fnv"
	"math"
	"slices"
	"strings"
	"testing"

	"tether/api"
	"tether/node"
	"tether/snap"
)

// odd are numbers of which each call is asked, whatever they stand for.
var odd = []int{math.MinInt, -1 << 32, -1, 0, 1, 2, 3, 1000001, 999999999, 1000000000, 1 << 31, 1 << 32, 1<<32 + 1, math.MaxInt}

// numberOf, letterOf and streamOf lay texts out by another hand than the program's.
func numberOf(number int) string {
	return string(binary.BigEndian.AppendUint32(nil, uint32(number)))
}

func letterOf(kind byte, peer, number int, told string) string {
	return string([]byte{kind, byte(peer)}) + numberOf(number) + told
}

// streamOf lays out a stream; what follows is, of each block, its number in one byte and its bytes.
func streamOf(from, to, time, blocks int, follow ...string) string {
	text := "SND1" + numberOf(from) + numberOf(to) + numberOf(time) + string([]byte{byte(blocks), byte(len(follow))}) + strings.Join(follow, "")
	sum := fnv.New32a()
	sum.Write([]byte(text))
	return text + numberOf(int(sum.Sum32()))
}

// has and got are answers of a replica, ask and data letters of the source.
func has(peer, number, guid int) string {
	return letterOf('H', peer, number, numberOf(guid))
}

func got(peer, number, guid int) string {
	return letterOf('G', peer, number, numberOf(guid))
}

func ask(peer, number int) api.Letter {
	return api.Letter{To: peer, Text: letterOf('A', peer, number, "")}
}

func data(peer, number int, stream string) api.Letter {
	return api.Letter{To: peer, Text: letterOf('D', peer, number, stream)}
}

// tell writes letters so that they can be read.
func tell(letters []api.Letter) string {
	told := "none"
	for i, letter := range letters {
		if i == 0 {
			told = ""
		}
		told += fmt.Sprintf("[to %d: %q]", letter.To, letter.Text)
	}
	return told
}

func check(t *testing.T, what string, got, want api.Errno) {
	t.Helper()
	if got != want {
		t.Errorf("%s = %d, want %d", what, got, want)
	}
}

func checkSnaps(t *testing.T, s *snap.Store, want ...api.Snapshot) {
	t.Helper()
	if got := s.Snaps(); !slices.Equal(got, want) {
		t.Errorf("Snaps() = %v, want %v", got, want)
	}
}

func checkGuids(t *testing.T, s *snap.Store, want ...int) {
	t.Helper()
	if got := guidsOf(s); !slices.Equal(got, want) {
		t.Errorf("the guids of Snaps() = %v, want %v", got, want)
	}
}

func checkMarks(t *testing.T, s *snap.Store, want ...int) {
	t.Helper()
	if got := s.Marks(); !slices.Equal(got, want) {
		t.Errorf("Marks() = %v, want %v", got, want)
	}
}

func checkAt(t *testing.T, s *snap.Store, guid, block int, want string) {
	t.Helper()
	if data, errno := s.At(guid, block); data != want || errno != api.OK {
		t.Errorf("At(%d, %d) = %q, %d, want %q", guid, block, data, errno, want)
	}
}

func guidsOf(s *snap.Store) []int {
	var guids []int
	for _, one := range s.Snaps() {
		guids = append(guids, one.Guid)
	}
	return guids
}

// newestOf tells the guid of the snapshot that came last; 0: there is none.
func newestOf(s *snap.Store) int {
	guids := guidsOf(s)
	if len(guids) == 0 {
		return 0
	}
	return guids[len(guids)-1]
}

// holdsOf tells how often a snapshot is held; -1: there is none.
func holdsOf(s *snap.Store, guid int) int {
	for _, one := range s.Snaps() {
		if one.Guid == guid {
			return one.Holds
		}
	}
	return -1
}

func newReplica(t *testing.T, id, blocks int, grid string, last int) *node.Replica {
	t.Helper()
	r, errno := node.NewReplica(id, blocks, grid, last)
	if r == nil || errno != api.OK {
		t.Fatalf("NewReplica(%d, %d, %q, %d) = %v, %d", id, blocks, grid, last, r, errno)
	}
	return r
}

func newSource(t *testing.T, c api.Config) *node.Source {
	t.Helper()
	s, errno := node.NewSource(c)
	if s == nil || errno != api.OK {
		t.Fatalf("NewSource(%+v) = %v, %d", c, s, errno)
	}
	return s
}

func checkAnswer(t *testing.T, r *node.Replica, text, want string) {
	t.Helper()
	if got := r.Take(text); got != want {
		t.Errorf("Take(%q) = %q, want %q", text, got, want)
	}
}

func checkTick(t *testing.T, s *node.Source, want ...api.Letter) {
	t.Helper()
	if got := s.Tick(); !slices.Equal(got, want) {
		t.Errorf("Tick() = %s, want %s", tell(got), tell(want))
	}
}

// quiet lets so many seconds go by, in which no letter may go.
func quiet(t *testing.T, s *node.Source, seconds int) {
	t.Helper()
	for range seconds {
		checkTick(t, s)
	}
}

func checkTake(t *testing.T, s *node.Source, peer int, text string, want ...api.Letter) {
	t.Helper()
	if got := s.Take(peer, text); !slices.Equal(got, want) {
		t.Errorf("Take(%d, %q) = %s, want %s", peer, text, tell(got), tell(want))
	}
}

func checkKnown(t *testing.T, s *node.Source, want ...int) {
	t.Helper()
	for peer, guid := range want {
		if got, errno := s.Known(peer); got != guid || errno != api.OK {
			t.Errorf("Known(%d) = %d, %d, want %d", peer, got, errno, guid)
		}
	}
}
