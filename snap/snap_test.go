package snap_test

import (
	"math"
	"slices"
	"strings"
	"testing"

	"tether/api"
	"tether/snap"
)

const zeros = "\x00\x00\x00\x00"

func newStore(t *testing.T, id, blocks int) *snap.Store {
	t.Helper()
	s, errno := snap.New(id, blocks)
	if s == nil || errno != api.OK {
		t.Fatalf("New(%d, %d) = %v, %d", id, blocks, s, errno)
	}
	return s
}

func check(t *testing.T, what string, got, want api.Errno) {
	t.Helper()
	if got != want {
		t.Errorf("%s = %d, want %d", what, got, want)
	}
}

func checkRead(t *testing.T, s *snap.Store, block int, want string, wantErrno api.Errno) {
	t.Helper()
	if data, errno := s.Read(block); data != want || errno != wantErrno {
		t.Errorf("Read(%d) = %q, %d, want %q, %d", block, data, errno, want, wantErrno)
	}
}

func checkSnap(t *testing.T, s *snap.Store, time, want int, wantErrno api.Errno) {
	t.Helper()
	if guid, errno := s.Snap(time); guid != want || errno != wantErrno {
		t.Errorf("Snap(%d) = %d, %d, want %d, %d", time, guid, errno, want, wantErrno)
	}
}

func checkAt(t *testing.T, s *snap.Store, guid, block int, want string, wantErrno api.Errno) {
	t.Helper()
	if data, errno := s.At(guid, block); data != want || errno != wantErrno {
		t.Errorf("At(%d, %d) = %q, %d, want %q, %d", guid, block, data, errno, want, wantErrno)
	}
}

func checkSnaps(t *testing.T, s *snap.Store, want ...api.Snapshot) {
	t.Helper()
	if got := s.Snaps(); !slices.Equal(got, want) {
		t.Errorf("Snaps() = %v, want %v", got, want)
	}
}

func checkGuids(t *testing.T, s *snap.Store, want ...int) {
	t.Helper()
	if got := guidsOf(s); !slices.Equal(got, want) {
		t.Errorf("the guids of Snaps() = %v, want %v", got, want)
	}
}

func checkMarks(t *testing.T, s *snap.Store, want ...int) {
	t.Helper()
	if got := s.Marks(); !slices.Equal(got, want) {
		t.Errorf("Marks() = %v, want %v", got, want)
	}
}

func guidsOf(s *snap.Store) []int {
	var guids []int
	for _, one := range s.Snaps() {
		guids = append(guids, one.Guid)
	}
	return guids
}

// takeSnaps takes snapshots of the times 0 and on, and tells their guids.
func takeSnaps(t *testing.T, s *snap.Store, count int) []int {
	t.Helper()
	guids := make([]int, count)
	for i := range guids {
		var errno api.Errno
		guids[i], errno = s.Snap(i)
		check(t, "Snap", errno, api.OK)
	}
	return guids
}

func TestP5New(t *testing.T) {
	for _, id := range []int{1, 2, api.MaxId} {
		for _, blocks := range []int{1, 2, api.MaxBlocks} {
			s := newStore(t, id, blocks)
			for block := range blocks {
				checkRead(t, s, block, zeros, api.OK)
			}
			checkRead(t, s, blocks, "", api.ErrArg)
			checkSnaps(t, s)
			checkMarks(t, s)
		}
	}
}

func TestP5NewRefuses(t *testing.T) {
	bad := []int{0, -1, math.MinInt, math.MaxInt, 1 << 32, 1<<32 + 1}
	for _, id := range append(bad, api.MaxId+1) {
		if s, errno := snap.New(id, 1); s != nil || errno != api.ErrArg {
			t.Errorf("New(%d, 1) = %v, %d", id, s, errno)
		}
	}
	for _, blocks := range append(bad, api.MaxBlocks+1) {
		if s, errno := snap.New(1, blocks); s != nil || errno != api.ErrArg {
			t.Errorf("New(1, %d) = %v, %d", blocks, s, errno)
		}
	}
}

func TestP5WriteAndRead(t *testing.T) {
	s := newStore(t, 7, 3)
	check(t, "Write", s.Write(0, "aaaa"), api.OK)
	check(t, "Write", s.Write(2, "\xff\x00\x80\n"), api.OK)
	checkRead(t, s, 0, "aaaa", api.OK)
	checkRead(t, s, 1, zeros, api.OK)
	checkRead(t, s, 2, "\xff\x00\x80\n", api.OK)
	check(t, "Write", s.Write(0, "bbbb"), api.OK)
	check(t, "Write", s.Write(2, zeros), api.OK)
	checkRead(t, s, 0, "bbbb", api.OK)
	checkRead(t, s, 2, zeros, api.OK)
}

func TestP5WriteAndReadRefuse(t *testing.T) {
	s := newStore(t, 7, 2)
	s.Write(0, "aaaa")
	s.Write(1, "bbbb")
	for _, block := range []int{-1, 2, 15, 16, math.MinInt, math.MaxInt, 1 << 32} {
		check(t, "Write of no block", s.Write(block, "data"), api.ErrArg)
		checkRead(t, s, block, "", api.ErrArg)
	}
	// Four signs are more than four bytes, if they are not all of ASCII.
	for _, data := range []string{"", "a", "aaa", "aaaaa", "aaaaaaaa", "aaaä", strings.Repeat("a", 1<<16)} {
		check(t, "Write of "+data[:min(9, len(data))], s.Write(0, data), api.ErrArg)
	}
	check(t, "Write", s.Write(1, "ää"), api.OK)
	checkRead(t, s, 0, "aaaa", api.OK)
	checkRead(t, s, 1, "ää", api.OK)
}

func TestP5StoresAreApart(t *testing.T) {
	a, b := newStore(t, 7, 1), newStore(t, 7, 1)
	a.Write(0, "aaaa")
	guid, _ := a.Snap(1)
	a.Mark(guid)
	checkRead(t, b, 0, zeros, api.OK)
	checkSnaps(t, b)
	checkMarks(t, b)
	checkSnap(t, b, 2, guid, api.OK)
	checkAt(t, b, guid, 0, zeros, api.OK)
	checkAt(t, a, guid, 0, "aaaa", api.OK)
}
