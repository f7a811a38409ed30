package node_test

import (
	"math/rand"
	"slices"
	"testing"

	"tether/api"
	"tether/grid"
	"tether/node"
	"tether/snap"
)

func TestP12NewReplica(t *testing.T) {
	for _, id := range []int{1, 7, api.MaxId} {
		for _, blocks := range []int{1, 2, api.MaxBlocks} {
			for _, last := range []int{1, 2, api.MaxSnaps} {
				r := newReplica(t, id, blocks, "1x1 20x1000000 3x60 2x3600", last)
				checkSnaps(t, r.Store())
				checkMarks(t, r.Store())
				if _, errno := r.Store().Read(blocks - 1); errno != api.OK {
					t.Errorf("there is no block %d", blocks-1)
				}
				if _, errno := r.Store().Read(blocks); errno != api.ErrArg {
					t.Errorf("there is a block %d", blocks)
				}
				if guid, errno := r.Store().Snap(1); guid != id*api.Thousands+1 || errno != api.OK {
					t.Errorf("Snap(1) = %d, %d", guid, errno)
				}
			}
		}
	}
}

func TestP12NewReplicaRefuses(t *testing.T) {
	refuse := func(id, blocks int, grid string, last int, want api.Errno) {
		t.Helper()
		if r, errno := node.NewReplica(id, blocks, grid, last); r != nil || errno != want {
			t.Errorf("NewReplica(%d, %d, %q, %d) = %v, %d, want %d", id, blocks, grid, last, r, errno, want)
		}
	}
	for _, bad := range odd {
		if bad < 1 || bad > api.MaxId {
			refuse(bad, 1, "1x1", 1, api.ErrArg)
			refuse(1, bad, "1x1", 1, api.ErrArg)
			refuse(1, 1, "1x1", bad, api.ErrArg)
			refuse(bad, 1, "", 1, api.ErrArg)
			refuse(1, bad, "", 1, api.ErrArg)
			refuse(1, 1, "", bad, api.ErrArg)
		}
	}
	refuse(api.MaxId+1, 1, "1x1", 1, api.ErrArg)
	refuse(1, api.MaxBlocks+1, "1x1", 1, api.ErrArg)
	refuse(1, 1, "1x1", api.MaxSnaps+1, api.ErrArg)
	for _, spec := range []string{"", "x", "0x1", "1x01", "1x1 ", "21x1", "1x1000001", "1x1 1x1 1x1 1x1 1x1"} {
		refuse(1, 1, spec, 1, api.ErrForm)
	}
}

func TestP12AReplicaHasOneStore(t *testing.T) {
	r, other := newReplica(t, 2, 1, "1x1", 1), newReplica(t, 2, 1, "1x1", 1)
	if r.Store() != r.Store() || r.Store() == other.Store() {
		t.Error("Store() is not always the replica's own")
	}
}

// whole is a letter with a stream of one block, from 0.
func whole(number, to, time int) string {
	return change(number, 0, to, time)
}

// change is a letter with a stream of one block.
func change(number, from, to, time int) string {
	return letterOf('D', 0, number, streamOf(from, to, time, 1, "\x00data"))
}

func TestP12AnAskIsAnsweredWithTheLast(t *testing.T) {
	r := newReplica(t, 2, 1, "20x1", 12)
	for peer := range api.MaxPeers {
		for _, number := range []int{0, 1, 300, 1<<32 - 1} {
			checkAnswer(t, r, letterOf('A', peer, number, ""), has(peer, number, 0))
		}
	}
	checkAnswer(t, r, whole(1, 5000002, 9), got(0, 1, 5000002))
	checkAnswer(t, r, letterOf('A', 2, 7, ""), has(2, 7, 5000002))
	// Neither the guid nor the time tells which came last.
	checkAnswer(t, r, change(2, 5000002, 5000001, 3), got(0, 2, 5000001))
	checkAnswer(t, r, letterOf('A', 1, 8, ""), has(1, 8, 5000001))
	check(t, "Destroy", r.Store().Destroy(5000001), api.OK)
	checkAnswer(t, r, letterOf('A', 1, 8, ""), has(1, 8, 5000002))
	check(t, "Destroy", r.Store().Destroy(5000002), api.OK)
	checkAnswer(t, r, letterOf('A', 1, 8, ""), has(1, 8, 0))
}

func TestP12AStreamIsTakenIn(t *testing.T) {
	r := newReplica(t, 2, 2, "20x1", 12)
	first := streamOf(0, 1000001, 3, 2, "\x00aaaa", "\x01bbbb")
	second := streamOf(1000001, 1000002, 4, 2, "\x01cccc")
	checkAnswer(t, r, letterOf('D', 1, 5, first), got(1, 5, 1000001))
	checkAnswer(t, r, letterOf('D', 2, 6, second), got(2, 6, 1000002))
	checkSnaps(t, r.Store(), api.Snapshot{Guid: 1000001, Time: 3}, api.Snapshot{Guid: 1000002, Time: 4})
	checkAt(t, r.Store(), 1000001, 1, "bbbb")
	checkAt(t, r.Store(), 1000002, 0, "aaaa")
	checkAt(t, r.Store(), 1000002, 1, "cccc")
}

func TestP12WhatIsThereAlreadyIsTakenIn(t *testing.T) {
	r := newReplica(t, 2, 1, "20x1", 12)
	for _, number := range []int{1, 2, 2} {
		checkAnswer(t, r, whole(number, 1000001, 3), got(0, number, 1000001))
	}
	checkAnswer(t, r, change(3, 1000001, 1000002, 4), got(0, 3, 1000002))
	checkAnswer(t, r, change(4, 1000001, 1000002, 4), got(0, 4, 1000002))
	checkAnswer(t, r, whole(5, 1000001, 3), got(0, 5, 1000001))
	checkAnswer(t, r, change(6, 77, 1000001, 3), got(0, 6, 1000001))
	// A mark is as good as a snapshot.
	r.Store().Mark(1000001)
	r.Store().Destroy(1000001)
	checkAnswer(t, r, whole(7, 1000001, 3), got(0, 7, 1000001))
	checkGuids(t, r.Store(), 1000002)
}

func TestP12WhatIsRefusedIsAnsweredWithTheLast(t *testing.T) {
	r := newReplica(t, 2, 1, "20x1", 12)
	refused := func(want int, streams ...string) {
		t.Helper()
		before := r.Store().Log()
		for _, stream := range streams {
			checkAnswer(t, r, letterOf('D', 1, 9, stream), has(1, 9, want))
		}
		if r.Store().Log() != before {
			t.Error("what was refused has changed the store")
		}
	}
	broken := streamOf(0, 1000001, 1, 1, "\x00data")
	broken = broken[:len(broken)-1] + "\x00"
	two := streamOf(0, 1000001, 1, 2, "\x00data", "\x01data")
	refused(0, "", "junk", broken, two, streamOf(1000001, 1000002, 1, 1), streamOf(0, 1<<30, 1, 1, "\x00data"))
	checkAnswer(t, r, whole(1, 1000005, 5), got(0, 1, 1000005))
	refused(1000005, "", "junk", broken, two, streamOf(0, 1000006, 1, 1, "\x00data"), streamOf(1000004, 1000006, 1, 1))
}

func TestP12AFullStoreRefuses(t *testing.T) {
	r := newReplica(t, 2, 1, "20x1", 12)
	for time := range api.MaxSnaps {
		guid, _ := r.Store().Snap(time)
		r.Store().Hold(guid)
	}
	checkAnswer(t, r, change(4, 2000012, 1000001, 3), has(0, 4, 2000012))
	if count := len(r.Store().Snaps()); count != api.MaxSnaps {
		t.Errorf("there are %d snapshots", count)
	}
}

// notToReplicas are texts that are no letters to a replica.
func notToReplicas() []string {
	stream := streamOf(0, 1000001, 1, 1, "\x00data")
	texts := []string{"", "A", "D", "A\x00", "A\x00\x00\x00\x00", "D\x00\x00\x00\x00", stream,
		letterOf('A', 0, 1, "\x00"), letterOf('A', 0, 1, stream),
		letterOf('a', 0, 1, ""), letterOf('d', 0, 1, stream), letterOf(0, 0, 1, ""), letterOf('B', 0, 1, stream),
		has(0, 1, 0), got(0, 1, 0), has(0, 1, 1000001), got(2, 1, 1000001), letterOf('H', 0, 1, ""), letterOf('G', 0, 1, stream)}
	for _, peer := range []int{api.MaxPeers, api.MaxPeers + 1, '0', 127, 128, 255} {
		texts = append(texts, letterOf('A', peer, 1, ""), letterOf('D', peer, 1, stream))
	}
	return texts
}

func TestP12OfOtherTextsNothingComes(t *testing.T) {
	r := newReplica(t, 2, 1, "1x1", 1)
	for range 2 {
		before := r.Store().Log()
		for _, text := range notToReplicas() {
			checkAnswer(t, r, text, "")
		}
		if r.Store().Log() != before {
			t.Error("a text that is no letter has changed the store")
		}
		checkAnswer(t, r, whole(1, 1000009, 3), got(0, 1, 1000009))
	}
}

// fill lets snapshots of these times come, with the guids 1, 2 and on.
func fill(t *testing.T, r *node.Replica, times ...int) {
	t.Helper()
	for i, time := range times {
		checkAnswer(t, r, change(1, i, i+1, time), got(0, 1, i+1))
	}
}

func TestP12ThinsOut(t *testing.T) {
	for _, c := range []struct {
		grid  string
		last  int
		times []int
		want  []int
	}{
		{"1x1", 1, []int{1}, []int{1}},
		{"1x1", 1, []int{1, 2}, []int{2}},
		{"1x1", 1, []int{5, 5, 5}, []int{3}},
		{"1x1", 2, []int{5, 5, 5}, []int{2, 3}},
		{"1x1", 2, []int{1, 2, 3, 4}, []int{3, 4}},
		{"1x1", 12, []int{1, 2, 3, 4}, []int{1, 2, 3, 4}},
		{"2x10", 1, []int{3, 5, 14}, []int{3}},    // 5 has the age 9: it is in the stretch of 14
		{"2x10", 1, []int{3, 5, 15}, []int{2, 3}}, // 3 went when 5 came
		{"2x10", 1, []int{1, 19}, []int{1, 2}},
		{"2x10", 1, []int{1, 20}, []int{1, 2}},
		{"2x10", 1, []int{1, 21}, []int{2}},
		{"2x10", 1, []int{14, 5, 3}, []int{1, 3}}, // 5 goes only when it is not the last any more
		{"2x10", 1, []int{14, 5, 3, 6}, []int{1, 3, 4}},
		{"1x5", 1, []int{100, 50}, []int{1, 2}},     // old, but it came last
		{"1x5", 1, []int{100, 50, 101}, []int{3}},   // 100 is in the stretch of 101
		{"3x5", 1, []int{100, 50, 60}, []int{1, 3}}, // now is 100, not 60
		{"1x5", 1, []int{100, 96, 99}, []int{1, 3}}, // it came last
		{"3x5", 1, []int{0, 5, 10, 14}, []int{1, 2, 4}},
		{"3x5", 1, []int{0, 5, 10, 15}, []int{2, 3, 4}},
		{"1x2 3x4", 1, []int{1, 3, 9}, []int{2, 3}},    // either rule keeps
		{"20x1000000", 1, []int{0, 1 << 30}, []int{2}}, // the greatest age
	} {
		r := newReplica(t, 2, 1, c.grid, c.last)
		fill(t, r, c.times...)
		if got := guidsOf(r.Store()); !slices.Equal(got, c.want) {
			t.Errorf("of the times %v, by %q and %d, %v are left, want %v", c.times, c.grid, c.last, got, c.want)
		}
	}
}

func TestP12WhatIsHeldStays(t *testing.T) {
	r := newReplica(t, 2, 1, "1x1", 1)
	fill(t, r, 1)
	r.Store().Hold(1)
	checkAnswer(t, r, change(1, 1, 2, 2), got(0, 1, 2))
	checkAnswer(t, r, change(1, 2, 3, 3), got(0, 1, 3))
	checkSnaps(t, r.Store(), api.Snapshot{Guid: 1, Time: 1, Holds: 1}, api.Snapshot{Guid: 3, Time: 3})
	r.Store().Release(1)
	checkAnswer(t, r, change(1, 3, 4, 4), got(0, 1, 4))
	checkGuids(t, r.Store(), 4)
}

func TestP12OnlyBehindAnOKItThinsOut(t *testing.T) {
	r := newReplica(t, 2, 1, "1x1", 1)
	fill(t, r, 1)
	r.Store().Snap(2)
	r.Store().Snap(3)
	checkAnswer(t, r, letterOf('A', 0, 1, ""), has(0, 1, 2000002))
	checkAnswer(t, r, whole(1, 1, 1), got(0, 1, 1))
	checkAnswer(t, r, whole(1, 9, 9), has(0, 1, 2000002))
	checkGuids(t, r.Store(), 1, 2000001, 2000002)
	checkAnswer(t, r, change(1, 2000002, 9, 9), got(0, 1, 9))
	checkGuids(t, r.Store(), 9)
}

func TestP12AFullStoreMakesRoom(t *testing.T) {
	times := []int{1, 2, 3, 4, 5, 6, 7, 8, 9, 10, 11, 12}
	r := newReplica(t, 2, 1, "1x1", 12)
	fill(t, r, times[:11]...)
	checkGuids(t, r.Store(), 1, 2, 3, 4, 5, 6, 7, 8, 9, 10, 11)
	checkAnswer(t, r, change(1, 11, 12, 12), got(0, 1, 12))
	checkGuids(t, r.Store(), 2, 3, 4, 5, 6, 7, 8, 9, 10, 11, 12)
	r.Store().Hold(2)
	r.Store().Hold(3)
	checkAnswer(t, r, change(1, 12, 13, 13), got(0, 1, 13))
	checkGuids(t, r.Store(), 2, 3, 5, 6, 7, 8, 9, 10, 11, 12, 13)
	// The first one that came goes, not that of the least time.
	checkAnswer(t, r, change(1, 13, 14, 0), got(0, 1, 14))
	checkGuids(t, r.Store(), 2, 3, 6, 7, 8, 9, 10, 11, 12, 13, 14)
}

func TestP12WhatThinsOutMakesRoomEnough(t *testing.T) {
	r := newReplica(t, 2, 1, "1x1", 11)
	for time := range 11 {
		r.Store().Snap(time)
	}
	// The newest eleven are kept, by their times: 2000001 is not.
	checkAnswer(t, r, change(1, 2000011, 5, 20), got(0, 1, 5))
	checkGuids(t, r.Store(), 2000002, 2000003, 2000004, 2000005, 2000006, 2000007, 2000008, 2000009, 2000010, 2000011, 5)
}

func TestP12WithAllHeldThereIsNoRoom(t *testing.T) {
	r := newReplica(t, 2, 1, "1x1", 1)
	for time := range 11 {
		guid, _ := r.Store().Snap(time)
		r.Store().Hold(guid)
	}
	checkAnswer(t, r, change(1, 2000011, 5, 20), got(0, 1, 5))
	if count := len(r.Store().Snaps()); count != api.MaxSnaps {
		t.Errorf("there are %d snapshots", count)
	}
	checkAnswer(t, r, change(1, 5, 6, 21), has(0, 1, 5))
	r.Store().Release(2000011)
	checkAnswer(t, r, change(1, 5, 6, 21), has(0, 1, 5))
	check(t, "Destroy", r.Store().Destroy(2000011), api.OK)
	checkAnswer(t, r, change(1, 5, 6, 21), got(0, 1, 6))
	if guids := guidsOf(r.Store()); slices.Contains(guids, 5) || len(guids) != 11 {
		t.Errorf("there are %v", guids)
	}
}

// thinned tells what is left of snapshots, by the words of P12.
func thinned(snapshots []api.Snapshot, now, last int, rules []api.Rule) []int {
	var times, left []int
	for _, one := range snapshots {
		times = append(times, one.Time)
	}
	kept, _ := grid.Keep(now, times, last, rules...)
	mayGo := func(i int) bool { return i < len(snapshots)-1 && snapshots[i].Holds == 0 }
	first := -1
	for i, one := range snapshots {
		if kept[i] || !mayGo(i) {
			left = append(left, one.Guid)
		}
		if first < 0 && mayGo(i) {
			first = one.Guid
		}
	}
	if len(left) == api.MaxSnaps {
		left = slices.DeleteFunc(left, func(guid int) bool { return guid == first })
	}
	return left
}

// disturb holds and releases something, as others may.
func disturb(dice *rand.Rand, s *snap.Store) {
	guids := append(guidsOf(s), 1)
	guid := guids[dice.Intn(len(guids))]
	if dice.Intn(2) == 0 {
		s.Hold(guid)
	} else {
		s.Release(guid)
	}
}

func TestP12ThinsOutByTheWords(t *testing.T) {
	for seed := range int64(60) {
		dice := rand.New(rand.NewSource(seed))
		spec := []string{"1x1", "2x5 2x20", "20x1", "3x7", "1x100 4x2 2x9"}[dice.Intn(5)]
		rules, _ := grid.Parse(spec)
		last := 1 + dice.Intn(api.MaxSnaps)
		r := newReplica(t, 2, 1, spec, last)
		for n := 1; n < 200; n++ {
			disturb(dice, r.Store())
			before := r.Store().Snaps()
			time := n/2 + dice.Intn(20)
			answer := r.Take(change(n, newestOf(r.Store()), n, time))
			if len(before) == api.MaxSnaps {
				if answer != has(0, n, newestOf(r.Store())) {
					t.Fatalf("seed %d: a full replica answered %q", seed, answer)
				}
				for _, one := range before {
					r.Store().Release(one.Guid)
					r.Store().Destroy(one.Guid)
				}
				continue
			}
			now := time
			for _, one := range before {
				now = max(now, one.Time)
			}
			want := thinned(append(before, api.Snapshot{Guid: n, Time: time}), now, last, rules)
			if left := guidsOf(r.Store()); answer != got(0, n, n) || !slices.Equal(left, want) {
				t.Fatalf("seed %d: of %v are left %v, want %v (answer %q)", seed, before, left, want, answer)
			}
		}
	}
}
