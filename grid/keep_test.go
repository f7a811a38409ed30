package grid_test

import (
	"math"
	"math/rand"
	"slices"
	"sync"
	"testing"

	"tether/api"
	"tether/grid"
)

// marks tells which times are kept as a text, 1 for kept.
func marks(kept []bool) string {
	text := make([]byte, len(kept))
	for i := range kept {
		text[i] = '0'
		if kept[i] {
			text[i] = '1'
		}
	}
	return string(text)
}

func checkKeep(t *testing.T, want string, now int, times []int, last int, rules ...api.Rule) {
	t.Helper()
	kept, errno := grid.Keep(now, times, last, rules...)
	if errno != api.OK || marks(kept) != want {
		t.Errorf("Keep(%d, %v, %d, %v) = %s, %d, want %s, 0", now, times, last, rules, marks(kept), errno, want)
	}
}

func checkKeepRefuses(t *testing.T, now int, times []int, last int, rules ...api.Rule) {
	t.Helper()
	kept, errno := grid.Keep(now, times, last, rules...)
	if errno != api.ErrArg || len(kept) != 0 {
		t.Errorf("Keep(%d, %v, %d, %v) = %v, %d, want nothing, ErrArg", now, times, last, rules, kept, errno)
	}
}

func rule(count, span int) api.Rule { return api.Rule{Count: count, Span: span} }

func TestP4ByRules(t *testing.T) {
	times := []int{100, 99, 80, 40}
	checkKeep(t, "1010", 100, times, 0, rule(2, 20))
	checkKeep(t, "1000", 100, times, 0, rule(1, 20))
	checkKeep(t, "1011", 100, times, 0, rule(4, 20))
	checkKeep(t, "1111", 100, times, 0, rule(2, 1), rule(4, 20))
	checkKeep(t, "1111", 100, times, 0, rule(4, 20), rule(2, 1))
	checkKeep(t, "0000", 100, times, 0)
	checkKeep(t, "1010", 100, times, 0, rule(2, 20), rule(2, 20), rule(1, 1), rule(1, 1))
}

func TestP4StretchesAtTheirEdges(t *testing.T) {
	checkKeep(t, "1100", 100, []int{81, 80, 61, 60}, 0, rule(2, 20))
	checkKeep(t, "1101", 100, []int{81, 80, 61, 60}, 0, rule(3, 20))
	checkKeep(t, "1", 100, []int{81}, 0, rule(1, 20))
	checkKeep(t, "0", 100, []int{80}, 0, rule(1, 20))
	// A stretch without times doesn't shift the others.
	checkKeep(t, "011", 100, []int{0, 30, 95}, 0, rule(4, 20))
	checkKeep(t, "0", 20*api.MaxSpan, []int{0}, 0, rule(api.MaxCount, api.MaxSpan))
	checkKeep(t, "1", 20*api.MaxSpan, []int{1}, 0, rule(api.MaxCount, api.MaxSpan))
	checkKeep(t, "10", api.MaxTime, []int{api.MaxTime, 0}, 0, rule(api.MaxCount, api.MaxSpan))
	checkKeep(t, "01", 0, []int{0, 0}, 0, rule(1, 1))
}

func TestP4OfTheSameTimeThatBehindIsNewer(t *testing.T) {
	checkKeep(t, "001", 100, []int{50, 50, 50}, 0, rule(20, 20))
	checkKeep(t, "001", 100, []int{50, 50, 50}, 1)
	checkKeep(t, "011", 100, []int{50, 50, 50}, 2)
	checkKeep(t, "01011", 100, []int{50, 60, 50, 60, 50}, 3)
	checkKeep(t, "00010", 100, []int{50, 60, 50, 60, 50}, 0, rule(1, 100))
}

func TestP4TimesInAnyOrder(t *testing.T) {
	checkKeep(t, "0101", 100, []int{40, 80, 99, 100}, 0, rule(2, 20))
	checkKeep(t, "1001", 100, []int{80, 40, 99, 100}, 0, rule(2, 20))
	checkKeep(t, "0011", 100, []int{40, 80, 99, 100}, 2)
}

func TestP4TheLast(t *testing.T) {
	times := []int{10, 30, 20}
	checkKeep(t, "000", 100, times, 0)
	checkKeep(t, "010", 100, times, 1)
	checkKeep(t, "011", 100, times, 2)
	checkKeep(t, "111", 100, times, 3)
	checkKeep(t, "111", 100, times, 4)
	checkKeep(t, "111", 100, times, math.MaxInt)
}

func TestP4AboveNow(t *testing.T) {
	checkKeep(t, "110", 100, []int{101, 200, 100}, 0)
	checkKeep(t, "10", 0, []int{api.MaxTime, 0}, 0)
	// One above now is none of a stretch, but it counts among the last.
	checkKeep(t, "111", 100, []int{101, 200, 100}, 0, rule(1, api.MaxSpan))
	checkKeep(t, "110", 100, []int{101, 200, 100}, 1)
	checkKeep(t, "110", 100, []int{101, 200, 100}, 2)
	checkKeep(t, "111", 100, []int{101, 200, 100}, 3)
	checkKeep(t, "0011", 100, []int{99, 99, 101, 101}, 2)
}

func TestP4Refuses(t *testing.T) {
	good := []int{1, 2, 3}
	for _, bad := range []int{-1, api.MaxTime + 1, math.MinInt, math.MaxInt, 1 << 32, 1 << 33} {
		checkKeepRefuses(t, bad, good, 1, rule(1, 1))
		for place := range good {
			times := slices.Clone(good)
			times[place] = bad
			checkKeepRefuses(t, 5, times, 1, rule(1, 1))
		}
	}
	checkKeepRefuses(t, 5, good, -1, rule(1, 1))
	checkKeepRefuses(t, 5, good, math.MinInt)
	for _, bad := range []int{0, -1, math.MinInt, math.MaxInt, 1 << 32} {
		for place := range api.MaxRules {
			rules := slices.Repeat([]api.Rule{rule(1, 1)}, api.MaxRules)
			rules[place] = rule(bad, 1)
			checkKeepRefuses(t, 5, good, 1, rules...)
			rules[place] = rule(1, bad)
			checkKeepRefuses(t, 5, good, 1, rules...)
		}
	}
	checkKeepRefuses(t, 5, good, 1, rule(api.MaxCount+1, 1))
	checkKeepRefuses(t, 5, good, 1, rule(1, api.MaxSpan+1))
	checkKeepRefuses(t, 5, good, 1, api.Rule{})
	// Nothing to be kept is no reason to let them pass.
	checkKeepRefuses(t, -1, nil, 0)
	checkKeepRefuses(t, 0, nil, -1)
	checkKeepRefuses(t, 0, nil, 0, rule(1, 0))
	checkKeepRefuses(t, -1, []int{-1}, -1, rule(0, 0))
}

func TestP4HowManyRules(t *testing.T) {
	most := slices.Repeat([]api.Rule{rule(1, 1)}, api.MaxRules)
	checkKeep(t, "01", 5, []int{4, 5}, 0, most...)
	checkKeepRefuses(t, 5, []int{4, 5}, 0, append(most, rule(1, 1))...)
	checkKeepRefuses(t, 5, []int{4, 5}, 0, slices.Repeat(most, 1000)...)
	// Each of them counts, the last too.
	checkKeep(t, "1111", 100, []int{10, 40, 70, 100}, 0, rule(1, 1), rule(2, 30), rule(3, 30), rule(4, 30))
}

func TestP4EdgesThatMayBe(t *testing.T) {
	checkKeep(t, "11", 0, []int{api.MaxTime, 0}, 0, rule(1, 1))
	checkKeep(t, "11", api.MaxTime, []int{0, api.MaxTime}, 2, rule(1, 1), rule(api.MaxCount, api.MaxSpan))
}

func newer(times []int, a, b int) bool {
	return times[a] > times[b] || times[a] == times[b] && a > b
}

// keptByTheWords asks each time against each other, as the promise says it.
func keptByTheWords(place int, now int, times []int, last int, rules []api.Rule) bool {
	above := 0
	for other := range times {
		if newer(times, other, place) {
			above++
		}
	}
	if above < last || times[place] > now {
		return true
	}
	return slices.ContainsFunc(rules, func(r api.Rule) bool {
		stretch := (now - times[place]) / r.Span
		for other := range times {
			if times[other] <= now && (now-times[other])/r.Span == stretch && newer(times, other, place) {
				return false
			}
		}
		return stretch < r.Count
	})
}

func checkByTheWords(t *testing.T, now int, times []int, last int, rules []api.Rule) {
	t.Helper()
	want := make([]bool, len(times))
	for place := range times {
		want[place] = keptByTheWords(place, now, times, last, rules)
	}
	checkKeep(t, marks(want), now, times, last, rules...)
}

// Every list of up to four times from 0 to 4, at each now, is kept as the words say.
func TestP4EveryShortList(t *testing.T) {
	grids := [][]api.Rule{nil, {rule(1, 1)}, {rule(2, 2)}, {rule(1, 3), rule(4, 1)}}
	var walk func(times []int)
	walk = func(times []int) {
		for now := range 6 {
			for last := range 3 {
				for _, rules := range grids {
					checkByTheWords(t, now, times, last, rules)
				}
			}
		}
		if len(times) < 4 {
			for next := range 5 {
				walk(append(slices.Clone(times), next))
			}
		}
	}
	walk(nil)
}

func TestP4DrawnLists(t *testing.T) {
	draw := rand.New(rand.NewSource(4))
	for range 3000 {
		reach := 1 + draw.Intn([]int{10, 300, 100000, api.MaxTime}[draw.Intn(4)])
		times := make([]int, draw.Intn(30))
		for i := range times {
			times[i] = draw.Intn(reach + 1)
		}
		rules := make([]api.Rule, draw.Intn(api.MaxRules+1))
		for i := range rules {
			rules[i] = rule(1+draw.Intn(api.MaxCount), 1+draw.Intn(min(reach, api.MaxSpan)))
		}
		checkByTheWords(t, draw.Intn(reach+1), times, draw.Intn(6), rules)
	}
}

func TestP1KeepEndsAtLongLists(t *testing.T) {
	const many = 1 << 18
	rising, same := make([]int, many), make([]int, many)
	for i := range many {
		rising[i], same[i] = i, 7
	}
	for _, times := range [][]int{rising, same} {
		kept, errno := grid.Keep(many, times, 3, rule(20, 1), rule(20, 1000), rule(1, 1), rule(20, api.MaxSpan))
		if errno != api.OK || len(kept) != many || !kept[many-1] || !kept[many-3] || kept[0] {
			t.Errorf("Keep of %d times: %d, of which %d", many, errno, len(kept))
		}
	}
}

func TestP1KeepAtAllNumbers(t *testing.T) {
	edges := []int{math.MinInt, -1, 0, 1, api.MaxCount, api.MaxSpan, api.MaxTime, api.MaxTime + 1, math.MaxInt}
	may := func(least, most int, numbers ...int) bool {
		return slices.Min(numbers) >= least && slices.Max(numbers) <= most
	}
	for _, now := range edges {
		for _, time := range edges {
			for _, last := range edges {
				for _, count := range edges {
					for _, span := range edges {
						good := may(0, api.MaxTime, now, time) && last >= 0 && may(1, api.MaxCount, count) && may(1, api.MaxSpan, span)
						if good {
							checkByTheWords(t, now, []int{time}, last, []api.Rule{rule(count, span)})
						} else {
							checkKeepRefuses(t, now, []int{time}, last, rule(count, span))
						}
					}
				}
			}
		}
	}
}

// What is handed in stays as it was, and what stands behind it too, also beside an error.
func TestP2KeepWritesIntoNothing(t *testing.T) {
	for _, last := range []int{-1, 0, 2, 9} {
		wholeTimes := []int{3, 9, 5, 5, 1, 77, 78}
		wholeRules := []api.Rule{rule(2, 3), rule(1, 9), rule(77, 77), rule(0, 0)}
		timesBefore, rulesBefore := slices.Clone(wholeTimes), slices.Clone(wholeRules)
		grid.Keep(6, wholeTimes[:5], last, wholeRules[:2]...)
		if !slices.Equal(wholeTimes, timesBefore) || !slices.Equal(wholeRules, rulesBefore) {
			t.Errorf("Keep wrote into what it was given: %v, %v", wholeTimes, wholeRules)
		}
	}
}

func TestP2KeepGivesNewMemory(t *testing.T) {
	times := []int{5, 4, 3}
	first, _ := grid.Keep(5, times, 1, rule(1, 1))
	second, _ := grid.Keep(5, times, 1, rule(1, 1))
	before := slices.Clone(second[:cap(second)])
	whole := first[:cap(first)]
	for i := range whole {
		whole[i] = !whole[i]
	}
	if marks(second) != "100" || !slices.Equal(second[:cap(second)], before) {
		t.Errorf("two answers of Keep share memory: %v", second[:cap(second)])
	}
}

// What was handed in may change behind the call: an answer doesn't.
func TestP2KeepKeepsNothing(t *testing.T) {
	times, rules := []int{5, 4, 3}, []api.Rule{rule(1, 1)}
	kept, _ := grid.Keep(5, times, 0, rules...)
	times[0], times[2], rules[0] = 3, 5, rule(20, 1)
	if marks(kept) != "100" {
		t.Errorf("an answer of Keep changed behind the call: %v", kept)
	}
	checkKeep(t, "111", 5, times, 0, rules...)
}

func TestP2ListsWithoutElements(t *testing.T) {
	checkKeep(t, "", 5, nil, 3, rule(1, 1))
	checkKeep(t, "", 5, []int{}, 3, rule(1, 1))
	checkKeep(t, "01", 5, []int{1, 2}, 1, []api.Rule{}...)
	checkKeep(t, "01", 5, []int{1, 2}, 1, []api.Rule(nil)...)
}

// Calls that run at once don't hang on each other.
func TestP2CallsAtOnce(t *testing.T) {
	var group sync.WaitGroup
	times, rules := []int{100, 99, 80, 40}, []api.Rule{rule(2, 20)}
	for range 8 {
		group.Go(func() {
			for range 200 {
				checkKeep(t, "1010", 100, times, 0, rules...)
				checkParse(t, "2x20", rules...)
			}
		})
	}
	group.Wait()
}
