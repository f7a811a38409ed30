package grid

import (
	"cmp"
	"slices"

	"tether/api"
)

// Keep tells which of some times are kept (P4).
func Keep(now int, times []int, last int, rules ...api.Rule) ([]bool, api.Errno) {
	if !timesMayBe(now) || !timesMayBe(times...) || last < 0 || !rulesMayBe(rules...) {
		return nil, api.ErrArg
	}
	order := newestFirst(times)
	kept := make([]bool, len(times))
	for _, place := range order[:min(last, len(order))] {
		kept[place] = true
	}
	future := countAbove(now, times, order)
	for _, place := range order[:future] {
		kept[place] = true
	}
	for _, rule := range rules {
		keepByRule(kept, now, times, order[future:], rule)
	}
	return kept, api.OK
}

func timesMayBe(times ...int) bool {
	for _, time := range times {
		if time < 0 || time > api.MaxTime {
			return false
		}
	}
	return true
}

func rulesMayBe(rules ...api.Rule) bool {
	if len(rules) > api.MaxRules {
		return false
	}
	for _, rule := range rules {
		if rule.Count < 1 || rule.Count > api.MaxCount || rule.Span < 1 || rule.Span > api.MaxSpan {
			return false
		}
	}
	return true
}

// newestFirst tells the places of the times; the times themselves are the caller's and are not moved.
func newestFirst(times []int) []int {
	order := make([]int, len(times))
	for place := range order {
		order[place] = place
	}
	slices.SortFunc(order, func(a, b int) int {
		return cmp.Or(cmp.Compare(times[b], times[a]), cmp.Compare(b, a))
	})
	return order
}

// countAbove tells how many places at the head of the order have times above now.
func countAbove(now int, times []int, order []int) int {
	count := 0
	for count < len(order) && times[order[count]] > now {
		count++
	}
	return count
}

// keepByRule is given no times above now. Newest first, the stretches only rise, so the first time in a stretch is its newest.
func keepByRule(kept []bool, now int, times []int, order []int, rule api.Rule) {
	seen := -1
	for _, place := range order {
		stretch := (now - times[place]) / rule.Span
		if stretch >= rule.Count {
			return
		}
		if stretch != seen {
			kept[place] = true
			seen = stretch
		}
	}
}
