// Package grid: what is kept of many snapshots: see DOC.md.
package grid

import (
	"strings"

	"tether/api"
)

// Parse reads a grid (P3).
func Parse(spec string) ([]api.Rule, api.Errno) {
	// One piece more than may be is enough to tell that there are too many.
	pieces := strings.SplitN(spec, " ", api.MaxRules+1)
	if len(pieces) > api.MaxRules {
		return nil, api.ErrForm
	}
	rules := make([]api.Rule, 0, len(pieces))
	for _, piece := range pieces {
		rule, ok := parseRule(piece)
		if !ok {
			return nil, api.ErrForm
		}
		rules = append(rules, rule)
	}
	return rules, api.OK
}

func parseRule(text string) (api.Rule, bool) {
	countText, spanText, _ := strings.Cut(text, "x")
	count, countOk := parseNumber(countText, api.MaxCount)
	span, spanOk := parseNumber(spanText, api.MaxSpan)
	if !countOk || !spanOk {
		return api.Rule{}, false
	}
	return api.Rule{Count: count, Span: span}, true
}

// parseNumber reads a number from 1 to most. It is not strconv's work: that takes signs and leading zeros.
func parseNumber(text string, most int) (int, bool) {
	if text == "" || text[0] == '0' {
		return 0, false
	}
	number := 0
	for i := range len(text) {
		digit := text[i]
		if digit < '0' || digit > '9' {
			return 0, false
		}
		number = number*10 + int(digit-'0')
		// Asked at each digit, so that a long text can't wrap round.
		if number > most {
			return 0, false
		}
	}
	return number, true
}
