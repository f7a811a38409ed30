package grid_test

import (
	"math/big"
	"regexp"
	"slices"
	"strconv"
	"strings"
	"testing"

	"tether/api"
	"tether/grid"
)

func checkParse(t *testing.T, spec string, want ...api.Rule) {
	t.Helper()
	got, errno := grid.Parse(spec)
	if errno != api.OK || !slices.Equal(got, want) {
		t.Errorf("Parse(%.60q) = %v, %d, want %v, 0", spec, got, errno, want)
	}
}

func checkParseRefuses(t *testing.T, spec string) {
	t.Helper()
	got, errno := grid.Parse(spec)
	if errno != api.ErrForm || len(got) != 0 {
		t.Errorf("Parse(%.60q) = %v, %d, want nothing, ErrForm", spec, got, errno)
	}
}

func TestP3ReadsRulesInOrder(t *testing.T) {
	checkParse(t, "3x60 2x3600", api.Rule{Count: 3, Span: 60}, api.Rule{Count: 2, Span: 3600})
	checkParse(t, "2x3600 3x60", api.Rule{Count: 2, Span: 3600}, api.Rule{Count: 3, Span: 60})
	checkParse(t, "1x1", api.Rule{Count: 1, Span: 1})
	checkParse(t, "4x5 4x5", api.Rule{Count: 4, Span: 5}, api.Rule{Count: 4, Span: 5})
	checkParse(t, "1x2 3x4 5x6 7x8", api.Rule{Count: 1, Span: 2}, api.Rule{Count: 3, Span: 4}, api.Rule{Count: 5, Span: 6}, api.Rule{Count: 7, Span: 8})
}

func TestP3NumbersAtTheirEdges(t *testing.T) {
	spec := func(count, span int) string { return strconv.Itoa(count) + "x" + strconv.Itoa(span) }
	for count := 1; count <= api.MaxCount; count++ {
		for _, span := range []int{1, 9, 10, 999999, api.MaxSpan} {
			checkParse(t, spec(count, span), api.Rule{Count: count, Span: span})
		}
	}
	for _, count := range []int{-1, 0, api.MaxCount + 1, 100, 1 << 40} {
		checkParseRefuses(t, spec(count, 1))
	}
	for _, span := range []int{-1, 0, api.MaxSpan + 1, 9999999, 1 << 40} {
		checkParseRefuses(t, spec(1, span))
	}
}

// Numbers that would be small again, if their wrap-round were not caught.
func TestP3NumbersThatWrapRound(t *testing.T) {
	for _, bits := range []uint{8, 16, 32, 63, 64, 128} {
		wrapped := new(big.Int).Lsh(big.NewInt(1), bits)
		wrapped.Add(wrapped, big.NewInt(5))
		checkParseRefuses(t, wrapped.String()+"x1")
		if bits >= 32 {
			checkParseRefuses(t, "1x"+wrapped.String())
		}
	}
}

func TestP3RefusesOtherForms(t *testing.T) {
	for _, spec := range []string{
		"", " ", "  ", "x", "1", "1x", "x1", "xx", "1xx1", "1x1x1", "x1x1",
		"0x1", "1x0", "00x1", "1x00", "01x1", "1x01", "1x1 01x1", "1x1 1x01",
		"1x1 ", " 1x1", "1x1  1x1", "1x1 \t1x1", "1x1\t1x1", "1x1\n1x1", "1x1\n", "1x1\r", "1x1\x00", "1x1\u00a01x1", "1 x1", "1x 1",
		"+1x1", "-1x1", "1x+1", "1x-1", "1_0x1", "1x1_0", "1.0x1", "1e1x1", "0b1x1", "1x0x1", "ax1", "1xf",
		"1X1", "1×1", "1*1", "1x1,1x1", "1x1;1x1", "１x1", "1x١", "\xffx1", "1x\xff", "/x1", ":x1", "1x/", "1x:", "1/x1", "1:x1",
		"21x1", "1x1000001", "1x1 21x1", "1x1 1x1000001",
		"1x1 1x1 1x1 1x1 1x1", "1x1 1x1 1x1 1x1 ", "1x1 1x1 1x1 1x1 x", " 1x1 1x1 1x1 1x1",
	} {
		checkParseRefuses(t, spec)
	}
}

// ruleForm says the form by another means than the program does.
var ruleForm = regexp.MustCompile(`\A([1-9][0-9]*)x([1-9][0-9]*)\z`)

func parseByTheWords(spec string) []api.Rule {
	var rules []api.Rule
	for piece := range strings.SplitSeq(spec, " ") {
		match := ruleForm.FindStringSubmatch(piece)
		if match == nil {
			return nil
		}
		count, countErr := strconv.Atoi(match[1])
		span, spanErr := strconv.Atoi(match[2])
		if countErr != nil || spanErr != nil || count > api.MaxCount || span > api.MaxSpan {
			return nil
		}
		rules = append(rules, api.Rule{Count: count, Span: span})
	}
	if len(rules) > api.MaxRules {
		return nil
	}
	return rules
}

// Every text of up to seven of these bytes is read as the words say.
func TestP3EveryShortText(t *testing.T) {
	var walk func(spec string, left int)
	walk = func(spec string, left int) {
		want := parseByTheWords(spec)
		if want == nil {
			checkParseRefuses(t, spec)
		} else {
			checkParse(t, spec, want...)
		}
		if left > 0 {
			for _, next := range "0129x " {
				walk(spec+string(next), left-1)
			}
		}
	}
	walk("", 7)
}

// Every byte, at every place of a good grid, is read as the words say.
func TestP3EveryByteAtEveryPlace(t *testing.T) {
	const good = "12x340 5x6"
	for place := range len(good) + 1 {
		for value := range 256 {
			inserted := good[:place] + string([]byte{byte(value)}) + good[place:]
			if want := parseByTheWords(inserted); want == nil {
				checkParseRefuses(t, inserted)
			} else {
				checkParse(t, inserted, want...)
			}
		}
	}
}

func TestP1ParseEndsAtLongTexts(t *testing.T) {
	for _, piece := range []string{"1", "0", "x", " ", "1x1 ", "1x", "\x00", "\xff", "é"} {
		checkParseRefuses(t, strings.Repeat(piece, 1<<20))
	}
	checkParseRefuses(t, "1x"+strings.Repeat("9", 1<<20))
	checkParseRefuses(t, "1x1 "+strings.Repeat("0", 1<<20)+"1x1")
}

func TestP2ParseGivesNewMemory(t *testing.T) {
	const spec = "1x2 3x4 5x6"
	first, _ := grid.Parse(spec)
	second, _ := grid.Parse(spec)
	for _, list := range [][]api.Rule{first, first[:cap(first)]} {
		for i := range list {
			list[i] = api.Rule{Count: -7, Span: -7}
		}
	}
	want := []api.Rule{{Count: 1, Span: 2}, {Count: 3, Span: 4}, {Count: 5, Span: 6}}
	if !slices.Equal(second, want) || slices.Contains(second[:cap(second)], api.Rule{Count: -7, Span: -7}) {
		t.Errorf("two answers of Parse share memory: %v", second[:cap(second)])
	}
	checkParse(t, spec, want...)
}

func TestP2ParseHangsOnItsTextAlone(t *testing.T) {
	for range 3 {
		checkParse(t, "20x1000000", api.Rule{Count: 20, Span: 1000000})
		checkParseRefuses(t, "20x1000000 ")
		checkParse(t, "1x1", api.Rule{Count: 1, Span: 1})
		checkParseRefuses(t, "")
	}
}
