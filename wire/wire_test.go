package wire

import (
	"encoding/binary"
	"hash/fnv"
	"math/rand"
	"reflect"
	"strings"
	"testing"

	"tether/api"
)

func TestP8NumbersAreFourBytesTheHighestFirst(t *testing.T) {
	for number, want := range map[int]string{
		0:         "\x00\x00\x00\x00",
		1:         "\x00\x00\x00\x01",
		7000001:   "\x00\x6a\xcf\xc1",
		1 << 30:   "\x40\x00\x00\x00",
		1<<32 - 1: "\xff\xff\xff\xff",
	} {
		if got := Number(number); got != want {
			t.Errorf("Number(%d) = %q, want %q", number, got, want)
		}
		reader := NewReader(want)
		if got := reader.Number(); got != number || !reader.Ended() {
			t.Errorf("%q is read as %d", want, got)
		}
	}
}

func TestP8ReaderReadsFromTheFront(t *testing.T) {
	reader := NewReader("\xffab\x00\x00\x01\x02rest")
	if got := reader.Byte(); got != 255 {
		t.Errorf("the byte is %d", got)
	}
	if got := reader.Text(2); got != "ab" {
		t.Errorf("the text is %q", got)
	}
	if got := reader.Number(); got != 258 {
		t.Errorf("the number is %d", got)
	}
	if reader.Left() != 4 || reader.Ended() {
		t.Errorf("%d are left", reader.Left())
	}
	if got := reader.Text(4); got != "rest" || reader.Left() != 0 || !reader.Ended() {
		t.Errorf("the rest is %q", got)
	}
}

func TestP9ReaderTellsWhatWasNotThere(t *testing.T) {
	for name, read := range map[string]func(*Reader){
		"a number": func(r *Reader) { r.Number() },
		"a text":   func(r *Reader) { r.Text(4) },
		"bytes":    func(r *Reader) { r.Text(3); r.Byte() },
	} {
		reader := NewReader("abc")
		read(reader)
		if reader.Left() != 0 || reader.Ended() || reader.Byte() != 0 || reader.Number() != 0 || reader.Ended() {
			t.Errorf("%s that is not there was read", name)
		}
	}
}

// withCheck lays the check behind a text, by another hand than the program's.
func withCheck(text string) string {
	sum := fnv.New32a()
	sum.Write([]byte(text))
	return string(binary.BigEndian.AppendUint32([]byte(text), sum.Sum32()))
}

func TestP8Text(t *testing.T) {
	example := Stream{7000001, 7000002, 6, 2, []Block{{1, [4]byte{'b', 'b', 'b', 'b'}}}}
	want := withCheck("SND1\x00\x6a\xcf\xc1\x00\x6a\xcf\xc2\x00\x00\x00\x06\x02\x01\x01bbbb")
	if got := example.Text(); got != want {
		t.Errorf("the stream is %q, want %q", got, want)
	}
	bare := Stream{From: 1, To: 999999999, Time: api.MaxTime, Blocks: 16}
	want = withCheck("SND1\x00\x00\x00\x01\x3b\x9a\xc9\xff\x40\x00\x00\x00\x10\x00")
	if got := bare.Text(); got != want {
		t.Errorf("the stream is %q, want %q", got, want)
	}
}

// anyStream is one that may be, drawn by the dice.
func anyStream(dice *rand.Rand) Stream {
	s := Stream{From: dice.Intn(maxGuid + 1), To: 1 + dice.Intn(maxGuid), Time: dice.Intn(api.MaxTime + 1), Blocks: 1 + dice.Intn(api.MaxBlocks)}
	if dice.Intn(3) == 0 {
		s.From = 0
	}
	for number := range s.Blocks {
		if s.From == 0 || dice.Intn(2) == 0 {
			block := Block{Number: number}
			dice.Read(block.Bytes[:])
			s.Follow = append(s.Follow, block)
		}
	}
	return s
}

func TestP9ParseStreamReadsWhatTextWrites(t *testing.T) {
	dice := rand.New(rand.NewSource(1))
	for range 1000 {
		s := anyStream(dice)
		if got, ok := ParseStream(s.Text()); !ok || !reflect.DeepEqual(got, s) {
			t.Fatalf("%v is read as %v, %v", s, got, ok)
		}
	}
}

func TestP9ParseStreamRefuses(t *testing.T) {
	none := []string{"", "S", "SND1", strings.Repeat("\x00", 26), strings.Repeat("\xff", 200), withCheck(""), withCheck("SND1")}
	dice := rand.New(rand.NewSource(2))
	for range 20 {
		text := anyStream(dice).Text()
		whole := len(text) - numberSize
		for i := range text {
			if i != whole { // that one has its check again
				none = append(none, withCheck(text[:i]))
			}
			none = append(none, text[:i])
			broken := []byte(text)
			broken[i] += byte(1 + dice.Intn(255))
			none = append(none, string(broken))
		}
		none = append(none, text+"\x00", withCheck(text), "\x00"+text)
	}
	for _, text := range none {
		if got, ok := ParseStream(text); ok || !reflect.DeepEqual(got, Stream{}) {
			t.Errorf("%q is read as %v, %v", text, got, ok)
		}
	}
}

func TestP9StreamsThatMayNotBe(t *testing.T) {
	a, b, c := Block{Number: 0}, Block{Number: 1}, Block{Number: 2}
	for _, s := range []Stream{
		{0, 0, 1, 1, []Block{a}}, {0, maxGuid + 1, 1, 1, []Block{a}}, {0, -1, 1, 1, []Block{a}},
		{maxGuid + 1, 1, 1, 1, nil}, {-1, 1, 1, 1, nil}, {1, 1, 1, 1, nil}, {1, 0, 1, 1, nil},
		{0, 1, api.MaxTime + 1, 1, []Block{a}}, {0, 1, -1, 1, []Block{a}},
		{1, 2, 1, 0, nil}, {0, 1, 1, 0, nil}, {1, 2, 1, api.MaxBlocks + 1, nil},
		{0, 1, 1, 2, []Block{a}}, {0, 1, 1, 2, nil}, {0, 1, 1, 2, []Block{a, b, c}}, {0, 1, 1, 2, []Block{b, a}},
		{1, 2, 1, 2, []Block{b, a}}, {1, 2, 1, 2, []Block{a, a}}, {1, 2, 1, 2, []Block{c}}, {1, 2, 1, 2, []Block{a, c}},
	} {
		if got, ok := ParseStream(s.Text()); ok || !reflect.DeepEqual(got, Stream{}) {
			t.Errorf("%v is read as %v, %v", s, got, ok)
		}
	}
}

// letters are some that may be, with their texts.
func letters() map[string]Letter {
	return map[string]Letter{
		"A\x00\x00\x00\x00\x01":                     {Kind: 'A', Number: 1},
		"A\x02\xff\xff\xff\xff":                     {Kind: 'A', Peer: 2, Number: 1<<32 - 1},
		"D\x01\x00\x00\x01\x02":                     {Kind: 'D', Peer: 1, Number: 258},
		"D\x01\x00\x00\x01\x02SND1":                 {Kind: 'D', Peer: 1, Number: 258, Stream: "SND1"},
		"H\x00\x00\x00\x00\x00\x00\x00\x00\x00":     {Kind: 'H'},
		"H\x02\x00\x00\x00\x03\x00\x6a\xcf\xc1":     {Kind: 'H', Peer: 2, Number: 3, Guid: 7000001},
		"G\x01\x01\x00\x00\x00\x3b\x9a\xc9\xff":     {Kind: 'G', Peer: 1, Number: 1 << 24, Guid: maxGuid},
		"G\x00\x00\x00\x00\x00\xff\xff\xff\xff":     {Kind: 'G', Guid: 1<<32 - 1},
		"D\x00\x00\x00\x00\x00" + withCheck("SND1"): {Kind: 'D', Stream: withCheck("SND1")},
	}
}

func TestP11LettersByteByByte(t *testing.T) {
	for text, letter := range letters() {
		if got := letter.Text(); got != text {
			t.Errorf("the text of %v is %q, want %q", letter, got, text)
		}
		if got, ok := ParseLetter(text); !ok || got != letter {
			t.Errorf("%q is read as %v, %v, want %v", text, got, ok, letter)
		}
	}
}

func TestP11TextsThatAreNoLetters(t *testing.T) {
	none := []string{"", "A", "D", "H", "G"}
	for text, letter := range letters() {
		for i := range min(len(text), 6) {
			none = append(none, text[:i])
		}
		if letter.Kind != Data {
			none = append(none, text[:len(text)-1], text+"\x00", text+text)
		}
		for _, kind := range "\x00adhgBCE\x7f" {
			none = append(none, string(kind)+text[1:])
		}
		for _, peer := range []byte{api.MaxPeers, api.MaxPeers + 1, '0', 128, 255} {
			none = append(none, text[:1]+string([]byte{peer})+text[2:])
		}
	}
	for _, text := range none {
		if got, ok := ParseLetter(text); ok || got != (Letter{}) {
			t.Errorf("%q is read as %v, %v", text, got, ok)
		}
	}
}
