package wire

import "tether/api"

const (
	sign    = "SND1"
	maxGuid = api.MaxId*api.Thousands + api.Thousands - 1
)

// Stream is what changed from one snapshot to another (P8).
type Stream struct {
	From, To int // guids; From may be 0
	Time     int // of the snapshot To
	Blocks   int // of the volume
	Follow   []Block
}

// Block is one that follows in a stream: its number, and its bytes.
type Block struct {
	Number int
	Bytes  [api.Size]byte
}

// Text writes a stream, with its check.
func (s Stream) Text() string {
	text := []byte(sign + Number(s.From) + Number(s.To) + Number(s.Time))
	text = append(text, byte(s.Blocks), byte(len(s.Follow)))
	for _, block := range s.Follow {
		text = append(text, byte(block.Number))
		text = append(text, block.Bytes[:]...)
	}
	return string(text) + checkOf(string(text))
}

// ParseStream reads a stream; false: the text is none (P9).
func ParseStream(text string) (Stream, bool) {
	checked := max(0, len(text)-numberSize)
	if text[checked:] != checkOf(text[:checked]) {
		return Stream{}, false
	}
	reader := NewReader(text[:checked])
	signed := reader.Text(len(sign)) == sign
	s := Stream{From: reader.Number(), To: reader.Number(), Time: reader.Number(), Blocks: reader.Byte()}
	for range reader.Byte() {
		block := Block{Number: reader.Byte()}
		copy(block.Bytes[:], reader.Text(api.Size))
		s.Follow = append(s.Follow, block)
	}
	if !signed || !reader.Ended() || !s.mayBe() {
		return Stream{}, false
	}
	return s, true
}

// mayBe tells whether the numbers of a stream go together.
func (s Stream) mayBe() bool {
	fromMayBe := s.From == 0 || isGuid(s.From)
	timeMayBe := s.Time >= 0 && s.Time <= api.MaxTime
	if !isGuid(s.To) || !fromMayBe || s.From == s.To || !timeMayBe {
		return false
	}
	if s.Blocks < 1 || s.Blocks > api.MaxBlocks || (s.From == 0 && len(s.Follow) != s.Blocks) {
		return false
	}
	least := 0
	for _, block := range s.Follow {
		if block.Number < least || block.Number >= s.Blocks {
			return false
		}
		least = block.Number + 1
	}
	return true
}

func isGuid(number int) bool {
	return number >= 1 && number <= maxGuid
}

// checkOf tells the four bytes by which a text that was changed on its way is found out.
func checkOf(text string) string {
	check := uint32(2166136261)
	for i := range len(text) {
		check = (check ^ uint32(text[i])) * 16777619
	}
	return Number(int(check))
}
