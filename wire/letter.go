package wire

import "tether/api"

// The kinds of letters (P11): from the source to a replica Ask and Data, back from it Has and Got.
const (
	Ask  = 'A'
	Data = 'D'
	Has  = 'H'
	Got  = 'G'
)

// Letter is what goes between a source and a replica (P11).
type Letter struct {
	Kind   byte
	Peer   int    // the number of the replica
	Number int    // that of the letter; an answer has that of the letter which it answers
	Stream string // of Data; whether it is one, Receive tells
	Guid   int    // of Has and Got
}

// Text writes a letter.
func (l Letter) Text() string {
	text := string([]byte{l.Kind, byte(l.Peer)}) + Number(l.Number)
	switch l.Kind {
	case Data:
		text += l.Stream
	case Has, Got:
		text += Number(l.Guid)
	}
	return text
}

// ParseLetter reads a letter; false: the text is none.
func ParseLetter(text string) (Letter, bool) {
	reader := NewReader(text)
	l := Letter{Kind: byte(reader.Byte()), Peer: reader.Byte(), Number: reader.Number()}
	switch l.Kind {
	case Ask:
	case Data:
		l.Stream = reader.Text(reader.Left())
	case Has, Got:
		l.Guid = reader.Number()
	default:
		return Letter{}, false
	}
	if !reader.Ended() || l.Peer >= api.MaxPeers {
		return Letter{}, false
	}
	return l, true
}
