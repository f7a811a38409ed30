// Package wire: how numbers and streams stand in texts: see DOC.md.
package wire

// numberSize is how many bytes a number has.
const numberSize = 4

// Number writes a number, the highest byte first.
func Number(number int) string {
	return string([]byte{byte(number >> 24), byte(number >> 16), byte(number >> 8), byte(number)})
}

// Reader reads a text from its front on. What is not there is read as nothing or 0, and only Ended tells so: a text can be read as if it were whole, and asked then.
type Reader struct {
	rest  string
	short bool
}

// NewReader makes a reader of a text.
func NewReader(text string) *Reader {
	return &Reader{rest: text}
}

// Text reads so many bytes.
func (r *Reader) Text(size int) string {
	if size > len(r.rest) {
		r.rest, r.short = "", true
		return ""
	}
	text := r.rest[:size]
	r.rest = r.rest[size:]
	return text
}

// Left tells how many bytes are left.
func (r *Reader) Left() int {
	return len(r.rest)
}

// Byte reads one byte.
func (r *Reader) Byte() int {
	return valueOf(r.Text(1))
}

// Number reads a number.
func (r *Reader) Number() int {
	return valueOf(r.Text(numberSize))
}

// Ended tells whether all that was read was there, and nothing is left.
func (r *Reader) Ended() bool {
	return r.Left() == 0 && !r.short
}

func valueOf(text string) int {
	value := 0
	for i := range len(text) {
		value = value<<8 | int(text[i])
	}
	return value
}
