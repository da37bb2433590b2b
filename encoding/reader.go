package encoding

import (
	"math"
	"strings"

	"sleuth/api"
)

// maxSize is the greatest number of bytes of a magnitude.
const maxSize = 8

// Reader reads forms from a string. The first error stays.
type Reader struct {
	text string
	at   int // where the last part that was read ends
	err  api.Errno
}

// NewReader returns a reader that is at the beginning of a string.
func NewReader(s string) *Reader { return &Reader{text: s} }

// Number reads a number.
func (r *Reader) Number() int { return readPart(r, scanNumber) }

// Bool reads a bool.
func (r *Reader) Bool() bool { return readPart(r, scanBool) }

// Text reads a string of at most so many bytes.
func (r *Reader) Text(most int) string {
	return readPart(r, func(s string) (string, int, api.Errno) {
		n, size, e := scanSize(s, most, api.ErrLong)
		if e != api.OK {
			return "", 0, e
		}
		return strings.Clone(s[size : size+n]), size + n, api.OK
	})
}

// Count reads the number of elements of a list of at most so many.
func (r *Reader) Count(most int) int {
	return readPart(r, func(s string) (int, int, api.Errno) {
		return scanSize(s, most, api.ErrLimit)
	})
}

// Value reads a value.
func (r *Reader) Value() api.Value {
	return complete(r, api.Value{Kind: r.Number(), Text: r.Text(api.MaxText), Int: r.Number()})
}

// Attr reads an attribute.
func (r *Reader) Attr() api.Attr {
	return complete(r, api.Attr{Key: r.Text(api.MaxText), Value: r.Value()})
}

// Ref reads a reference to a span.
func (r *Reader) Ref() api.Ref {
	return complete(r, api.Ref{Trace: r.Number(), Id: r.Number()})
}

// Exchange reads an exchange.
func (r *Reader) Exchange() api.Exchange {
	return complete(r, api.Exchange{
		From:     r.Number(),
		To:       r.Number(),
		Sent:     r.Number(),
		Received: r.Number(),
		Least:    r.Number(),
	})
}

// Message reads a message.
func (r *Reader) Message() api.Message {
	return complete(r, api.Message{
		Kind:     r.Number(),
		A:        r.Ref(),
		B:        r.Ref(),
		From:     r.Number(),
		To:       r.Number(),
		Sent:     r.Number(),
		Received: r.Number(),
		Least:    r.Number(),
	})
}

// Span reads a span.
func (r *Reader) Span() api.Span {
	return complete(r, api.Span{
		Trace:     r.Number(),
		Id:        r.Number(),
		Parent:    r.Number(),
		Revision:  r.Number(),
		Clock:     r.Number(),
		Kind:      r.Number(),
		Service:   r.Text(api.MaxText),
		Version:   r.Text(api.MaxText),
		Operation: r.Text(api.MaxText),
		Start:     r.Number(),
		End:       r.Number(),
		Error:     r.Bool(),
		Attrs:     readList(r, r.Attr),
		Links:     readList(r, r.Ref),
	})
}

// Err returns the first error.
func (r *Reader) Err() api.Errno {
	if r == nil {
		return api.ErrArgument
	}
	return r.err
}

// Left returns the number of bytes that have not been read.
func (r *Reader) Left() int {
	if r == nil {
		return 0
	}
	return len(r.text) - r.at
}

// End returns the first error of a string that should end here.
func (r *Reader) End() api.Errno {
	if e := r.Err(); e != api.OK {
		return e
	}
	if r.Left() > 0 {
		return api.ErrForm
	}
	return api.OK
}

// readPart reads one part by means of scan, which returns a value and the number of its bytes.
func readPart[T any](r *Reader, scan func(s string) (T, int, api.Errno)) T {
	var none T
	if r.Err() != api.OK {
		return none
	}
	v, size, e := scan(r.text[r.at:])
	if e != api.OK {
		r.err = e
		return none
	}
	r.at += size
	return v
}

// readList reads the number of elements, and each of them by means of element.
func readList[T any](r *Reader, element func() T) []T {
	var list []T
	for range r.Count(api.MaxRecords) {
		v := element()
		if r.Err() != api.OK {
			return nil
		}
		list = append(list, v)
	}
	return list
}

// complete returns v if all its parts could be read, and otherwise the zero value.
func complete[T any](r *Reader, v T) T {
	if r.Err() != api.OK {
		var none T
		return none
	}
	return v
}

// scanNumber returns the number whose form s begins with, and the number of its bytes.
func scanNumber(s string) (int, int, api.Errno) {
	if s == "" {
		return 0, 0, api.ErrTruncated
	}
	size, mask, negative := int(s[0])-zero, byte(0), false
	if size < 0 {
		size, mask, negative = -size, 255, true
	}
	if size > maxSize {
		return 0, 0, api.ErrForm
	}
	if len(s)-1 < size {
		return 0, 0, api.ErrTruncated
	}
	if size > 0 && s[1] == mask {
		return 0, 0, api.ErrForm
	}
	magnitude := uint64(0)
	for i := range size {
		magnitude = magnitude<<8 | uint64(s[1+i]^mask)
	}
	n, e := signed(magnitude, negative)
	if e != api.OK {
		return 0, 0, e
	}
	return n, 1 + size, api.OK
}

// signed returns the int with a magnitude, if there is one.
func signed(magnitude uint64, negative bool) (int, api.Errno) {
	switch {
	case negative && magnitude <= 1<<63:
		return int(-magnitude), api.OK
	case !negative && magnitude <= math.MaxInt:
		return int(magnitude), api.OK
	}
	return 0, api.ErrForm
}

func scanBool(s string) (bool, int, api.Errno) {
	n, size, e := scanNumber(s)
	if e == api.OK && n != 0 && n != 1 {
		e = api.ErrForm
	}
	if e != api.OK {
		return false, 0, e
	}
	return n == 1, size, api.OK
}

// scanSize scans how many bytes or elements follow. Each of them takes at least one byte.
func scanSize(s string, most int, tooMany api.Errno) (int, int, api.Errno) {
	n, size, e := scanNumber(s)
	switch {
	case e != api.OK:
		return 0, 0, e
	case n < 0:
		return 0, 0, api.ErrForm
	case n > most:
		return 0, 0, tooMany
	case n > len(s)-size:
		return 0, 0, api.ErrTruncated
	}
	return n, size, api.OK
}
