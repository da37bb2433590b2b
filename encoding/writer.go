package encoding

import (
	"math/bits"

	"sleuth/api"
)

// zero is the first byte of the form of 0. That of another number differs from it by the number of bytes of the magnitude.
const zero = 128

// Writer collects bytes. Its zero value is empty.
type Writer struct {
	last *part
	size int
}

// part is what one call has appended. A part never changes, so a Writer and a copy of it can both go on, and do not disturb one another.
type part struct {
	before *part
	form   string
}

// Number appends the form of a number.
func (w *Writer) Number(n int) { w.add(appendNumber(nil, n)) }

// Bool appends the form of a bool.
func (w *Writer) Bool(b bool) { w.add(appendBool(nil, b)) }

// Text appends the form of a string.
func (w *Writer) Text(s string) { w.add(appendText(nil, s)) }

// Value appends the form of a value.
func (w *Writer) Value(v api.Value) { w.add(appendValue(nil, v)) }

// Attr appends the form of an attribute.
func (w *Writer) Attr(a api.Attr) { w.add(appendAttr(nil, a)) }

// Ref appends the form of a reference to a span.
func (w *Writer) Ref(r api.Ref) { w.add(appendRef(nil, r)) }

// Exchange appends the form of an exchange.
func (w *Writer) Exchange(x api.Exchange) { w.add(appendExchange(nil, x)) }

// Message appends the form of a message.
func (w *Writer) Message(m api.Message) { w.add(appendMessage(nil, m)) }

// Span appends the form of a span.
func (w *Writer) Span(s api.Span) { w.add(appendSpan(nil, s)) }

// Bytes returns all bytes that have been appended.
func (w *Writer) Bytes() string {
	if w == nil {
		return ""
	}
	b := make([]byte, w.size)
	end := w.size
	for p := w.last; p != nil; p = p.before {
		end -= len(p.form)
		copy(b[end:], p.form)
	}
	return string(b)
}

// Len returns the number of bytes that have been appended.
func (w *Writer) Len() int {
	if w == nil {
		return 0
	}
	return w.size
}

func (w *Writer) add(form []byte) {
	if w == nil {
		return
	}
	w.last = &part{before: w.last, form: string(form)}
	w.size += len(form)
}

func appendNumber(b []byte, n int) []byte {
	magnitude, mask := uint64(n), byte(0)
	if n < 0 {
		magnitude, mask = -magnitude, 255
	}
	size := (bits.Len64(magnitude) + 7) / 8
	first := zero + size
	if n < 0 {
		first = zero - size
	}
	b = append(b, byte(first))
	for shift := 8 * (size - 1); shift >= 0; shift -= 8 {
		b = append(b, byte(magnitude>>shift)^mask)
	}
	return b
}

func appendBool(b []byte, v bool) []byte {
	if v {
		return appendNumber(b, 1)
	}
	return appendNumber(b, 0)
}

func appendText(b []byte, s string) []byte {
	return append(appendNumber(b, len(s)), s...)
}

// appendList appends the number of elements, and each of them by means of element.
func appendList[T any](b []byte, list []T, element func([]byte, T) []byte) []byte {
	b = appendNumber(b, len(list))
	for _, v := range list {
		b = element(b, v)
	}
	return b
}

func appendNumbers(b []byte, numbers ...int) []byte {
	for _, n := range numbers {
		b = appendNumber(b, n)
	}
	return b
}

func appendValue(b []byte, v api.Value) []byte {
	b = appendNumber(b, v.Kind)
	b = appendText(b, v.Text)
	return appendNumber(b, v.Int)
}

func appendAttr(b []byte, a api.Attr) []byte {
	return appendValue(appendText(b, a.Key), a.Value)
}

func appendRef(b []byte, r api.Ref) []byte {
	return appendNumbers(b, r.Trace, r.Id)
}

func appendExchange(b []byte, x api.Exchange) []byte {
	return appendNumbers(b, x.From, x.To, x.Sent, x.Received, x.Least)
}

func appendMessage(b []byte, m api.Message) []byte {
	b = appendNumber(b, m.Kind)
	b = appendRef(b, m.A)
	b = appendRef(b, m.B)
	return appendNumbers(b, m.From, m.To, m.Sent, m.Received, m.Least)
}

func appendSpan(b []byte, s api.Span) []byte {
	b = appendNumbers(b, s.Trace, s.Id, s.Parent, s.Revision, s.Clock, s.Kind)
	b = appendText(b, s.Service)
	b = appendText(b, s.Version)
	b = appendText(b, s.Operation)
	b = appendNumbers(b, s.Start, s.End)
	b = appendBool(b, s.Error)
	b = appendList(b, s.Attrs, appendAttr)
	return appendList(b, s.Links, appendRef)
}
