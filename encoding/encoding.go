// Package encoding contains the canonical binary forms of numbers, strings, spans, messages, fragments and traces. It is layer 1: see shared/doc/01-encoding.md.
package encoding

import "sleuth/api"

// EncodeSpan returns the form of a span.
func EncodeSpan(s api.Span) string { return string(appendSpan(nil, s)) }

// EncodeFragment returns the form of a fragment.
func EncodeFragment(f api.Fragment) string {
	b := appendNumber(nil, f.Agent)
	b = appendNumber(b, f.Seq)
	b = appendList(b, f.Spans, appendSpan)
	b = appendList(b, f.Exchanges, appendExchange)
	return string(b)
}

// EncodeTrace returns the form of a trace.
func EncodeTrace(t api.Trace) string {
	b := appendNumber(nil, t.Id)
	b = appendNumber(b, t.Weight)
	b = appendList(b, t.Spans, appendSpan)
	return string(b)
}

// DecodeSpan returns the span with a form.
func DecodeSpan(s string) (api.Span, api.Errno) {
	return decode(s, func(r *Reader) api.Span { return r.Span() })
}

// DecodeFragment returns the fragment with a form.
func DecodeFragment(s string) (api.Fragment, api.Errno) {
	return decode(s, func(r *Reader) api.Fragment {
		return api.Fragment{
			Agent:     r.Number(),
			Seq:       r.Number(),
			Spans:     readList(r, r.Span),
			Exchanges: readList(r, r.Exchange),
		}
	})
}

// DecodeTrace returns the trace with a form.
func DecodeTrace(s string) (api.Trace, api.Errno) {
	return decode(s, func(r *Reader) api.Trace {
		return api.Trace{
			Id:     r.Number(),
			Weight: r.Number(),
			Spans:  readList(r, r.Span),
		}
	})
}

// decode returns what read makes of all of s.
func decode[T any](s string, read func(*Reader) T) (T, api.Errno) {
	r := NewReader(s)
	v := read(r)
	if e := r.End(); e != api.OK {
		var none T
		return none, e
	}
	return v, api.OK
}
