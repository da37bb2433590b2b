package encoding_test

import (
	"math/rand"
	"reflect"
	"slices"
	"strings"
	"testing"

	"sleuth/api"
	"sleuth/encoding"
)

// a coding is a pair of functions for one type.
type coding struct {
	name   string
	some   func(*rand.Rand) any
	encode func(v any) string
	decode func(s string) (any, api.Errno)
	zero   any
}

func codings() []coding {
	return []coding{
		{
			"Span",
			func(r *rand.Rand) any { return someSpan(r) },
			func(v any) string { return encoding.EncodeSpan(v.(api.Span)) },
			func(s string) (any, api.Errno) { return decoded(encoding.DecodeSpan(s)) },
			api.Span{},
		},
		{
			"Fragment",
			func(r *rand.Rand) any { return someFragment(r) },
			func(v any) string { return encoding.EncodeFragment(v.(api.Fragment)) },
			func(s string) (any, api.Errno) { return decoded(encoding.DecodeFragment(s)) },
			api.Fragment{},
		},
		{
			"Trace",
			func(r *rand.Rand) any { return someTrace(r) },
			func(v any) string { return encoding.EncodeTrace(v.(api.Trace)) },
			func(s string) (any, api.Errno) { return decoded(encoding.DecodeTrace(s)) },
			api.Trace{},
		},
	}
}

func decoded[T any](v T, e api.Errno) (any, api.Errno) { return v, e }

func (c coding) expect(t *testing.T, s string, want any, e api.Errno) {
	t.Helper()
	if got, err := c.decode(s); err != e || !reflect.DeepEqual(got, want) {
		t.Errorf("Decode%s: %v, %d; want %v, %d", c.name, got, err, want, e)
	}
}

// P1.4 and P1.5: what was encoded is decoded; a proper beginning is truncated, and a further byte is an error of form.
func TestDecodeInvertsEncode(t *testing.T) {
	random := rand.New(rand.NewSource(4))
	for _, c := range codings() {
		c.expect(t, c.encode(c.zero), c.zero, api.OK)
		for range 200 {
			v := c.some(random)
			form := c.encode(v)
			c.expect(t, form, v, api.OK)
			c.expect(t, form+"\x80", c.zero, api.ErrForm)
			c.expect(t, form+string(rune(random.Intn(128))), c.zero, api.ErrForm)
			for range 5 {
				c.expect(t, form[:random.Intn(len(form))], c.zero, api.ErrTruncated)
			}
		}
		form := c.encode(c.some(random))
		for size := range len(form) {
			c.expect(t, form[:size], c.zero, api.ErrTruncated)
		}
	}
}

// P1.4 and P1.5: a form in which bytes are changed, if it can be decoded at all, is the form of what is decoded.
func TestDecodedFormsAreCanonical(t *testing.T) {
	random := rand.New(rand.NewSource(5))
	for _, c := range codings() {
		accepted := 0
		for range 3000 {
			form := []byte(c.encode(c.some(random)))
			for range 1 + random.Intn(3) {
				form[random.Intn(len(form))] = byte(118 + random.Intn(20))
			}
			v, e := c.decode(string(form))
			if e == api.OK && c.encode(v) != string(form) {
				t.Errorf("%x is decoded, but is no form", form)
			}
			if e != api.OK && !reflect.DeepEqual(v, c.zero) {
				t.Errorf("a value together with the error %d: %v", e, v)
			}
			if e == api.OK {
				accepted++
			}
		}
		if accepted == 0 {
			t.Errorf("%s: no changed form was decoded, so nothing was tested", c.name)
		}
	}
}

// P1.4: the limits of strings and lists in the forms of api's types.
func TestLimits(t *testing.T) {
	most, tooLong := strings.Repeat("x", api.MaxText), strings.Repeat("x", api.MaxText+1)
	span := codings()[0]
	for _, fits := range []api.Span{
		{Service: most, Version: most, Operation: most},
		{Attrs: []api.Attr{{Key: most, Value: api.Value{Text: most}}}},
		{Attrs: make([]api.Attr, api.MaxRecords), Links: make([]api.Ref, api.MaxRecords)},
	} {
		span.expect(t, encoding.EncodeSpan(fits), fits, api.OK)
	}
	for _, c := range []struct {
		exceeds api.Span
		e       api.Errno
	}{
		{api.Span{Service: tooLong}, api.ErrLong},
		{api.Span{Version: tooLong}, api.ErrLong},
		{api.Span{Operation: tooLong}, api.ErrLong},
		{api.Span{Attrs: []api.Attr{{Key: tooLong}}}, api.ErrLong},
		{api.Span{Attrs: []api.Attr{{Value: api.Value{Text: tooLong}}}}, api.ErrLong},
		{api.Span{Attrs: make([]api.Attr, api.MaxRecords+1)}, api.ErrLimit},
		{api.Span{Links: make([]api.Ref, api.MaxRecords+1)}, api.ErrLimit},
	} {
		span.expect(t, encoding.EncodeSpan(c.exceeds), api.Span{}, c.e)
	}
	fragment, trace := codings()[1], codings()[2]
	spans, exchanges := make([]api.Span, api.MaxRecords+1), make([]api.Exchange, api.MaxRecords+1)
	fragment.expect(t, encoding.EncodeFragment(api.Fragment{Spans: spans}), api.Fragment{}, api.ErrLimit)
	fragment.expect(t, encoding.EncodeFragment(api.Fragment{Exchanges: exchanges}), api.Fragment{}, api.ErrLimit)
	trace.expect(t, encoding.EncodeTrace(api.Trace{Spans: spans}), api.Trace{}, api.ErrLimit)
	full := api.Fragment{Spans: spans[1:], Exchanges: exchanges[1:]}
	fragment.expect(t, encoding.EncodeFragment(full), full, api.OK)
	trace.expect(t, encoding.EncodeTrace(api.Trace{Spans: spans[1:]}), api.Trace{Spans: spans[1:]}, api.OK)
}

// P1.4: the first error of reading is returned, before bytes that are left.
func TestFirstError(t *testing.T) {
	span, fragment, trace := codings()[0], codings()[1], codings()[2]
	span.expect(t, join(1, 2, 3, 4, 5, 6, "", "", "", 7, 8, 2, 0, 0)+"\x82\x01", api.Span{}, api.ErrForm)
	span.expect(t, join(1, 2, 3, 4, 5, 6, "", "", "", 7, 8, 0, 5000), api.Span{}, api.ErrLimit)
	span.expect(t, join(1, 2, 3, 4, 5, 6, "", "", "", 7, 8, 0, 5), api.Span{}, api.ErrTruncated)
	span.expect(t, "", api.Span{}, api.ErrTruncated)
	fragment.expect(t, join(1, 2, 0, -1), api.Fragment{}, api.ErrForm)
	fragment.expect(t, join(1, 2, 1)+fullSpanForm+join(2, 1, 2, 3, 4, 5, 6), api.Fragment{}, api.ErrTruncated)
	fragment.expect(t, join(1, 2, 1)+fullSpanForm+join(0, 0), api.Fragment{}, api.ErrForm)
	trace.expect(t, join(1, 2)+"\x81\x00", api.Trace{}, api.ErrForm)
	trace.expect(t, join(5, 1, 0, 0), api.Trace{}, api.ErrForm)
}

// P1: nothing panics, whatever the bytes are, and together with an error there are zero values.
func TestGarbage(t *testing.T) {
	random := rand.New(rand.NewSource(6))
	for range 20000 {
		b := make([]byte, random.Intn(40))
		for i := range b {
			b[i] = byte(random.Intn(256))
			if random.Intn(3) > 0 {
				b[i] = byte(124 + random.Intn(10))
			}
		}
		s := string(b)
		for _, c := range codings() {
			if v, e := c.decode(s); e != api.OK {
				c.expect(t, s, c.zero, e)
			} else if c.encode(v) != s {
				t.Errorf("%x is decoded, but is no form", s)
			}
		}
		r := encoding.NewReader(s)
		for range 5 {
			all := readings()
			reading := all[random.Intn(len(all))]
			left := r.Left()
			v := reading.read(r)
			if r.Err() != api.OK && !reflect.DeepEqual(v, reading.zero) {
				t.Fatalf("%s of %x: %v with the error %d", reading.name, s, v, r.Err())
			}
			if r.Left() > left || r.Left() < 0 {
				t.Fatalf("%s of %x: Left %d", reading.name, s, r.Left())
			}
		}
	}
}

// The rule that results are newly allocated.
func TestDecodedValuesAreIndependent(t *testing.T) {
	form := encoding.EncodeSpan(fullSpan)
	a, _ := encoding.DecodeSpan(form)
	b, _ := encoding.DecodeSpan(form)
	a.Attrs[0].Key, a.Links[0].Id = "other", 99
	a.Attrs = append(a.Attrs[:1], api.Attr{Key: "further"})
	if !reflect.DeepEqual(b, fullSpan) {
		t.Error("two decoded spans share memory")
	}
	f, _ := encoding.DecodeFragment(encoding.EncodeFragment(api.Fragment{Spans: []api.Span{fullSpan, fullSpan}}))
	f.Spans[0].Attrs[1].Key = "other"
	if !reflect.DeepEqual(f.Spans[1], fullSpan) {
		t.Error("two spans of one fragment share memory")
	}
	if !slices.Equal(fullSpan.Links, []api.Ref{{Trace: 10, Id: 11}, {Trace: 12, Id: 13}, {Trace: 14, Id: 15}}) {
		t.Error("the encoded span was modified")
	}
}
