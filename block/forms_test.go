package block_test

import (
	"fmt"
	"math/rand"
	"slices"
	"strings"
	"testing"

	"sleuth/api"
	"sleuth/block"
	"sleuth/column"
	"sleuth/dictionary"
	"sleuth/encoding"
	"sleuth/span"
)

// ints returns the form of a column.
func ints(l ...int) string {
	c, _ := column.New(l)
	return c.Encode()
}

// strs returns the encoded form of a dictionary.
func strs(l ...string) string {
	d, _ := dictionary.Build(l)
	form, _ := dictionary.Encode(d)
	return form
}

// codes returns the form of the column of the codes of strings.
func codes(l ...string) string {
	d, _ := dictionary.Build(l)
	c, _ := dictionary.Codes(d, l)
	return ints(c...)
}

// The indices of some parts of a form.
const (
	partRows = iota
	partTrace
	partId
	partParent
	partRevision
	partClock
	partKind
	partStart
	partDuration
	partError
	partService
	partServiceCodes
	partVersion
	partVersionCodes
	partOperation
	partOperationCodes
	partAttrs
	partKeys
	partKeyCodes
	partKinds
	partTexts
	partValues
	partLinks
	partLinkTraces
	partLinkIds
	allParts
)

// partsOf returns the parts of the form of a set of records.
func partsOf(l []api.Span) []any {
	numbers := map[int][]int{}
	names := map[int][]string{}
	var texts []string
	for _, s := range l {
		failed := 0
		if s.Error {
			failed = 1
		}
		for k, n := range []int{s.Trace, s.Id, s.Parent, s.Revision, s.Clock, s.Kind, s.Start, s.End - s.Start, failed} {
			numbers[partTrace+k] = append(numbers[partTrace+k], n)
		}
		for k, name := range []string{s.Service, s.Version, s.Operation} {
			names[partService+2*k] = append(names[partService+2*k], name)
		}
		numbers[partAttrs] = append(numbers[partAttrs], len(s.Attrs))
		numbers[partLinks] = append(numbers[partLinks], len(s.Links))
		for _, a := range s.Attrs {
			names[partKeys] = append(names[partKeys], a.Key)
			numbers[partKinds] = append(numbers[partKinds], a.Value.Kind)
			if a.Value.Kind == api.KindString {
				texts = append(texts, a.Value.Text)
			}
		}
		for _, r := range s.Links {
			numbers[partLinkTraces] = append(numbers[partLinkTraces], r.Trace)
			numbers[partLinkIds] = append(numbers[partLinkIds], r.Id)
		}
	}
	d, _ := dictionary.Build(texts)
	for _, s := range l {
		for _, a := range s.Attrs {
			n := a.Value.Int
			if a.Value.Kind == api.KindString {
				n = slices.Index(d, a.Value.Text)
			}
			numbers[partValues] = append(numbers[partValues], n)
		}
	}
	parts := []any{len(l)}
	for k := partTrace; k < allParts; k++ {
		switch {
		case k == partTexts:
			parts = append(parts, strs(texts...))
		case k == partService || k == partVersion || k == partOperation || k == partKeys:
			parts = append(parts, strs(names[k]...))
		case k == partServiceCodes || k == partVersionCodes || k == partOperationCodes || k == partKeyCodes:
			parts = append(parts, codes(names[k-1]...))
		default:
			parts = append(parts, ints(numbers[k]...))
		}
	}
	return parts
}

// P29.6: the second example of the document.
func TestEncodeEmpty(t *testing.T) {
	empty, none := "\x81\x03\x81\x01\x80", "\x81\x02\x00\x00"
	want := "\x80" + strings.Repeat(empty, 9) + strings.Repeat(none+empty, 3) +
		empty + none + empty + empty + none + empty + strings.Repeat(empty, 3)
	if got := made(t).Encode(); got != want {
		t.Errorf("Encode of no rows: %x, want %x", got, want)
	}
}

// P29.6: the form, byte for byte.
func TestEncodeOne(t *testing.T) {
	s := api.Span{
		Trace: 5, Id: 6, Parent: 7, Revision: 8, Clock: 9, Kind: 3, Service: "s", Version: "v", Operation: "o", Start: -1, End: 3, Error: true,
		Attrs: []api.Attr{number("k", 2), text("l", "t")}, Links: []api.Ref{{Trace: 10, Id: 11}},
	}
	one := func(n byte) string { return "\x81\x06\x81\x01\x81\x01\x81" + string([]byte{n}) }
	name := func(s string) string { return "\x81\x04\x00\x01\x01" + s }
	code := "\x81\x05\x81\x01\x81\x01\x80"
	want := "\x81\x01" +
		one(5) + one(6) + one(7) + one(8) + one(9) + one(3) + "\x81\x06\x81\x01\x81\x01\x7f\xfe" + one(4) + one(1) +
		name("s") + code + name("v") + code + name("o") + code +
		one(2) + "\x81\x07\x00\x02\x01k\x00\x01l" + "\x81\x07\x81\x01\x81\x02\x80\x81\x01" +
		"\x81\x08\x81\x01\x81\x02\x81\x02\x81\x01" + name("t") + "\x81\x07\x81\x01\x81\x02\x81\x02\x80" +
		one(1) + one(10) + one(11)
	if got := made(t, s).Encode(); got != want {
		t.Errorf("Encode: %x, want %x", got, want)
	}
}

// P29.6, P29.8: the form consists of the forms of the columns, and what is decoded is what was encoded.
func TestEncode(t *testing.T) {
	rng := rand.New(rand.NewSource(6))
	lists := [][]api.Span{nil, mixed(), mixed()[:1], mixed()[4:]}
	for round := range 200 {
		lists = append(lists, span.Set(random(rng, round%30)))
	}
	for _, l := range lists {
		b := made(t, l...)
		form := b.Encode()
		if want := encoded(partsOf(l)...); form != want {
			t.Fatalf("Encode of %v: %x, want %x", l, form, want)
		}
		decoded, e := block.Decode(form)
		if e != api.OK || !decoded.Equal(b) || decoded.Encode() != form {
			t.Fatalf("Decode of the form of %v: %d", l, e)
		}
		expectSpans(t, "Spans of what is decoded", decoded.Spans(), l)
		expectChosen(t, decoded, l)
	}
}

// expectNoForm expects that a string is the form of no block.
func expectNoForm(t *testing.T, what, s string) {
	t.Helper()
	b, e := block.Decode(s)
	expectNone(t, what, b, e, api.ErrForm)
}

// P29.6, P29.8: no proper beginning of a form is one, nor is a form with a further byte.
func TestDecodeLengths(t *testing.T) {
	for _, l := range [][]api.Span{nil, mixed()[:1], mixed()} {
		form := made(t, l...).Encode()
		for size := range len(form) {
			expectNoForm(t, fmt.Sprintf("%d bytes of %d", size, len(form)), form[:size])
		}
		expectNoForm(t, "a further byte", form+"\x80")
		expectNoForm(t, "twice the form", form+form)
	}
}

// P29.6: a form of which a byte is changed is none, or that of another block.
func TestDecodeBytes(t *testing.T) {
	form := made(t, mixed()...).Encode()
	before := made(t, mixed()...)
	for k := range len(form) {
		for _, change := range []byte{1, 2, 127, 128, 255} {
			changed := []byte(form)
			changed[k] ^= change
			b, e := block.Decode(string(changed))
			switch {
			case e == api.OK && (b.Encode() != string(changed) || b.Equal(before)):
				t.Errorf("the byte %d changed by %d: another block", k, change)
			case e != api.OK:
				expectNone(t, "a changed byte", b, e, api.ErrForm)
			}
		}
	}
}

// P29.6: a part that is wrong.
func TestDecodeParts(t *testing.T) {
	long := strings.Repeat("x", 4)
	for what, c := range map[string]struct {
		part int
		with any
	}{
		"too few rows":                    {partRows, 4},
		"too many rows":                   {partRows, 6},
		"no rows":                         {partRows, 0},
		"negative rows":                   {partRows, -1},
		"very many rows":                  {partRows, 1 << 62},
		"a string for the rows":           {partRows, "x"},
		"a number for a string":           {partTrace, 5},
		"traces out of order":             {partTrace, ints(1, 1, 1, api.MaxId, 5)},
		"a trace out of range":            {partTrace, ints(0, 1, 1, 5, api.MaxId)},
		"fewer traces":                    {partTrace, ints(1, 1, 1, 5)},
		"more traces":                     {partTrace, ints(1, 1, 1, 5, api.MaxId, api.MaxId)},
		"no traces":                       {partTrace, ints()},
		"no column":                       {partTrace, ""},
		"not the shortest form":           {partTrace, "\x81\x01\x81\x05\x81\x01\x81\x01\x81\x01\x81\x01\x81\x02"},
		"fewer ids":                       {partId, ints(2, 2, 3)},
		"a revision out of range":         {partRevision, ints(0, 4, 0, 0, api.MaxSmall+1)},
		"no clock":                        {partClock, ints(3, 3, 0, 7, 7)},
		"an unknown kind":                 {partKind, ints(2, 2, 3, 6, 1)},
		"more kinds":                      {partKind, ints(2, 2, 3, 5, 1, 1)},
		"a start out of range":            {partStart, ints(-50, -50, 0, api.MaxTime+1, -api.MaxTime)},
		"a negative duration":             {partDuration, ints(0, 150, -1, 0, api.MaxTime)},
		"a duration out of range":         {partDuration, ints(0, 150, 8, 1, api.MaxTime)},
		"an error 2":                      {partError, ints(0, 1, 0, 0, 2)},
		"an error -1":                     {partError, ints(0, 1, -1, 0, 1)},
		"fewer errors":                    {partError, ints(0, 1, 0, 0)},
		"an unused service":               {partService, strs("a", "api", "web", "z")},
		"a missing service":               {partService, strs("a", "api")},
		"no dictionary":                   {partService, ""},
		"a service that is no name":       {partService, strs("a", "api", "w b")},
		"services out of order":           {partService, "\x00\x03\x03web\x00\x01a\x00\x03api"},
		"a code too great":                {partServiceCodes, ints(2, 2, 1, 1, 3)},
		"a very great code":               {partServiceCodes, ints(2, 2, 1, 1, 1<<60)},
		"a negative code":                 {partServiceCodes, ints(2, 2, 1, 1, -1)},
		"fewer codes":                     {partServiceCodes, ints(2, 2, 1, 1)},
		"more codes":                      {partServiceCodes, ints(2, 2, 1, 1, 0, 0)},
		"a version that is no name":       {partVersion, strs("", "a", "v 1", "v2")},
		"versions without the empty one":  {partVersion, strs("a", "v1", "v2")},
		"an operation without a name":     {partOperation, strs("", "a", "get", "put")},
		"a further attribute":             {partAttrs, ints(2, 3, 0, 1, 2)},
		"an attribute less":               {partAttrs, ints(2, 3, 0, 1, 0)},
		"attributes of other spans":       {partAttrs, ints(3, 2, 0, 1, 1)},
		"a negative number of attributes": {partAttrs, ints(2, 3, -1, 1, 2)},
		"negative numbers of attributes":  {partAttrs, ints(-1, -2, -1, -4, 8)},
		"numbers that overflow":           {partAttrs, ints(1<<60, 1<<60, 1<<60, 1<<60, 1<<60)},
		"fewer numbers of attributes":     {partAttrs, ints(2, 3, 0, 2)},
		"more numbers of attributes":      {partAttrs, ints(2, 3, 0, 1, 1, 0)},
		"no numbers of attributes":        {partAttrs, ""},
		"an unused key":                   {partKeys, strs("count", "region", "retry", "s")},
		"a missing key":                   {partKeys, strs("count", "region")},
		"a key that is no name":           {partKeys, strs("", "count", "region")},
		"keys out of order":               {partKeyCodes, codes("region", "count", "count", "region", "retry", "retry", "region")},
		"equal keys":                      {partKeyCodes, codes("count", "count", "count", "region", "retry", "retry", "region")},
		"fewer keys":                      {partKeyCodes, codes("count", "region", "count", "region", "retry", "retry")},
		"more keys":                       {partKeyCodes, codes("count", "region", "count", "region", "retry", "retry", "region", "region")},
		"an unknown kind of a value":      {partKinds, ints(2, 1, 2, 1, 3, 4, 1)},
		"a bool that is neither":          {partKinds, ints(3, 1, 2, 1, 3, 3, 1)},
		"a text without a code":           {partKinds, ints(1, 1, 2, 1, 3, 3, 1)},
		"fewer kinds":                     {partKinds, ints(2, 1, 2, 1, 3, 3)},
		"more kinds of values":            {partKinds, ints(2, 1, 2, 1, 3, 3, 1, 1)},
		"an unused text":                  {partTexts, strs("", "eu", "us", long)},
		"a missing text":                  {partTexts, strs("", "eu")},
		"a text that is none":             {partTexts, strs("", "eu", "u\ts")},
		"a code of no text":               {partValues, ints(-7, 3, 0, 0, 1, 0, 2)},
		"a negative code of a text":       {partValues, ints(-7, -1, 0, 0, 1, 0, 2)},
		"an int out of range":             {partValues, ints(-api.MaxTime-1, 1, 0, 0, 1, 0, 2)},
		"fewer values":                    {partValues, ints(-7, 1, 0, 0, 1, 0)},
		"more values":                     {partValues, ints(-7, 1, 0, 0, 1, 0, 2, 2)},
		"no values":                       {partValues, ""},
		"a further link":                  {partLinks, ints(0, 1, 0, 3, 1)},
		"a link less":                     {partLinks, ints(0, 1, 0, 2, 0)},
		"a negative number of links":      {partLinks, ints(0, -1, 2, 3, 0)},
		"very many links":                 {partLinks, ints(0, 1<<60, 0, 3, 0)},
		"fewer numbers of links":          {partLinks, ints(0, 1, 0, 3)},
		"a link of no trace":              {partLinkTraces, ints(0, 1, 1, api.MaxId)},
		"links out of order":              {partLinkIds, ints(1, 3, 2, api.MaxId)},
		"fewer traces of links":           {partLinkTraces, ints(9, 1, 1)},
		"more traces of links":            {partLinkTraces, ints(9, 1, 1, api.MaxId, 1)},
		"fewer ids of links":              {partLinkIds, ints(1, 2, 3)},
		"more ids of links":               {partLinkIds, ints(1, 2, 3, api.MaxId, 1)},
	} {
		parts := partsOf(mixed())
		if form := encoded(parts...); form != made(t, mixed()...).Encode() {
			t.Fatal("the parts are not those of the form")
		}
		parts[c.part] = c.with
		expectNoForm(t, what, encoded(parts...))
	}
}

// P29.6: records that are repeated, or not in order, or too many.
func TestDecodeRecords(t *testing.T) {
	l := mixed()
	for what, wrong := range map[string][]api.Span{
		"repeated":                  {l[0], l[0], l[1]},
		"repeated at the end":       append(slices.Clone(l), l[4]),
		"revisions not in order":    {l[1], l[0]},
		"traces not in order":       {l[3], l[0]},
		"attributes not in order":   {with(l[2], text("b", "x"), text("a", "x"))},
		"links not in order":        {linked(l[2], api.Ref{Trace: 2, Id: 1}, api.Ref{Trace: 1, Id: 1})},
		"too many attributes":       {with(l[2], several(33)...)},
		"too many links":            {linked(l[2], refs(17)...)},
		"the zero span":             {{}},
		"an end before the start":   {{Trace: 1, Id: 1, Clock: 1, Kind: 1, Service: "a", Operation: "b", End: -1}},
		"one of them is not a span": {l[0], {Trace: 2}, l[4]},
	} {
		expectNoForm(t, what, encoded(partsOf(wrong)...))
	}
}

// P1: what is no form at all.
func TestDecodeGarbage(t *testing.T) {
	rng := rand.New(rand.NewSource(1))
	for _, s := range []string{"", "\x80", "\x81", "\x00", "garbage", strings.Repeat("\x80", 99), strings.Repeat("\x81\x01", 99), strings.Repeat("\xff", 99)} {
		expectNoForm(t, fmt.Sprintf("%x", s), s)
	}
	for range 500 {
		b := make([]byte, rng.Intn(200))
		rng.Read(b)
		expectNoForm(t, fmt.Sprintf("%x", b), string(b))
	}
}

// encoded returns a form whose parts are given one after another.
func encoded(parts ...any) string {
	var w encoding.Writer
	for _, p := range parts {
		switch p := p.(type) {
		case int:
			w.Number(p)
		case string:
			w.Text(p)
		}
	}
	return w.Bytes()
}
