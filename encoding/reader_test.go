package encoding_test

import (
	"math"
	"math/rand"
	"reflect"
	"slices"
	"strings"
	"testing"

	"sleuth/api"
	"sleuth/encoding"
)

// a reading is one call of a reading method.
type reading struct {
	name string
	read func(r *encoding.Reader) any
	zero any
}

func readings() []reading {
	return []reading{
		{"Number", func(r *encoding.Reader) any { return r.Number() }, 0},
		{"Bool", func(r *encoding.Reader) any { return r.Bool() }, false},
		{"Text", func(r *encoding.Reader) any { return r.Text(10) }, ""},
		{"Count", func(r *encoding.Reader) any { return r.Count(10) }, 0},
		{"Value", func(r *encoding.Reader) any { return r.Value() }, api.Value{}},
		{"Attr", func(r *encoding.Reader) any { return r.Attr() }, api.Attr{}},
		{"Ref", func(r *encoding.Reader) any { return r.Ref() }, api.Ref{}},
		{"Exchange", func(r *encoding.Reader) any { return r.Exchange() }, api.Exchange{}},
		{"Message", func(r *encoding.Reader) any { return r.Message() }, api.Message{}},
		{"Span", func(r *encoding.Reader) any { return r.Span() }, api.Span{}},
	}
}

// checkFailure checks that a reader has failed with an error, leaves so many bytes, and reads nothing more.
func checkFailure(t *testing.T, name string, r *encoding.Reader, e api.Errno, left int) {
	t.Helper()
	for _, again := range readings() {
		if r.Err() != e || r.End() != e || r.Left() != left {
			t.Errorf("%s: Err %d, End %d, Left %d; want %d, %d", name, r.Err(), r.End(), r.Left(), e, left)
			return
		}
		if v := again.read(r); !reflect.DeepEqual(v, again.zero) {
			t.Errorf("%s: %s after an error: %v", name, again.name, v)
		}
	}
}

// P1.2: which numbers cannot be read, and why.
func TestNumbersThatCannotBeRead(t *testing.T) {
	cases := map[string]api.Errno{
		"":     api.ErrTruncated,
		"\x00": api.ErrForm,
		"\x77": api.ErrForm,
		"\x77\x01\x02\x03\x04\x05\x06\x07\x08\x09": api.ErrForm,
		"\x89": api.ErrForm,
		"\x89\x01\x02\x03\x04\x05\x06\x07\x08\x09": api.ErrForm,
		"\xff":                                 api.ErrForm,
		"\x81":                                 api.ErrTruncated,
		"\x82\x01":                             api.ErrTruncated,
		"\x82\x00":                             api.ErrTruncated, // too few bytes are found before a leading zero
		"\x7f":                                 api.ErrTruncated,
		"\x7e\xff":                             api.ErrTruncated,
		"\x88\xff\xff\xff\xff\xff\xff\xff":     api.ErrTruncated,
		"\x81\x00":                             api.ErrForm,
		"\x82\x00\x01":                         api.ErrForm,
		"\x7f\xff":                             api.ErrForm,
		"\x7e\xff\xfe":                         api.ErrForm,
		"\x88\x00\x7f\xff\xff\xff\xff\xff\xff": api.ErrForm,
		"\x88\x80\x00\x00\x00\x00\x00\x00\x00": api.ErrForm,
		"\x88\xff\xff\xff\xff\xff\xff\xff\xff": api.ErrForm,
		"\x78\x7f\xff\xff\xff\xff\xff\xff\xfe": api.ErrForm,
		"\x78\x00\x00\x00\x00\x00\x00\x00\x00": api.ErrForm,
	}
	for s, want := range cases {
		r := encoding.NewReader(s)
		if n := r.Number(); n != 0 {
			t.Errorf("%x: %d", s, n)
		}
		checkFailure(t, s, r, want, len(s))
	}
}

// P1.2: bools, strings and numbers of elements.
func TestParts(t *testing.T) {
	text := func(most int) func(*encoding.Reader) any {
		return func(r *encoding.Reader) any { return r.Text(most) }
	}
	count := func(most int) func(*encoding.Reader) any {
		return func(r *encoding.Reader) any { return r.Count(most) }
	}
	truth := func(r *encoding.Reader) any { return r.Bool() }
	for i, c := range []struct {
		form string
		read func(*encoding.Reader) any
		want any
		e    api.Errno
		left int
	}{
		{"\x80.", truth, false, api.OK, 1},
		{"\x81\x01.", truth, true, api.OK, 1},
		{"\x81\x02.", truth, false, api.ErrForm, 3},
		{"\x7f\xfe", truth, false, api.ErrForm, 2},
		{"\x82\x01\x01", truth, false, api.ErrForm, 3},
		{"\x81", truth, false, api.ErrTruncated, 1},
		{"", truth, false, api.ErrTruncated, 0},
		{"\x81\x00", truth, false, api.ErrForm, 2},

		{"\x81\x03abcd", text(3), "abc", api.OK, 1},
		{"\x81\x03abcd", text(math.MaxInt), "abc", api.OK, 1},
		{"\x80.", text(0), "", api.OK, 1},
		{"\x81\x03abcd", text(2), "", api.ErrLong, 6},
		{"\x80.", text(-1), "", api.ErrLong, 2},
		{"\x81\x05abcd", text(5), "", api.ErrTruncated, 6},
		{"\x81\x05abcd", text(4), "", api.ErrLong, 6},
		{"\x88\x7f\xff\xff\xff\xff\xff\xff\xff.", text(math.MaxInt), "", api.ErrTruncated, 10},
		{"\x7f\xfeabcd", text(-2), "", api.ErrForm, 6},
		{"\x78\x7f\xff\xff\xff\xff\xff\xff\xff.", text(5), "", api.ErrForm, 10},
		{"\x82\x01", text(5), "", api.ErrTruncated, 2},
		{"\x81\x00", text(5), "", api.ErrForm, 2},

		{"\x81\x03abcd", count(3), 3, api.OK, 4},
		{"\x81\x03abc", count(3), 3, api.OK, 3},
		{"\x80", count(0), 0, api.OK, 0},
		{"\x81\x03abcd", count(2), 0, api.ErrLimit, 6},
		{"\x80.", count(-1), 0, api.ErrLimit, 2},
		{"\x81\x05abcd", count(5), 0, api.ErrTruncated, 6},
		{"\x81\x05abcd", count(4), 0, api.ErrLimit, 6},
		{"\x7f\xfeabcd", count(5), 0, api.ErrForm, 6},
		{"\x89", count(5), 0, api.ErrForm, 1},
		{"", count(5), 0, api.ErrTruncated, 0},
	} {
		r := encoding.NewReader(c.form)
		if v := c.read(r); v != c.want || r.Err() != c.e || r.Left() != c.left {
			t.Errorf("%d: %v, Err %d, Left %d; want %v, %d, %d", i, v, r.Err(), r.Left(), c.want, c.e, c.left)
		}
		if c.e != api.OK {
			checkFailure(t, c.form, r, c.e, c.left)
		}
	}
}

// P1.2 and P1.3: one part is read after another, and End tells whether bytes are left.
func TestReaderAdvances(t *testing.T) {
	form := join(300, "text", 1, -5, 3, 1, 2)
	r := encoding.NewReader(form)
	if n, s := r.Number(), r.Text(4); n != 300 || s != "text" || r.Left() != len(join(1, -5, 3, 1, 2)) || r.End() != api.ErrForm || r.Err() != api.OK {
		t.Error(n, s, r.Left(), r.End(), r.Err())
	}
	b, n, x := r.Bool(), r.Number(), r.Ref()
	if !b || n != -5 || x != (api.Ref{Trace: 3, Id: 1}) || r.Left() != 2 || r.End() != api.ErrForm {
		t.Error(b, n, x, r.Left())
	}
	if n := r.Number(); n != 2 || r.Left() != 0 || r.End() != api.OK || r.Err() != api.OK {
		t.Error(n, r.Left(), r.End())
	}
	if n := r.Number(); n != 0 || r.End() != api.ErrTruncated {
		t.Error("a number behind the end")
	}
	var zero encoding.Reader
	if zero.Left() != 0 || zero.End() != api.OK || zero.Number() != 0 || zero.Err() != api.ErrTruncated {
		t.Error("the zero value of Reader")
	}
}

// P1.3: what Left returns after an error in the middle of a value: the bytes behind the last part without one.
func TestLeftAfterErrors(t *testing.T) {
	for i, c := range []struct {
		read int // the index of a reading
		form string
		e    api.Errno
		left int
	}{
		{4, join(1, "text") + "\x81\x00", api.ErrForm, 2},
		{4, join(1) + "\x81\x09text", api.ErrTruncated, 6},
		{4, join(1, strings.Repeat("x", api.MaxText+1), 2), api.ErrLong, 3 + api.MaxText + 1 + 2},
		{5, join("key", 1, "text") + "\x82\x01", api.ErrTruncated, 2},
		{5, join(strings.Repeat("x", api.MaxText+1), 1, "", 2), api.ErrLong, 3 + api.MaxText + 1 + 5},
		{6, join(1) + "\x00\x00", api.ErrForm, 2},
		{7, join(1, 2, 3, 4), api.ErrTruncated, 0},
		{8, join(1, 2, 3, 4), api.ErrTruncated, 0},
		{8, join(1, 2, 3, 4, 5, 6, 7, 8, 9) + "\xff.", api.ErrForm, 2},
		{9, join(1, 2, 3, 4, 5, 6, "s", "v", "o", 7, 8, 2, 0, 0), api.ErrForm, 4},
		{9, join(1, 2, 3, 4, 5, 6, "s", "v", "o", 7, 8, 1, 2, "k", 1, "x", 0, "k", 1, "x") + "\x81\x00", api.ErrForm, 2},
		{9, join(1, 2, 3, 4, 5, 6, "s", "v", "o", 7, 8, 1, 0, 3, 1), api.ErrTruncated, 4},
		{9, join(1, 2, 3, 4, 5, 6, "s", "v", "o", 7, 8, 1, 0, 2, 1, 2), api.ErrTruncated, 0},
		{9, join(1, 2, 3, 4, 5, 6, "s", "v", "o", 7, 8, 1, 0, -1), api.ErrForm, 2},
	} {
		r := encoding.NewReader(c.form)
		reading := readings()[c.read]
		if v := reading.read(r); !reflect.DeepEqual(v, reading.zero) {
			t.Errorf("%d: %s = %v", i, reading.name, v)
		}
		checkFailure(t, reading.name, r, c.e, c.left)
	}
}

// P1.3: a nil Reader.
func TestNilReader(t *testing.T) {
	var r *encoding.Reader
	checkFailure(t, "nil", r, api.ErrArgument, 0)
}

// P1.2 and P1.5: reading what was written returns it, wherever it stands.
func TestReadingWhatWasWritten(t *testing.T) {
	random := rand.New(rand.NewSource(2))
	for range 500 {
		var w encoding.Writer
		var reads []func(r *encoding.Reader) any
		var want []any
		for range 1 + random.Intn(8) {
			n, b, s := someNumber(random), random.Intn(2) == 1, someText(random)
			v, a, f := someValue(random), someAttr(random), someRef(random)
			x, m, p := someExchange(random), someMessage(random), someSpan(random)
			k := random.Intn(10)
			all := readings()
			all[2].read = func(r *encoding.Reader) any { return r.Text(len(s)) }
			writes := []func(){
				func() { w.Number(n) }, func() { w.Bool(b) }, func() { w.Text(s) }, func() { w.Number(0) },
				func() { w.Value(v) }, func() { w.Attr(a) }, func() { w.Ref(f) },
				func() { w.Exchange(x) }, func() { w.Message(m) }, func() { w.Span(p) },
			}
			writes[k]()
			reads = append(reads, all[k].read)
			want = append(want, []any{n, b, s, 0, v, a, f, x, m, p}[k])
		}
		r := encoding.NewReader(w.Bytes())
		for i, read := range reads {
			if got := read(r); !reflect.DeepEqual(got, want[i]) || r.Err() != api.OK {
				t.Fatalf("read %v, want %v, error %d", got, want[i], r.Err())
			}
		}
		if r.End() != api.OK || r.Left() != 0 {
			t.Fatalf("End %d, Left %d", r.End(), r.Left())
		}
	}
}

// P1.5: of two numbers, the lesser one has the form that comes first, and no form begins another one.
func TestOrderOfForms(t *testing.T) {
	numbers := interestingNumbers()
	random := rand.New(rand.NewSource(3))
	for range 300 {
		numbers = append(numbers, someNumber(random))
	}
	slices.Sort(numbers)
	numbers = slices.Compact(numbers)
	forms := make([]string, len(numbers))
	for i, n := range numbers {
		forms[i] = written(func(w *encoding.Writer) { w.Number(n) })
		if r := encoding.NewReader(forms[i]); r.Number() != n || r.End() != api.OK {
			t.Errorf("%d is not read", n)
		}
	}
	for i := range forms {
		for j := i + 1; j < len(forms); j++ {
			if forms[i] >= forms[j] || strings.HasPrefix(forms[j], forms[i]) {
				t.Errorf("the forms of %d and %d: %x, %x", numbers[i], numbers[j], forms[i], forms[j])
			}
		}
	}
}
