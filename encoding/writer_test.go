package encoding_test

import (
	"fmt"
	"math"
	"math/big"
	"math/rand"
	"reflect"
	"slices"
	"strings"
	"testing"

	"sleuth/api"
	"sleuth/encoding"
)

// numberForm computes the form of a number by the words of the document, with big numbers.
func numberForm(n int) string {
	magnitude := new(big.Int).Abs(big.NewInt(int64(n))).Bytes()
	form := []byte{byte(128 + len(magnitude))}
	if n < 0 {
		form[0] = byte(128 - len(magnitude))
	}
	for _, b := range magnitude {
		if n < 0 {
			b = 255 - b
		}
		form = append(form, b)
	}
	return string(form)
}

func textForm(s string) string { return numberForm(len(s)) + s }

// join returns the forms of numbers and strings, one after another.
func join(parts ...any) string {
	var form strings.Builder
	for _, p := range parts {
		switch p := p.(type) {
		case int:
			form.WriteString(numberForm(p))
		case string:
			form.WriteString(textForm(p))
		default:
			panic(fmt.Sprint("no part: ", p))
		}
	}
	return form.String()
}

func written(write func(w *encoding.Writer)) string {
	var w encoding.Writer
	write(&w)
	return w.Bytes()
}

// interestingNumbers are the numbers near the powers of 2, in increasing order.
func interestingNumbers() []int {
	numbers := []int{math.MinInt, math.MaxInt}
	for shift := range 63 {
		for d := -2; d <= 2; d++ {
			numbers = append(numbers, 1<<shift+d, -(1<<shift)+d)
		}
	}
	slices.Sort(numbers)
	return slices.Compact(numbers)
}

// someNumber returns a number whose number of bits is random.
func someNumber(random *rand.Rand) int {
	return int(random.Uint64()) >> random.Intn(64)
}

func someText(random *rand.Rand) string {
	b := make([]byte, random.Intn(6)*random.Intn(6))
	random.Read(b)
	return string(b)
}

func someList[T any](random *rand.Rand, element func(*rand.Rand) T) []T {
	var list []T
	for range random.Intn(4) {
		list = append(list, element(random))
	}
	return list
}

func someValue(r *rand.Rand) api.Value {
	return api.Value{Kind: someNumber(r), Text: someText(r), Int: someNumber(r)}
}

func someAttr(r *rand.Rand) api.Attr { return api.Attr{Key: someText(r), Value: someValue(r)} }

func someRef(r *rand.Rand) api.Ref { return api.Ref{Trace: someNumber(r), Id: someNumber(r)} }

func someExchange(r *rand.Rand) api.Exchange {
	return api.Exchange{From: someNumber(r), To: someNumber(r), Sent: someNumber(r), Received: someNumber(r), Least: someNumber(r)}
}

func someMessage(r *rand.Rand) api.Message {
	return api.Message{Kind: someNumber(r), A: someRef(r), B: someRef(r), From: someNumber(r), To: someNumber(r), Sent: someNumber(r), Received: someNumber(r), Least: someNumber(r)}
}

func someSpan(r *rand.Rand) api.Span {
	return api.Span{
		Trace: someNumber(r), Id: someNumber(r), Parent: someNumber(r), Revision: someNumber(r), Clock: someNumber(r), Kind: someNumber(r),
		Service: someText(r), Version: someText(r), Operation: someText(r),
		Start: someNumber(r), End: someNumber(r), Error: r.Intn(2) == 1,
		Attrs: someList(r, someAttr), Links: someList(r, someRef),
	}
}

func someFragment(r *rand.Rand) api.Fragment {
	return api.Fragment{Agent: someNumber(r), Seq: someNumber(r), Spans: someList(r, someSpan), Exchanges: someList(r, someExchange)}
}

func someTrace(r *rand.Rand) api.Trace {
	return api.Trace{Id: someNumber(r), Weight: someNumber(r), Spans: someList(r, someSpan)}
}

// P1.1: the forms of numbers, the ones that the document names among them.
func TestNumberForms(t *testing.T) {
	named := map[int]string{
		0: "\x80", 1: "\x81\x01", 256: "\x82\x01\x00", 300: "\x82\x01\x2c",
		-1: "\x7f\xfe", -256: "\x7e\xfe\xff", -300: "\x7e\xfe\xd3",
		math.MaxInt: "\x88\x7f\xff\xff\xff\xff\xff\xff\xff",
		math.MinInt: "\x78\x7f\xff\xff\xff\xff\xff\xff\xff",
	}
	for n, want := range named {
		if got := written(func(w *encoding.Writer) { w.Number(n) }); got != want {
			t.Errorf("form of %d: %x, want %x", n, got, want)
		}
	}
	for _, n := range interestingNumbers() {
		if got := written(func(w *encoding.Writer) { w.Number(n) }); got != numberForm(n) {
			t.Errorf("form of %d: %x, want %x", n, got, numberForm(n))
		}
	}
}

// P1.1: the forms of all other arguments.
func TestForms(t *testing.T) {
	long := strings.Repeat("x", 70000)
	value := api.Value{Kind: 1, Text: "text", Int: -2}
	message := api.Message{Kind: 1, A: api.Ref{Trace: 2, Id: 3}, B: api.Ref{Trace: 4, Id: 5}, From: 6, To: 7, Sent: -8, Received: 900, Least: 10}
	for i, c := range []struct{ got, want string }{
		{written(func(w *encoding.Writer) {}), ""},
		{written(func(w *encoding.Writer) { w.Bool(false) }), "\x80"},
		{written(func(w *encoding.Writer) { w.Bool(true) }), "\x81\x01"},
		{written(func(w *encoding.Writer) { w.Text("") }), "\x80"},
		{written(func(w *encoding.Writer) { w.Text("a\x00\xff") }), "\x81\x03a\x00\xff"},
		{written(func(w *encoding.Writer) { w.Text(long) }), join(long)},
		{written(func(w *encoding.Writer) { w.Value(value) }), join(1, "text", -2)},
		{written(func(w *encoding.Writer) { w.Attr(api.Attr{Key: "key", Value: value}) }), join("key", 1, "text", -2)},
		{written(func(w *encoding.Writer) { w.Attr(api.Attr{Key: "a", Value: api.Value{Kind: api.KindBool, Int: 1}}) }), "\x81\x01a\x81\x03\x80\x81\x01"},
		{written(func(w *encoding.Writer) { w.Ref(api.Ref{Trace: 7, Id: 0}) }), "\x81\x07\x80"},
		{written(func(w *encoding.Writer) { w.Ref(api.Ref{Trace: 3, Id: 4}) }), join(3, 4)},
		{written(func(w *encoding.Writer) {
			w.Exchange(api.Exchange{From: 1, To: 2, Sent: 3, Received: 4, Least: 5})
		}), join(1, 2, 3, 4, 5)},
		{written(func(w *encoding.Writer) { w.Message(message) }), join(1, 2, 3, 4, 5, 6, 7, -8, 900, 10)},
	} {
		if c.got != c.want {
			t.Errorf("%d: %x, want %x", i, c.got, c.want)
		}
	}
}

var fullSpan = api.Span{
	Trace: 1, Id: 2, Parent: 3, Revision: 4, Clock: 5, Kind: 6,
	Service: "service", Version: "version", Operation: "operation", Start: 7, End: 8, Error: true,
	Attrs: []api.Attr{{Key: "k", Value: api.Value{Kind: 2, Int: 9}}, {Key: "l", Value: api.Value{Kind: 1, Text: "m"}}},
	Links: []api.Ref{{Trace: 10, Id: 11}, {Trace: 12, Id: 13}, {Trace: 14, Id: 15}},
}

var fullSpanForm = join(1, 2, 3, 4, 5, 6, "service", "version", "operation", 7, 8, 1, 2, "k", 2, "", 9, "l", 1, "m", 0, 3, 10, 11, 12, 13, 14, 15)

// P1.1 and P1.4: a span has the same form by both ways, and those of fragments and traces contain it.
func TestSpanForms(t *testing.T) {
	empty := join(0, 0, 0, 0, 0, 0, "", "", "", 0, 0, 0, 0, 0)
	exchange := api.Exchange{From: 1, To: 2, Sent: 3, Received: 4, Least: 5}
	fragment := api.Fragment{Agent: 20, Seq: 21, Spans: []api.Span{fullSpan, {}}, Exchanges: []api.Exchange{exchange, {}}}
	for i, c := range []struct{ got, want string }{
		{written(func(w *encoding.Writer) { w.Span(fullSpan) }), fullSpanForm},
		{encoding.EncodeSpan(fullSpan), fullSpanForm},
		{encoding.EncodeSpan(api.Span{}), empty},
		{encoding.EncodeSpan(api.Span{Attrs: []api.Attr{}, Links: []api.Ref{}}), empty},
		{encoding.EncodeFragment(api.Fragment{}), join(0, 0, 0, 0)},
		{encoding.EncodeFragment(fragment), join(20, 21, 2) + fullSpanForm + empty + join(2, 1, 2, 3, 4, 5, 0, 0, 0, 0, 0)},
		{encoding.EncodeTrace(api.Trace{}), join(0, 0, 0)},
		{encoding.EncodeTrace(api.Trace{Id: 30, Weight: 31, Spans: []api.Span{{}, fullSpan}}), join(30, 31, 2) + empty + fullSpanForm},
	} {
		if c.got != c.want {
			t.Errorf("%d: %x, want %x", i, c.got, c.want)
		}
	}
}

// P1.1: every method appends, and Bytes and Len tell what has been appended so far.
func TestWriterAppends(t *testing.T) {
	random := rand.New(rand.NewSource(1))
	var w encoding.Writer
	want := ""
	for range 2000 {
		n, s := someNumber(random), someSpan(random)
		w.Number(n)
		want += numberForm(n)
		if random.Intn(10) == 0 {
			w.Span(s)
			want += encoding.EncodeSpan(s)
		}
		if w.Len() != len(want) {
			t.Fatalf("Len = %d, want %d", w.Len(), len(want))
		}
		if random.Intn(10) == 0 && w.Bytes() != want {
			t.Fatal("Bytes")
		}
	}
	if w.Bytes() != want || w.Bytes() != want || w.Len() != len(want) {
		t.Error("Bytes at the end, or when called again")
	}
}

// P1.1: copies of a Writer have their own bytes.
func TestWriterCopies(t *testing.T) {
	var w encoding.Writer
	for n := range 100 {
		before := w.Bytes()
		c := w
		c.Number(n)
		w.Text("w")
		if c.Bytes() != before+join(n) || w.Bytes() != before+join("w") {
			t.Fatalf("%x and %x after %x", c.Bytes(), w.Bytes(), before)
		}
	}
}

// P1.1: a nil Writer does nothing.
func TestNilWriter(t *testing.T) {
	var w *encoding.Writer
	w.Number(1)
	w.Bool(true)
	w.Text("x")
	w.Value(api.Value{Kind: 1})
	w.Attr(api.Attr{Key: "x"})
	w.Ref(api.Ref{Trace: 1})
	w.Exchange(api.Exchange{From: 1})
	w.Message(api.Message{Kind: 1})
	w.Span(fullSpan)
	if w.Bytes() != "" || w.Len() != 0 {
		t.Error("Bytes or Len of a nil Writer")
	}
}

// The rule that arguments are not modified.
func TestWriterKeepsArguments(t *testing.T) {
	s := fullSpan
	s.Attrs, s.Links = slices.Clone(fullSpan.Attrs), slices.Clone(fullSpan.Links)
	var w encoding.Writer
	w.Span(s)
	form := encoding.EncodeTrace(api.Trace{Spans: []api.Span{s}})
	if !reflect.DeepEqual(s, fullSpan) {
		t.Error("the span was modified")
	}
	s.Attrs[0].Key, s.Links[0].Id = "other", 99
	if w.Bytes() != fullSpanForm || form != join(0, 0, 1)+fullSpanForm {
		t.Error("the span was retained")
	}
}
