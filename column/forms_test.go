package column_test

import (
	"math"
	"math/big"
	"math/rand"
	"slices"
	"strings"
	"testing"

	"sleuth/api"
	"sleuth/column"
	"sleuth/encoding"
)

// formOf returns the forms of numbers, one after another.
func formOf(numbers ...int) string {
	var w encoding.Writer
	for _, n := range numbers {
		w.Number(n)
	}
	return w.Bytes()
}

// packedForm returns a packed form of these parts.
func packedForm(count, least, width int, bytes string) string {
	return formOf(column.Packed, count, least, width, len(bytes)) + bytes
}

// formsOf computes the forms of all kinds by the words of the document.
func formsOf(values []int) [4]string {
	delta, runs := []int{column.Delta, len(values)}, []int{column.RunLength, 0}
	for i, v := range values {
		if i == 0 {
			delta = append(delta, v)
		} else {
			delta = append(delta, v-values[i-1])
		}
		if i > 0 && v == values[i-1] {
			runs[len(runs)-1]++
		} else {
			runs[1]++
			runs = append(runs, v, 1)
		}
	}
	plain := append([]int{column.Plain, len(values)}, values...)
	return [4]string{formOf(plain...), formOf(delta...), formOf(runs...), packed(values)}
}

// packed puts all bits into one great number, whose bytes are then written in reverse.
func packed(values []int) string {
	if len(values) == 0 {
		return packedForm(0, 0, 0, "")
	}
	least, width := slices.Min(values), 0
	for 1<<width <= slices.Max(values)-least {
		width++
	}
	sum := new(big.Int)
	for i, v := range values {
		sum.Add(sum, new(big.Int).Lsh(big.NewInt(int64(v-least)), uint(i*width)))
	}
	size := len(values) * width / 8
	if size*8 < len(values)*width {
		size++
	}
	b := sum.FillBytes(make([]byte, size))
	slices.Reverse(b)
	return packedForm(len(values), least, width, string(b))
}

// shortestOf returns the kind of the shortest form, and this form.
func shortestOf(values []int) (int, string) {
	forms := formsOf(values)
	kind := column.Plain
	for k := column.Delta; k <= column.Packed; k++ {
		if len(forms[k-1]) < len(forms[kind-1]) {
			kind = k
		}
	}
	return kind, forms[kind-1]
}

// someLists returns lists of values of all sizes, widths and kinds.
func someLists() [][]int {
	random := rand.New(rand.NewSource(4))
	lists := [][]int{
		nil, {0}, {1}, {-1}, {most}, {-most}, {most, -most}, {-most, most}, {most, -most, most, -most, most}, {5, 5, 5}, {3, 0, 2, 1},
		{0, 255}, {0, 256}, {0, 65535, 65536}, {7, 7, 7, 7, 8, 7, 7}, make([]int, mostRows), numbered(mostRows), numbered(200),
	}
	far := make([]int, mostRows)
	for i := range far {
		far[i] = random.Intn(2*most+1) - most
	}
	lists = append(lists, far)
	for width := range 63 {
		greatest := min(1<<width-1, 2*most)
		lists = append(lists, []int{greatest/2 - greatest, greatest / 2, 0, 0, 0}, []int{-most, greatest - most, -most, -most})
	}
	for range 1000 {
		lists = append(lists, someValues(random))
	}
	return lists
}

// P7.1: the examples of the document.
func TestExamples(t *testing.T) {
	for _, c := range []struct {
		values []int
		kind   int
		form   string
	}{
		{[]int{5, 5, 5}, column.Plain, "\x81\x01\x81\x03\x81\x05\x81\x05\x81\x05"},
		{[]int{5, 5, 5}, column.Delta, "\x81\x02\x81\x03\x81\x05\x80\x80"},
		{[]int{5, 5, 5}, column.RunLength, "\x81\x03\x81\x01\x81\x05\x81\x03"},
		{[]int{5, 5, 5}, column.Packed, "\x81\x04\x81\x03\x81\x05\x80\x80"},
		{[]int{3, 0, 2, 1}, column.Packed, "\x81\x04\x81\x04\x80\x81\x02\x81\x01\x63"},
		{nil, column.Plain, "\x81\x01\x80"},
	} {
		form, e := column.EncodeAs(c.kind, c.values)
		if form != c.form || e != api.OK {
			t.Errorf("EncodeAs(%d, %v): %x, %d", c.kind, c.values, form, e)
		}
	}
	c, empty := of(t, 5, 5, 5), of(t)
	if c.Kind() != column.Delta || empty.Kind() != column.Plain || empty.Encode() != "\x81\x01\x80" {
		t.Errorf("the kinds %d and %d, and the form %x", c.Kind(), empty.Kind(), empty.Encode())
	}
}

// P7.1 and P7.6: the form of a column is the shortest one, and opening it gives the column again.
func TestForms(t *testing.T) {
	kinds, columns := map[int]bool{}, map[string][]int{}
	for _, values := range someLists() {
		forms := formsOf(values)
		for i, want := range forms {
			given := slices.Clone(values)
			form, e := column.EncodeAs(i+1, values)
			if form != want || e != api.OK || !slices.Equal(values, given) {
				t.Errorf("EncodeAs(%d, %v): %x, %d; want %x", i+1, values, form, e, want)
			}
		}
		c := of(t, values...)
		kind, want := shortestOf(values)
		kinds[kind] = true
		form := c.Encode()
		if form != want || c.Kind() != kind || len(form) > len(forms[0]) {
			t.Errorf("%v: the form %x, want %x", values, form, want)
		}
		if other, isThere := columns[form]; isThere && !slices.Equal(other, values) {
			t.Errorf("%v and %v have the same form", other, values)
		}
		columns[form] = values
		opened, e := column.Open(form)
		expectColumn(t, "Open", opened, e, values, api.OK)
		if !opened.Equal(c) || opened.Encode() != form || opened.Kind() != kind {
			t.Errorf("%v: what is opened is another column", values)
		}
	}
	if len(kinds) != 4 {
		t.Errorf("only the kinds %v were the shortest, so the others were not tested", kinds)
	}
}

// P7.1.
func TestEncodeAsErrors(t *testing.T) {
	tooMany, outside := make([]int, mostRows+1), []int{0, most + 1}
	for _, c := range []struct {
		kind   int
		values []int
		e      api.Errno
	}{
		{0, nil, api.ErrKind},
		{5, nil, api.ErrKind},
		{-1, []int{1}, api.ErrKind},
		{math.MinInt, tooMany, api.ErrKind},
		{math.MaxInt, outside, api.ErrKind},
		{column.Plain, tooMany, api.ErrLimit},
		{column.Delta, tooMany, api.ErrLimit},
		{column.RunLength, tooMany, api.ErrLimit},
		{column.Packed, tooMany, api.ErrLimit},
		{column.Packed, append(slices.Clone(tooMany), outside...), api.ErrLimit},
		{column.Plain, outside, api.ErrRange},
		{column.Delta, []int{-most - 1}, api.ErrRange},
		{column.RunLength, []int{math.MinInt, 0}, api.ErrRange},
		{column.Packed, []int{0, math.MaxInt}, api.ErrRange},
	} {
		if form, e := column.EncodeAs(c.kind, c.values); form != "" || e != c.e {
			t.Errorf("EncodeAs(%d): %x, %d; want %d", c.kind, form, e, c.e)
		}
	}
}

// P7.2: only the shortest form is opened, of several ones that of the least kind.
func TestOpenNeedsTheShortestForm(t *testing.T) {
	for _, values := range someLists() {
		shortest, _ := shortestOf(values)
		for i, form := range formsOf(values) {
			wantErr, want := api.ErrForm, []int(nil)
			if i+1 == shortest {
				wantErr, want = api.OK, values
			}
			c, e := column.Open(form)
			expectColumn(t, "Open", c, e, want, wantErr)
		}
	}
}

// P7.2 and 1: proper beginnings are truncated, and further bytes an error of form.
func TestOpenBytes(t *testing.T) {
	random := rand.New(rand.NewSource(5))
	for range 300 {
		_, form := shortestOf(someValues(random))
		for size := range len(form) {
			c, e := column.Open(form[:size])
			expectColumn(t, "Open of a part of a form", c, e, nil, api.ErrTruncated)
		}
		for _, more := range []string{"\x80", "\x00", form} {
			c, e := column.Open(form + more)
			expectColumn(t, "Open of too many bytes", c, e, nil, api.ErrForm)
		}
	}
}

// wrongForm is a string that cannot be opened, and the error.
type wrongForm struct {
	form string
	e    api.Errno
}

func expectWrong(t *testing.T, forms []wrongForm) {
	t.Helper()
	for _, f := range forms {
		c, e := column.Open(f.form)
		if c != nil || e != f.e {
			t.Errorf("Open(%.80x): %v, %d; want %d", f.form, c.Values(), e, f.e)
		}
	}
}

// P7.2: the kind, and the number of values or runs.
func TestOpenHeads(t *testing.T) {
	expectWrong(t, []wrongForm{
		{"", api.ErrTruncated},
		{"\x81", api.ErrTruncated},
		{"\x00", api.ErrForm},
		{"\x81\x00", api.ErrForm},
		{formOf(0), api.ErrKind},
		{formOf(5), api.ErrKind},
		{formOf(-1), api.ErrKind},
		{formOf(math.MaxInt, 0), api.ErrKind},
		{formOf(5) + "\x00", api.ErrKind},
	})
	for _, kind := range []int{column.Plain, column.Delta, column.RunLength} {
		expectWrong(t, []wrongForm{
			{formOf(kind), api.ErrTruncated},
			{formOf(kind) + "\x82\x10", api.ErrTruncated},
			{formOf(kind) + "\x00", api.ErrForm},
			{formOf(kind, -1), api.ErrForm},
			{formOf(kind, mostRows+1), api.ErrLimit},
			{formOf(kind, math.MaxInt), api.ErrLimit},
			{formOf(kind, mostRows), api.ErrTruncated},
			{formOf(kind, 5, most+1), api.ErrRange},
			{formOf(kind, 3, 0), api.ErrTruncated},
			{formOf(kind, 1, math.MaxInt), api.ErrRange},
			{formOf(kind, 1, math.MinInt), api.ErrRange},
			{formOf(kind, 1, most+1), api.ErrRange},
			{formOf(kind, 1, -most-1), api.ErrRange},
			{formOf(kind, 1) + "\x00", api.ErrForm},
			{formOf(kind, 1) + "\x82\x01", api.ErrTruncated},
			{formOf(kind, 1) + "\x82\x00\x01", api.ErrForm},
		})
	}
}

// P7.2: values and differences.
func TestOpenPlainAndDelta(t *testing.T) {
	plain, delta := column.Plain, column.Delta
	expectWrong(t, []wrongForm{
		{formOf(plain, 2, 0, most+1), api.ErrRange},
		{formOf(plain, 2, most+1) + "\x00", api.ErrRange},
		{formOf(plain, 2, 0) + "\x00", api.ErrForm},
		{formOf(plain, 2, most+1, 0, 0), api.ErrRange},
		{formOf(plain, 2, 1, 2, 3), api.ErrForm},
		{formOf(plain, 3, 5, 5, 5), api.ErrForm},
		{formOf(delta, 0), api.ErrForm},
		{formOf(delta, 1, 5), api.ErrForm},
		{formOf(delta, 2, most, 1), api.ErrRange},
		{formOf(delta, 2, -most, -1), api.ErrRange},
		{formOf(delta, 2, most, -2*most), api.ErrForm},
		{formOf(delta, 2, most, -2*most-1), api.ErrRange},
		{formOf(delta, 2, -most, 2*most), api.ErrForm},
		{formOf(delta, 2, -most, 2*most+1), api.ErrRange},
		{formOf(delta, 2, 0, 2*most), api.ErrRange},
		{formOf(delta, 2, 0, math.MaxInt), api.ErrRange},
		{formOf(delta, 2, -most, math.MinInt), api.ErrRange},
		{formOf(delta, 2, most, math.MaxInt), api.ErrRange},
		{formOf(delta, 3, most, 1) + "\x00", api.ErrRange},
		{formOf(delta, 3, most, 1), api.ErrRange},
		{formOf(delta, 3, 5, 0) + "\x00", api.ErrForm},
		{formOf(delta, 3, 5, 0, 0, 0), api.ErrForm},
	})
	c, e := column.Open(formOf(delta, 3, 5, 0, 0))
	expectColumn(t, "Open", c, e, []int{5, 5, 5}, api.OK)
}

// P7.2: runs.
func TestOpenRuns(t *testing.T) {
	runs := column.RunLength
	expectWrong(t, []wrongForm{
		{formOf(runs, 0), api.ErrForm},
		{formOf(runs, 1, 5), api.ErrTruncated},
		{formOf(runs, 1, 5) + "\x00", api.ErrForm},
		{formOf(runs, 1, 5, 0), api.ErrRange},
		{formOf(runs, 1, 5, -1), api.ErrRange},
		{formOf(runs, 1, 5, math.MinInt), api.ErrRange},
		{formOf(runs, 1, 5, mostRows+1), api.ErrRange},
		{formOf(runs, 1, 5, math.MaxInt), api.ErrRange},
		{formOf(runs, 2, 5, mostRows, 6, 1), api.ErrRange},
		{formOf(runs, 2, 5, mostRows, 6), api.ErrTruncated},
		{formOf(runs, 2, 5, mostRows, most+1, 1), api.ErrRange},
		{formOf(runs, 2, 5, 4000, 6, 97), api.ErrRange},
		{formOf(runs, 2, 5, 1, 6, math.MaxInt), api.ErrRange},
		{formOf(runs, 2, 5, 0, 6) + "\x00", api.ErrRange},
		{formOf(runs, 2, most+1, 0) + "\x00", api.ErrRange},
		{formOf(runs, 2, 5, 10, 6, 10, 7), api.ErrForm},
		// A run that is not as long as possible.
		{formOf(runs, 2, 5, 100, 5, 100), api.ErrForm},
		{formOf(runs, 1, 5, 1), api.ErrForm},
	})
	want := append(slices.Repeat([]int{1 << 50}, 4000), slices.Repeat([]int{-1 << 50}, 96)...)
	c, e := column.Open(formOf(runs, 2, 1<<50, 4000, -1<<50, 96))
	expectColumn(t, "Open", c, e, want, api.OK)
	c, e = column.Open(formOf(runs, 1, most, mostRows))
	expectColumn(t, "Open", c, e, slices.Repeat([]int{most}, mostRows), api.OK)
	c, e = column.Open(formOf(runs, 2, most, mostRows-1, -most, 1))
	expectColumn(t, "Open", c, e, append(slices.Repeat([]int{most}, mostRows-1), -most), api.OK)
}

// P7.2: each part of a packed form.
func TestOpenPacked(t *testing.T) {
	p := func(numbers ...int) string { return formOf(append([]int{column.Packed}, numbers...)...) }
	expectWrong(t, []wrongForm{
		{p(), api.ErrTruncated},
		{p(-1), api.ErrRange},
		{p(mostRows + 1), api.ErrRange},
		{p(math.MaxInt) + "\x00", api.ErrRange},
		{p(mostRows), api.ErrTruncated},
		{p(4) + "\x00", api.ErrForm},
		{p(4, most+1), api.ErrRange},
		{p(4, -most-1), api.ErrRange},
		{p(4, math.MinInt) + "\x00", api.ErrRange},
		{p(4, most), api.ErrTruncated},
		{p(4, -most), api.ErrTruncated},
		{p(4, 0) + "\x00", api.ErrForm},
		{p(4, 0, -1), api.ErrRange},
		{p(4, 0, 63), api.ErrRange},
		{p(4, 0, math.MaxInt) + "\x00", api.ErrRange},
		{p(4, 0, 62), api.ErrTruncated},
		{p(4, 0, 2) + "\x00", api.ErrForm},
		{p(4, 0, 2, -1), api.ErrForm},
		{p(4, 0, 2, 1), api.ErrTruncated},
		{p(4, 0, 2, 32768), api.ErrTruncated},
		{p(4, 0, 2, 32769), api.ErrLong},
		{p(4, 0, 2, 32769) + strings.Repeat("x", 32769), api.ErrLong},
		{p(4, 0, 2, 32768) + strings.Repeat("x", 32768), api.ErrForm},
		{p(4, 0, 2, 0), api.ErrForm},
		{p(4, 0, 2, 2) + "\x63\x00", api.ErrForm},
		{p(5, 0, 2, 1) + "\x63", api.ErrForm},
		{p(3, 0, 3, 1) + "\x63", api.ErrForm},
		{p(0, 0, 2, 1) + "\x63", api.ErrForm},
		{p(4, 0, 0, 1) + "\x00", api.ErrForm},
		// A value that is out of range, before bytes that are left.
		{packedForm(4, most-2, 2, "\x63"), api.ErrRange},
		{packedForm(4, most, 2, "\x63") + "x", api.ErrRange},
		{packedForm(1, most, 62, "\xff\xff\xff\xff\xff\xff\xff\x3f"), api.ErrRange},
		{packedForm(4, most-3, 2, "\x63") + "x", api.ErrForm},
		{packedForm(4, most-2, 2, "\x63\x00"), api.ErrForm},
		// What is not the form of the column with these values.
		{packedForm(0, 0, 0, ""), api.ErrForm},
		{packedForm(0, 1, 0, ""), api.ErrForm},
		{packedForm(0, 0, 5, ""), api.ErrForm},
		{packedForm(3, 0, 2, "\x63"), api.ErrForm},
		{packedForm(4, 0, 2, "\xa7"), api.ErrForm},
		{packedForm(4, 0, 4, "\x03\x12"), api.ErrForm},
		{packedForm(4, 0, 2, "\x63") + "x", api.ErrForm},
	})
	high := []int{most, most - 3, most - 1, most - 2}
	c, e := column.Open(packedForm(4, most-3, 2, "\x63"))
	expectColumn(t, "Open", c, e, high, api.OK)
	if c.Kind() != column.Packed {
		t.Errorf("the kind %d", c.Kind())
	}
}

// P7.2: the bits that are left over are 0, the least value is one of the values, and no width is too great.
func TestOpenPackedIsCanonical(t *testing.T) {
	random := rand.New(rand.NewSource(6))
	changed := 0
	for range 500 {
		count, width := 20+random.Intn(30), 1+random.Intn(7)
		values := []int{1000, 1000 + 1<<width - 1}
		for range count - 2 {
			values = append(values, 1000+random.Intn(1<<width))
		}
		form := packed(values)
		c, e := column.Open(form)
		expectColumn(t, "Open", c, e, values, api.OK)
		if used := count * width % 8; used > 0 {
			b := []byte(form)
			b[len(b)-1] |= 1 << (used + random.Intn(8-used))
			c, e = column.Open(string(b))
			expectColumn(t, "Open with other bits that are left over", c, e, nil, api.ErrForm)
			changed++
		}
		text := form[len(form)-(count*width+7)/8:]
		greater := []int{1100, 1100 + 1<<width - 1}
		for _, v := range values[2:] {
			greater = append(greater, v+100)
		}
		c, e = column.Open(packedForm(count, 1100, width, text))
		expectColumn(t, "Open with another least value", c, e, greater, api.OK)
	}
	if changed == 0 {
		t.Error("no bits were left over, so nothing was tested")
	}
}

// P7.2 and P7.6: a form in which bytes are changed or missing, if it can be opened at all, is the form of what is opened.
func TestOpenedFormsAreCanonical(t *testing.T) {
	random := rand.New(rand.NewSource(7))
	accepted := 0
	for range 30000 {
		b := []byte(formsOf(someValues(random))[random.Intn(4)])
		for range 1 + random.Intn(3) {
			b[random.Intn(len(b))] = byte(random.Intn(8) + 126*random.Intn(2))
		}
		s := string(b[:len(b)-random.Intn(2)])
		c, e := column.Open(s)
		if e != api.OK {
			expectColumn(t, "Open", c, e, nil, e)
			continue
		}
		accepted++
		if _, want := shortestOf(c.Values()); c.Encode() != s || want != s {
			t.Errorf("%x is opened, but is no form", s)
		}
	}
	if accepted == 0 {
		t.Error("no changed form was opened, so nothing was tested")
	}
}
