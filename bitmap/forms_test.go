package bitmap_test

import (
	"math"
	"math/rand"
	"testing"

	"sleuth/api"
	"sleuth/bitmap"
	"sleuth/encoding"
)

// form returns the forms of numbers, one after another.
func form(numbers ...int) string {
	var w encoding.Writer
	for _, n := range numbers {
		w.Number(n)
	}
	return w.Bytes()
}

// formOf computes the form of rows in increasing order by the words of the document.
func formOf(rows []int) string {
	runs := runsOf(rows)
	numbers := []int{len(runs)}
	for i, r := range runs {
		missing := r.First
		if i > 0 {
			missing = r.First - runs[i-1].Last - 1
		}
		numbers = append(numbers, missing, r.Last-r.First+1)
	}
	return form(numbers...)
}

// P5.5 and P5.6.
func TestForms(t *testing.T) {
	random := rand.New(rand.NewSource(7))
	lists := [][]int{nil, {0}, {0, 1}, {most - 1}, {0, most - 1}, selected(most, func(n int) bool { return n%2 == 1 }), selected(most, func(int) bool { return true })}
	for range 500 {
		lists = append(lists, someRows(random))
	}
	for bits := range 1 << 8 {
		lists = append(lists, members(bits))
	}
	found := map[string]string{}
	for _, rows := range lists {
		got := bitmap.Encode(of(t, rows...))
		if got != formOf(rows) {
			t.Errorf("Encode of %v: %x", runsOf(rows), got)
		}
		b, e := bitmap.Decode(got)
		expectResult(t, "Decode", b, e, rows, api.OK)
		if key := form(rows...); found[got] != "" && found[got] != key {
			t.Errorf("two sets have the form %x", got)
		} else {
			found[got] = key
		}
	}
}

// P5.5: an error of reading comes before what is not the form of a bitmap, and that is ErrForm.
func TestDecodeErrors(t *testing.T) {
	for _, c := range []struct {
		s    string
		want []int
		e    api.Errno
	}{
		{"", nil, api.ErrTruncated},
		{form(0), nil, api.OK},
		{form(0, 0), nil, api.ErrForm},
		{form(0) + "x", nil, api.ErrForm},
		{form(-1), nil, api.ErrForm},
		{"\x81", nil, api.ErrTruncated},
		{"\x81\x00", nil, api.ErrForm},
		{form(1), nil, api.ErrTruncated},
		{form(1, 5), nil, api.ErrTruncated},
		{form(1, 5, 1), []int{5}, api.OK},
		{form(1, 0, 1), []int{0}, api.OK},
		{form(1, 5, 0), nil, api.ErrForm},
		{form(1, 5, -1), nil, api.ErrForm},
		{form(1, -1, 1), nil, api.ErrForm},
		{form(1, -1, 3), nil, api.ErrForm},
		{form(1, most-2, 2), []int{most - 2, most - 1}, api.OK},
		{form(1, most-2, 3), nil, api.ErrForm},
		{form(1, most-1, 1), []int{most - 1}, api.OK},
		{form(1, most, 1), nil, api.ErrForm},
		{form(1, most, 0), nil, api.ErrForm},
		{form(1, most+1, -1), nil, api.ErrForm},
		{form(1, 0, most+1), nil, api.ErrForm},
		{form(1, math.MaxInt, 1), nil, api.ErrForm},
		{form(1, 1, math.MaxInt), nil, api.ErrForm},
		{form(1, math.MaxInt, math.MaxInt), nil, api.ErrForm},
		{form(1, math.MinInt, 1), nil, api.ErrForm},
		{form(1, 0, math.MinInt), nil, api.ErrForm},
		{form(2, 0, 1, 1, 1), []int{0, 2}, api.OK},
		{form(2, 0, 1, 0, 1), nil, api.ErrForm},
		{form(2, 3, 1, -1, 2), nil, api.ErrForm},
		{form(2, 3, 1, 1, 0), nil, api.ErrForm},
		{form(2, 0, 1, most-3, 2), []int{0, most - 2, most - 1}, api.OK},
		{form(2, 0, 1, most-2, 2), nil, api.ErrForm},
		{form(2, 0, 1, math.MaxInt, 1), nil, api.ErrForm},
		{form(2, 0, 1, 0), nil, api.ErrTruncated},
		{form(2, 5, 0, 1), nil, api.ErrTruncated},
		{form(2, 5, 0), nil, api.ErrTruncated},
		{form(3, 0, 1, 0, 1, 1), nil, api.ErrTruncated},
		{form(3, 0, 1, 0, 1, 1, 1), nil, api.ErrForm},
		{form(1, 5) + "\x81\x00", nil, api.ErrForm},
		{form(1, 5, 1, 0), nil, api.ErrForm},
		{form(1, 5, 1) + "\x89", nil, api.ErrForm},
		{form(most), nil, api.ErrTruncated},
		{form(most + 1), nil, api.ErrLimit},
		{form(math.MaxInt), nil, api.ErrLimit},
		{form(math.MinInt), nil, api.ErrForm},
	} {
		b, e := bitmap.Decode(c.s)
		expectResult(t, "Decode", b, e, c.want, c.e)
		if t.Failed() {
			t.Fatalf("the form was %x", c.s)
		}
	}
}

// P5.5: a form in which bytes are changed or missing, if it can be decoded at all, is the form of what is decoded.
func TestDecodedFormsAreCanonical(t *testing.T) {
	random := rand.New(rand.NewSource(8))
	accepted := 0
	for range 20000 {
		b := []byte(formOf(members(random.Intn(1 << 12))))
		for range 1 + random.Intn(3) {
			b[random.Intn(len(b))] = byte(random.Intn(8) + 124*random.Intn(2))
		}
		s := string(b[:len(b)-random.Intn(2)])
		set, e := bitmap.Decode(s)
		if e != api.OK {
			expectResult(t, "Decode", set, e, nil, e)
			continue
		}
		accepted++
		if bitmap.Encode(set) != s || !bitmap.Equal(set, of(t, set.Rows()...)) {
			t.Errorf("%x is decoded, but is no form", s)
		}
	}
	if accepted == 0 {
		t.Error("no changed form was decoded, so nothing was tested")
	}
}

// P5.5: a form with most runs, of which the last one is wrong.
func TestManyRuns(t *testing.T) {
	numbers := []int{most / 2}
	for range most / 2 {
		numbers = append(numbers, 1, 1)
	}
	b, e := bitmap.Decode(form(numbers...))
	if b.Len() != most/2 || len(b.Runs()) != most/2 || e != api.OK {
		t.Errorf("Decode: %d rows, %d", b.Len(), e)
	}
	numbers[0]++
	b, e = bitmap.Decode(form(append(numbers, 1, 1)...))
	expectResult(t, "Decode", b, e, nil, api.ErrForm)
}
