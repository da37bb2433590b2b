package column

import (
	"math/bits"
	"slices"

	"sleuth/api"
	"sleuth/encoding"
)

// The kinds of forms.
const (
	Plain     = 1
	Delta     = 2
	RunLength = 3
	Packed    = 4
)

// Limits of a packed form.
const (
	maxWidth = 62 // the difference of two values is at most 2 * MaxValue
	maxBytes = MaxRows * 8
)

// layout is how the values are written and read in a form of a kind, behind the kind.
type layout struct {
	kind  int
	write func(w *encoding.Writer, values []int)
	read  func(r *encoding.Reader, part partReader) []int
}

// partReader reads one part of a form by means of read. The part is wrong unless it is from low to high. From the first error on, it reads nothing and returns 0.
type partReader func(read func() int, low, high int, wrong api.Errno) int

func layouts() [4]layout {
	return [4]layout{
		{Plain, writePlain, readPlain},
		{Delta, writeDelta, readDelta},
		{RunLength, writeRuns, readRuns},
		{Packed, writePacked, readPacked},
	}
}

func layoutOf(kind int) (layout, bool) {
	for _, l := range layouts() {
		if l.kind == kind {
			return l, true
		}
	}
	return layout{}, false
}

// EncodeAs returns the form of a kind of some values.
func EncodeAs(kind int, values []int) (string, api.Errno) {
	l, isKind := layoutOf(kind)
	if !isKind {
		return "", api.ErrKind
	}
	if e := check(values); e != api.OK {
		return "", e
	}
	return l.form(values), api.OK
}

func (l layout) form(values []int) string {
	var w encoding.Writer
	w.Number(l.kind)
	l.write(&w, values)
	return w.Bytes()
}

// shortestForm returns the shortest form, the first one of several, and its kind.
func shortestForm(values []int) (int, string) {
	kind, shortest := 0, ""
	for _, l := range layouts() {
		if form := l.form(values); kind == 0 || len(form) < len(shortest) {
			kind, shortest = l.kind, form
		}
	}
	return kind, shortest
}

// valuesOf returns the values of a form of which all parts are right. It need not be the shortest one.
func valuesOf(form string) ([]int, api.Errno) {
	r := encoding.NewReader(form)
	first := api.OK
	part := func(read func() int, low, high int, wrong api.Errno) int {
		if first != api.OK {
			return 0
		}
		n := read()
		if first = r.Err(); first == api.OK && (n < low || n > high) {
			first = wrong
		}
		if first != api.OK {
			return 0
		}
		return n
	}
	var values []int
	if l, isKind := layoutOf(part(r.Number, Plain, Packed, api.ErrKind)); isKind {
		values = l.read(r, part)
	}
	if first == api.OK {
		first = r.End()
	}
	if first != api.OK {
		return nil, first
	}
	return values, api.OK
}

func writePlain(w *encoding.Writer, values []int) {
	w.Number(len(values))
	for _, v := range values {
		w.Number(v)
	}
}

func readPlain(r *encoding.Reader, part partReader) []int {
	var values []int
	for range r.Count(MaxRows) {
		values = append(values, part(r.Number, -MaxValue, MaxValue, api.ErrRange))
	}
	return values
}

func writeDelta(w *encoding.Writer, values []int) {
	w.Number(len(values))
	before := 0
	for _, v := range values {
		w.Number(v - before)
		before = v
	}
}

func readDelta(r *encoding.Reader, part partReader) []int {
	var values []int
	before := 0
	for range r.Count(MaxRows) {
		// No difference of two values is too great, so only the value to which it leads has to be looked at.
		before += part(r.Number, -MaxValue-before, MaxValue-before, api.ErrRange)
		values = append(values, before)
	}
	return values
}

// run is some equal values that follow one another.
type run struct{ value, size int }

func writeRuns(w *encoding.Writer, values []int) {
	var runs []run
	for i, v := range values {
		if i == 0 || v != values[i-1] {
			runs = append(runs, run{value: v})
		}
		runs[len(runs)-1].size++
	}
	w.Number(len(runs))
	for _, run := range runs {
		w.Number(run.value)
		w.Number(run.size)
	}
}

func readRuns(r *encoding.Reader, part partReader) []int {
	var values []int
	for range r.Count(MaxRows) {
		value := part(r.Number, -MaxValue, MaxValue, api.ErrRange)
		size := part(r.Number, 1, MaxRows-len(values), api.ErrRange)
		values = append(values, slices.Repeat([]int{value}, size)...)
	}
	return values
}

func writePacked(w *encoding.Writer, values []int) {
	least, width := 0, 0
	if len(values) > 0 {
		least = slices.Min(values)
		width = bits.Len(uint(slices.Max(values) - least))
	}
	b := make([]byte, packedSize(len(values), width))
	for i, v := range values {
		pack(b, i*width, width, uint(v-least))
	}
	w.Number(len(values))
	w.Number(least)
	w.Number(width)
	w.Text(string(b))
}

func readPacked(r *encoding.Reader, part partReader) []int {
	count := part(r.Number, 0, MaxRows, api.ErrRange)
	least := part(r.Number, -MaxValue, MaxValue, api.ErrRange)
	width := part(r.Number, 0, maxWidth, api.ErrRange)
	text, size := "", packedSize(count, width)
	readText := func() int {
		text = r.Text(maxBytes)
		return len(text)
	}
	part(readText, size, size, api.ErrForm)
	values := make([]int, count)
	for i := range values {
		value := func() int { return least + int(unpack(text, i*width, width)) }
		values[i] = part(value, -MaxValue, MaxValue, api.ErrRange)
	}
	return values
}

// packedSize returns how many bytes the bits of some values need.
func packedSize(count, width int) int { return (count*width + 7) / 8 }

// pack writes the width lowest bits of n behind the first at bits of b, which are followed by zeros.
func pack(b []byte, at, width int, n uint) {
	for k := range width {
		b[(at+k)/8] |= byte(n>>k&1) << ((at + k) % 8)
	}
}

// unpack returns the number whose bits pack has written.
func unpack(s string, at, width int) uint {
	n := uint(0)
	for k := range width {
		n |= uint(s[(at+k)/8]>>((at+k)%8)&1) << k
	}
	return n
}
