package block

import (
	"sleuth/api"
	"sleuth/column"
	"sleuth/dictionary"
	"sleuth/span"
)

// record is a span, with the numbers that columns have instead of End and Error.
type record struct {
	api.Span
	duration, failed int
}

// recordOf returns the record of a span.
func recordOf(s api.Span) record {
	r := record{Span: s, duration: span.Duration(s)}
	if s.Error {
		r.failed = 1
	}
	return r
}

// span returns the span of a record whose numbers are known.
func (r record) span() api.Span {
	r.End, r.Error = r.Start+r.duration, r.failed == 1
	return r.Span
}

// field is the name of a column, and where a record has its value.
type field[T any] struct {
	name  string
	place func(r *record) *T
}

// intFields returns the int columns, in the order of the form.
func intFields() []field[int] {
	return []field[int]{
		{"trace", func(r *record) *int { return &r.Trace }},
		{"id", func(r *record) *int { return &r.Id }},
		{"parent", func(r *record) *int { return &r.Parent }},
		{"revision", func(r *record) *int { return &r.Revision }},
		{"clock", func(r *record) *int { return &r.Clock }},
		{"kind", func(r *record) *int { return &r.Kind }},
		{"start", func(r *record) *int { return &r.Start }},
		{"duration", func(r *record) *int { return &r.duration }},
		{"error", func(r *record) *int { return &r.failed }},
	}
}

// textFields returns the string columns, in the order of the form.
func textFields() []field[string] {
	return []field[string]{
		{"service", func(r *record) *string { return &r.Service }},
		{"version", func(r *record) *string { return &r.Version }},
		{"operation", func(r *record) *string { return &r.Operation }},
	}
}

// newColumn returns the column with a number of each element of a list.
func newColumn[T any](l []T, number func(v T) int) *column.Column {
	// There are as many elements as a column can have, and numbers of spans are in its range.
	c, _ := column.New(each(l, number))
	return c
}

// texts is a column of strings: the codes of a dictionary.
type texts struct {
	dictionary []string
	codes      *column.Column
}

// newTexts returns the column with a string of each element of a list.
func newTexts[T any](l []T, text func(v T) string) texts {
	d := dictionaryOf(each(l, text))
	return texts{d, newColumn(l, func(v T) int { return codeOf(d, text(v)) })}
}

// at returns the string of a row.
func (t texts) at(row int) string {
	code, _ := t.codes.At(row)
	return entry(t.dictionary, code)
}

// dictionaryOf returns the dictionary of some strings.
func dictionaryOf(l []string) []string {
	d, _ := dictionary.Build(l)
	return d
}

// codeOf returns the code of a string of a dictionary.
func codeOf(d []string, s string) int {
	code, _ := dictionary.Find(d, s)
	return code
}

// entry returns the string with a code, or the empty string, since a form that is wrong can have codes of no string.
func entry(d []string, code int) string {
	if code < 0 || code >= len(d) {
		return ""
	}
	return d[code]
}

// lists says which elements are those of each row, if the lists of all rows stand one after another.
type lists struct {
	sizes *column.Column
	ends  []int
}

// newLists returns lists with these sizes that have so many elements together.
func newLists(sizes *column.Column, elements int) lists {
	l := lists{sizes: sizes}
	end := 0
	for _, size := range sizes.Values() {
		// In a form that is wrong, sizes can be negative, or greater than what is left.
		end = min(end+max(size, 0), elements)
		l.ends = append(l.ends, end)
	}
	return l
}

// indices returns the indices of the elements of a row.
func (l lists) indices(row int) []int {
	if row >= len(l.ends) {
		return nil
	}
	first := 0
	if row > 0 {
		first = l.ends[row-1]
	}
	var all []int
	for k := first; k < l.ends[row]; k++ {
		all = append(all, k)
	}
	return all
}

// attrs is the attributes of all rows.
type attrs struct {
	lists
	keys   texts
	kinds  *column.Column
	texts  []string       // of the values of KindString
	values *column.Column // codes of texts, or ints
}

// countAttrs returns the number of the attributes of a span.
func countAttrs(s api.Span) int { return len(s.Attrs) }

// isText reports whether the value of an attribute is a string.
func isText(a api.Attr) bool { return a.Value.Kind == api.KindString }

// attrsOf returns the attributes of some spans.
func attrsOf(l []api.Span) attrs {
	var all []api.Attr
	for _, s := range l {
		all = append(all, s.Attrs...)
	}
	var strings []string
	for _, a := range all {
		if isText(a) {
			strings = append(strings, a.Value.Text)
		}
	}
	d := dictionaryOf(strings)
	return attrs{
		lists: newLists(newColumn(l, countAttrs), len(all)),
		keys:  newTexts(all, func(a api.Attr) string { return a.Key }),
		kinds: newColumn(all, func(a api.Attr) int { return a.Value.Kind }),
		texts: d,
		values: newColumn(all, func(a api.Attr) int {
			if isText(a) {
				return codeOf(d, a.Value.Text)
			}
			return a.Value.Int
		}),
	}
}

// of returns the attributes of a row.
func (a attrs) of(row int) []api.Attr { return each(a.indices(row), a.at) }

// at returns the attribute with an index.
func (a attrs) at(k int) api.Attr {
	made := api.Attr{Key: a.keys.at(k)}
	made.Value.Kind, _ = a.kinds.At(k)
	n, _ := a.values.At(k)
	if isText(made) {
		made.Value.Text = entry(a.texts, n)
	} else {
		made.Value.Int = n
	}
	return made
}

// links is the links of all rows.
type links struct {
	lists
	traces, ids *column.Column
}

// countLinks returns the number of the links of a span.
func countLinks(s api.Span) int { return len(s.Links) }

// linksOf returns the links of some spans.
func linksOf(l []api.Span) links {
	var all []api.Ref
	for _, s := range l {
		all = append(all, s.Links...)
	}
	return links{
		lists:  newLists(newColumn(l, countLinks), len(all)),
		traces: newColumn(all, func(r api.Ref) int { return r.Trace }),
		ids:    newColumn(all, func(r api.Ref) int { return r.Id }),
	}
}

// of returns the links of a row.
func (l links) of(row int) []api.Ref { return each(l.indices(row), l.at) }

// at returns the link with an index.
func (l links) at(k int) api.Ref {
	trace, _ := l.traces.At(k)
	id, _ := l.ids.At(k)
	return api.Ref{Trace: trace, Id: id}
}
