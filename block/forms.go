package block

import (
	"sleuth/api"
	"sleuth/column"
	"sleuth/dictionary"
	"sleuth/encoding"
)

// Encode returns the form of a block.
func (b *Block) Encode() string {
	if b == nil {
		return ""
	}
	var w writer
	w.Number(b.rows)
	for _, f := range intFields() {
		w.column(b.ints[f.name])
	}
	for _, f := range textFields() {
		w.texts(b.texts[f.name])
	}
	w.column(b.attrs.sizes)
	w.texts(b.attrs.keys)
	w.column(b.attrs.kinds)
	w.dictionary(b.attrs.texts)
	w.column(b.attrs.values)
	w.column(b.links.sizes)
	w.column(b.links.traces)
	w.column(b.links.ids)
	return w.Bytes()
}

// Decode returns the block with a form.
func Decode(s string) (*Block, api.Errno) {
	// Parts that are wrong are read as something else. So it is only known from the form of what was read whether all of them are right.
	b, e := Build(read(s).Spans())
	if e != api.OK || b.Encode() != s {
		return nil, api.ErrForm
	}
	return b, api.OK
}

// read returns a block that has the parts of a form, if it is one. Its columns can have different numbers of rows otherwise.
func read(s string) *Block {
	r := reader{encoding.NewReader(s), len(s)}
	b := &Block{ints: map[string]*column.Column{}, texts: map[string]texts{}}
	r.Number()
	for _, f := range intFields() {
		b.ints[f.name] = r.column()
	}
	for _, f := range textFields() {
		b.texts[f.name] = r.texts()
	}
	b.rows = b.ints["trace"].Len()
	sizes := r.column()
	b.attrs = attrs{keys: r.texts(), kinds: r.column(), texts: r.dictionary(), values: r.column()}
	b.attrs.lists = newLists(sizes, b.attrs.values.Len())
	sizes = r.column()
	b.links = links{traces: r.column(), ids: r.column()}
	b.links.lists = newLists(sizes, b.links.ids.Len())
	return b
}

// writer writes the parts of a form.
type writer struct{ encoding.Writer }

func (w *writer) column(c *column.Column) { w.Text(c.Encode()) }

func (w *writer) dictionary(d []string) {
	form, _ := dictionary.Encode(d)
	w.Text(form)
}

func (w *writer) texts(t texts) {
	w.dictionary(t.dictionary)
	w.column(t.codes)
}

// reader reads the parts of a form that has a number of bytes. A part that is wrong is read as an empty one.
type reader struct {
	*encoding.Reader
	size int
}

func (r reader) column() *column.Column {
	c, _ := column.Open(r.Text(r.size))
	return c
}

func (r reader) dictionary() []string {
	d, _ := dictionary.Decode(r.Text(r.size))
	return d
}

func (r reader) texts() texts { return texts{r.dictionary(), r.column()} }
