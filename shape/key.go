package shape

import (
	"sleuth/api"
	"sleuth/encoding"
)

// MaxNodes is the greatest number of nodes of a shape that is decoded.
const MaxNodes = 4096

// Key returns a string that stands for a shape.
func Key(s Shape) string {
	var w encoding.Writer
	write(&w, Canonical(s))
	return w.Bytes()
}

func write(w *encoding.Writer, s Shape) {
	w.Text(s.Service)
	w.Text(s.Operation)
	w.Number(len(s.Children))
	for _, child := range s.Children {
		write(w, child)
	}
}

// Decode returns the shape of a key.
func Decode(key string) (Shape, api.Errno) {
	d := decoder{reader: encoding.NewReader(key)}
	s := d.shape()
	if e := d.end(); e != api.OK {
		return Shape{}, e
	}
	// All parts are right, but only the canonical form has a key.
	if Key(s) != key {
		return Shape{}, api.ErrForm
	}
	return s, api.OK
}

// decoder reads the nodes of a key.
type decoder struct {
	reader *encoding.Reader
	begun  int // nodes
}

// shape reads a node and all below it. After an error, the result means nothing.
func (d *decoder) shape() Shape {
	d.begun++
	if d.isFull() {
		return Shape{}
	}
	s := Shape{Service: d.reader.Text(api.MaxText), Operation: d.reader.Text(api.MaxText)}
	for range d.reader.Count(MaxNodes) {
		s.Children = append(s.Children, d.shape())
		if d.isFull() || d.reader.Err() != api.OK {
			break
		}
	}
	return s
}

// isFull reports whether too many nodes have begun. Then nothing further is read.
func (d *decoder) isFull() bool { return d.begun > MaxNodes }

// end returns the first error of a key that should end here.
func (d *decoder) end() api.Errno {
	if d.isFull() {
		return api.ErrLimit
	}
	return d.reader.End()
}
