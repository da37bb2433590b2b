package partition

import (
	"sleuth/api"
	"sleuth/block"
	"sleuth/encoding"
)

// maxForm is the greatest number of bytes of the form of a block.
const maxForm = 1 << 24

// Encode returns the form of a partition.
func (p *Partition) Encode() string {
	if p == nil {
		return ""
	}
	var w encoding.Writer
	w.Number(p.number)
	w.Bool(p.sealed)
	w.Number(len(p.blocks))
	for _, b := range p.blocks {
		w.Text(b.Encode())
	}
	return w.Bytes()
}

// Decode returns the partition with a form.
func Decode(form string) (*Partition, api.Errno) {
	r := encoding.NewReader(form)
	p := &Partition{number: r.Number(), sealed: r.Bool()}
	var forms []string
	for range r.Count(MaxBlocks) {
		forms = append(forms, r.Text(maxForm))
	}
	if e := r.End(); e != api.OK {
		return nil, e
	}
	if !isNumber(p.number) {
		return nil, api.ErrRange
	}
	read := func(form string) api.Errno {
		b, e := block.Decode(form)
		switch {
		case e != api.OK:
			return e
		case b.Len() == 0:
			return api.ErrEmpty
		}
		p.blocks = append(p.blocks, b)
		return p.checkTraces(b.Spans())
	}
	for _, f := range forms {
		if e := read(f); e != api.OK {
			return nil, e
		}
	}
	return p, api.OK
}
