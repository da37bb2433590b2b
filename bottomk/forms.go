package bottomk

import (
	"sleuth/api"
	"sleuth/encoding"
)

// Encode returns the form of a sketch.
func (s *Sketch) Encode() string {
	if s == nil {
		return ""
	}
	var w encoding.Writer
	w.Number(s.size)
	w.Number(s.seed)
	w.Bool(s.Exact())
	w.Number(len(s.keys))
	for _, k := range s.keys {
		w.Text(k.Text)
	}
	return w.Bytes()
}

// Decode returns the sketch with a form.
func Decode(form string) (*Sketch, api.Errno) {
	r := encoding.NewReader(form)
	size, seed, isExact := r.Number(), r.Number(), r.Bool()
	var keys []string
	for range r.Count(MaxSize) {
		keys = append(keys, r.Text(api.MaxText))
	}
	if e := r.End(); e != api.OK {
		return nil, e
	}
	s, e := Of(size, seed, keys)
	switch {
	case e != api.OK:
		return nil, e
	case !isIncreasing(seed, keys):
		return nil, api.ErrOrder
	case len(keys) > size || len(keys) < size && !isExact:
		return nil, api.ErrForm
	}
	s.hasMore = !isExact
	return s, api.OK
}

// isIncreasing reports whether keys are in order, each once.
func isIncreasing(seed int, keys []string) bool {
	for i := 1; i < len(keys); i++ {
		if compareKeys(hashed(seed, keys[i-1]), hashed(seed, keys[i])) >= 0 {
			return false
		}
	}
	return true
}
