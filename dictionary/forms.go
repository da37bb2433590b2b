package dictionary

import "sleuth/api"

// countSize is the number of bytes in which the number of strings is encoded.
const countSize = 2

// Encode returns the encoded form of a dictionary.
func Encode(d []string) (string, api.Errno) {
	if e := Check(d); e != api.OK {
		return "", e
	}
	b := make([]byte, Size(d))
	b[0], b[1] = byte(len(d)>>8), byte(len(d))
	at := countSize
	for code, s := range d {
		shared := sharedWithBefore(d, code)
		if !beginsGroup(code) {
			b[at] = byte(shared)
			at++
		}
		b[at] = byte(len(s) - shared)
		at++
		at += copy(b[at:], s[shared:])
	}
	return string(b), api.OK
}

// Size returns the number of bytes of the encoded form.
func Size(d []string) int {
	size := countSize
	for code, s := range d {
		size += 1 + len(s) - sharedWithBefore(d, code)
		if !beginsGroup(code) {
			size++
		}
	}
	return size
}

// Decode returns the dictionary with an encoded form.
func Decode(s string) ([]string, api.Errno) {
	if len(s) < countSize {
		return nil, api.ErrTruncated
	}
	count, rest := int(s[0])<<8|int(s[1]), s[countSize:]
	if count > MaxEntries {
		return nil, api.ErrLimit
	}
	var d []string
	for range count {
		p, size, e := scanParts(rest, beginsGroup(len(d)))
		if e != api.OK {
			return nil, e
		}
		next, e := p.join(d)
		if e != api.OK {
			return nil, e
		}
		d = append(d, next)
		rest = rest[size:]
	}
	if rest != "" {
		return nil, api.ErrForm
	}
	return d, api.OK
}

// parts is how a string is encoded: how many bytes it shares with the string before, and the other ones.
type parts struct {
	shared int
	other  string
}

// scanParts returns the parts that s begins with, and the number of their bytes.
func scanParts(s string, isFirst bool) (parts, int, api.Errno) {
	p, head := parts{}, 2
	if isFirst {
		head = 1
	}
	if len(s) < head {
		return parts{}, 0, api.ErrTruncated
	}
	if !isFirst {
		p.shared = int(s[0])
	}
	size := head + int(s[head-1])
	if len(s) < size {
		return parts{}, 0, api.ErrTruncated
	}
	p.other = s[head:size]
	return p, size, api.OK
}

// join returns the string that follows in a dictionary.
func (p parts) join(d []string) (string, api.Errno) {
	before := ""
	if len(d) > 0 {
		before = d[len(d)-1]
	}
	if p.shared > len(before) {
		return "", api.ErrForm
	}
	if p.shared+len(p.other) > MaxString {
		return "", api.ErrLong
	}
	b := make([]byte, p.shared+len(p.other))
	copy(b, before[:p.shared])
	copy(b[p.shared:], p.other)
	s := string(b)
	if len(d) > 0 && s <= before {
		return "", api.ErrOrder
	}
	if !beginsGroup(len(d)) && common(before, s) > p.shared {
		return "", api.ErrForm
	}
	return s, api.OK
}

// beginsGroup reports whether the string with a code is encoded without regard to the one before, so that reading can begin there.
func beginsGroup(code int) bool { return code%PerGroup == 0 }

// sharedWithBefore returns how many bytes of the string with a code are not encoded.
func sharedWithBefore(d []string, code int) int {
	if beginsGroup(code) {
		return 0
	}
	return common(d[code-1], d[code])
}

// common returns how many first bytes two strings have in common.
func common(a, b string) int {
	n := 0
	for n < len(a) && n < len(b) && a[n] == b[n] {
		n++
	}
	return n
}
