package wal

import (
	"strconv"
	"strings"

	"sleuth/api"
	"sleuth/checksum"
	"sleuth/encoding"
)

// segment is a file of the log.
type segment struct {
	number int
	last   int    // number of the last record in it or before it
	room   int    // how many more groups are added to it
	link   uint32 // of its last group, if more are added
}

// file returns the name of a segment.
func (l *Log) file(number int) string {
	// The first digit of the sum is 1, and the others are those of the number with leading zeros.
	return l.name + "." + strconv.Itoa(MaxSegments + 1 + number)[1:]
}

// segmentNumber returns the number of the segment that has a name, if it is one of this log.
func (l *Log) segmentNumber(file string) (int, bool) {
	// Of what is no number, or too great for an int, Atoi makes one that is out of range.
	number, _ := strconv.Atoi(strings.TrimPrefix(file, l.name+"."))
	// A sign, or another number of zeros, makes another name.
	return number, number >= 1 && number <= MaxSegments && l.file(number) == file
}

// group is consecutive records that were committed together.
type group struct {
	first   int
	records []string
}

// form returns what is written for a group, and its link behind that of the group before it in the segment.
func (g group) form(previous uint32) (string, uint32) {
	var w encoding.Writer
	w.Number(g.first)
	w.Number(len(g.records))
	for _, record := range g.records {
		w.Text(record)
	}
	link := checksum.Link(previous, w.Bytes())
	w.Number(int(link))
	return w.Bytes(), link
}

// readGroup reads the group at the beginning of a string. If that is none, the form of what is returned is another one.
func readGroup(s string) group {
	r := encoding.NewReader(s)
	g := group{first: r.Number()}
	for range r.Count(MaxPending) {
		g.records = append(g.records, r.Text(MaxRecord))
	}
	return g
}

// groups returns the complete groups of a segment.
func groups(content string) []group {
	var all []group
	link := uint32(0)
	for content != "" {
		g := readGroup(content)
		form, next := g.form(link)
		rest, isComplete := strings.CutPrefix(content, form)
		if !isComplete {
			break
		}
		all = append(all, g)
		content, link = rest, next
	}
	return all
}

// load adds the records of a segment to those of the segments before it.
func (l *Log) load(number int) api.Errno {
	content, _ := l.disk.Durable(l.file(number))
	for _, g := range groups(content) {
		if len(l.records) == 0 {
			l.removed = g.first - 1
		}
		if g.first != l.last()+1 {
			return api.ErrGap
		}
		l.keep(g.records)
	}
	l.segments = append(l.segments, segment{number: number, last: l.last()})
	return api.OK
}

// next returns the segment to which the next group is added, and the segments before it.
func (l *Log) next() ([]segment, segment) {
	number := 0
	if size := len(l.segments); size > 0 {
		last := l.segments[size-1]
		if last.room > 0 {
			return l.segments[:size-1], last
		}
		number = last.number
	}
	return l.segments, segment{number: number + 1, room: SegmentGroups}
}

// write makes a group durable.
func (l *Log) write(g group) api.Errno {
	before, s := l.next()
	if s.number > MaxSegments {
		return api.ErrLimit
	}
	form, link := g.form(s.link)
	file := l.file(s.number)
	if e := l.disk.Append(file, form); e != api.OK {
		return e
	}
	if e := l.disk.Sync(file); e != api.OK {
		return e
	}
	l.keep(g.records)
	l.segments = append(before, segment{s.number, l.last(), s.room - 1, link})
	return api.OK
}
