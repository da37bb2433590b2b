package checksum

// Link returns the checksum of a record that follows others.
func Link(previous uint32, record string) uint32 {
	var head [12]byte
	for i := range 4 {
		head[i] = byte(previous >> (8 * i))
	}
	for i := range 8 {
		head[4+i] = byte(len(record) >> (8 * i))
	}
	return Extend(Sum(string(head[:])), record)
}

// Chain returns the links of records.
func Chain(records []string) []uint32 {
	var links []uint32
	link := uint32(0)
	for _, record := range records {
		link = Link(link, record)
		links = append(links, link)
	}
	return links
}

// Verify returns the number of records if links is their chain, and otherwise the index of the first one that is wrong.
func Verify(records []string, links []uint32) (int, bool) {
	previous := uint32(0)
	for i, record := range records {
		if i == len(links) || links[i] != Link(previous, record) {
			return i, false
		}
		previous = links[i]
	}
	return len(records), len(records) == len(links)
}
