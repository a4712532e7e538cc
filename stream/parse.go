package stream

import "strings"

// The places of a stream's head, and how long the head and a sum are.
const (
	placeOfBlocks = 2
	placeOfBase   = 3
	headSize      = 8
	sumSize       = 4
)

// Content is what a stream tells.
type Content struct {
	Records  []Record
	SumHolds bool // the last sum is that of the bytes ahead
	head     string
}

// Parse tells the content of a stream for so many blocks. If it is none, ok is
// false, and at is the place of the first byte that cannot stand there, or the
// stream's length if it ends too early.
func Parse(stream string, blocks int) (content Content, at int, ok bool) {
	at, ok = passHead(stream, blocks)
	if !ok {
		return Content{}, at, false
	}
	records, at, ok := takeRecords(stream, at, blocks)
	if !ok {
		return Content{}, at, false
	}
	at, ok = passEnd(stream, at)
	if !ok {
		return Content{}, at, false
	}
	return Content{Records: records, SumHolds: sumHolds(stream), head: stream[:headSize]}, at, true
}

// IsWhole tells whether the stream has no base.
func (c Content) IsWhole() bool { return c.head[placeOfBase] == withoutBase }

// IsSince tells whether the stream has a base with these texts, as many as it
// was parsed for.
func (c Content) IsSince(base []string) bool { return c.head == string(headSince(base)) }

// passHead tells the place behind the head; or, if it is not ok, the place that
// Parse tells then. So do all that pass over a part.
func passHead(stream string, blocks int) (at int, ok bool) {
	for at := range headSize {
		if at == len(stream) || !standsInHead(stream, at, blocks) {
			return at, false
		}
	}
	return headSize, true
}

// standsInHead takes for granted that the bytes ahead can stand.
func standsInHead(stream string, at int, blocks int) bool {
	switch b := stream[at]; at {
	case 0:
		return b == firstByte
	case 1:
		return b == secondByte
	case placeOfBlocks:
		return int(b) == blocks
	case placeOfBase:
		return b == withoutBase || b == withBase
	default:
		return b == 0 || stream[placeOfBase] == withBase
	}
}

// passEnd begins where the records end.
func passEnd(stream string, at int) (int, bool) {
	end := at + 1 + sumSize
	return min(end, len(stream)), end == len(stream)
}

func sumHolds(stream string) bool {
	ahead := []byte(stream[:len(stream)-sumSize])
	return strings.HasSuffix(stream, string(appendSum(nil, sumOf(ahead))))
}
