package marl_test

// judged: what stands in a stream.
type judged struct {
	hasBase bool
	base    string         // the base's sum
	texts   map[int]string // those of the records
	sum     string         // the last sum
}

func char(c int) string { return string([]byte{byte(c)}) }

// judge goes through a stream byte by byte, by what may stand next. If it is no
// stream, at is the place where that shows.
func judge(stream string, blocks int) (got judged, at int, ok bool) {
	got.texts = map[int]string{}
	next, block, left := "first", -1, 0
	for at := range len(stream) {
		c, stands := int(stream[at]), true
		left--
		switch next {
		case "first":
			stands, next = c == 77, "second"
		case "second":
			stands, next = c == 49, "blocks"
		case "blocks":
			stands, next = c == blocks, "flag"
		case "flag":
			stands, got.hasBase, left, next = c < 2, c == 1, 4, "base"
		case "base":
			stands = got.hasBase || c == 0
			got.base += char(c)
			if left == 0 {
				next = "number"
			}
		case "number":
			if c == 0 {
				left, next = 4, "sum"
				break
			}
			stands, next = c > block+1 && c <= blocks, "size"
			block = c - 1
		case "size":
			stands, left, next = c <= 6, c, "text"
			got.texts[block] = ""
			if left == 0 {
				next = "number"
			}
		case "text":
			got.texts[block] += char(c)
			if left == 0 {
				next = "number"
			}
		case "sum":
			got.sum += char(c)
			if left == 0 {
				next = "nothing"
			}
		case "nothing":
			stands = false
		}
		if !stands {
			return judged{}, at, false
		}
	}
	return got, len(stream), next == "nothing"
}
