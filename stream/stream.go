// Package stream: the bytes in which a snapshot's texts are sent.
package stream

// The first bytes of each stream.
const (
	firstByte  = 77
	secondByte = 49
)

// The byte that tells whether there is a base.
const (
	withoutBase = 0
	withBase    = 1
)

// recordsEnd stands where else a record's block would; so records tell the
// block's number and one.
const recordsEnd = 0

// Whole makes the stream of the texts without a base.
func Whole(texts []string) string {
	head := []byte{firstByte, secondByte, byte(len(texts)), withoutBase, 0, 0, 0, 0}
	return finish(head, make([]string, len(texts)), texts)
}

// Since makes the stream of the texts with a base of as many blocks.
func Since(base []string, texts []string) string {
	return finish(headSince(base), base, texts)
}

func headSince(base []string) []byte {
	head := []byte{firstByte, secondByte, byte(len(base)), withBase}
	return appendSum(head, sumOfTexts(base))
}

// finish puts behind the head what is new in the texts, the end, and the sum.
func finish(head []byte, old []string, texts []string) string {
	bytes := head
	for block, text := range texts {
		if text != old[block] {
			bytes = append(bytes, byte(block+1))
			bytes = appendText(bytes, text)
		}
	}
	bytes = append(bytes, recordsEnd)
	return string(appendSum(bytes, sumOf(bytes)))
}

func appendText(bytes []byte, text string) []byte {
	bytes = append(bytes, byte(len(text)))
	return append(bytes, text...)
}
