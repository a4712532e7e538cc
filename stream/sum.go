package stream

// The numbers of the 32-bit FNV-1a.
const (
	sumStart  uint32 = 2166136261
	sumFactor uint32 = 16777619
)

func sumOf(bytes []byte) uint32 {
	sum := sumStart
	for _, b := range bytes {
		sum = (sum ^ uint32(b)) * sumFactor
	}
	return sum
}

// sumOfTexts tells the sum of a snapshot that has these texts.
func sumOfTexts(texts []string) uint32 {
	var bytes []byte
	for _, text := range texts {
		bytes = appendText(bytes, text)
	}
	return sumOf(bytes)
}

// appendSum puts a sum behind the bytes, its low byte first.
func appendSum(bytes []byte, sum uint32) []byte {
	return append(bytes, byte(sum), byte(sum>>8), byte(sum>>16), byte(sum>>24))
}
