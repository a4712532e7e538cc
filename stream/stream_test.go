package stream

import (
	"hash/fnv"
	"testing"
)

// sumText: the sum of some bytes as they stand in a stream, told by the library.
func sumText(s string) string {
	h := fnv.New32a()
	h.Write([]byte(s))
	n := h.Sum32()
	return string([]byte{byte(n), byte(n >> 8), byte(n >> 16), byte(n >> 24)})
}

func TestSumOfNoBytes(t *testing.T) {
	if s := string(appendSum(nil, sumOf(nil))); s != "\xc5\x9d\x1c\x81" {
		t.Errorf("the sum of no bytes: % x", s)
	}
}

func TestSumOfAllBytes(t *testing.T) {
	text := ""
	for c := range 256 {
		text += string([]byte{byte(c)})
		got := string(appendSum([]byte("ahead"), sumOf([]byte(text))))
		if want := "ahead" + sumText(text); got != want {
			t.Fatalf("the sum of %d bytes: % x, want % x", len(text), got, want)
		}
	}
}

func TestSumOfTextsTellsWhereTheyEnd(t *testing.T) {
	one, two := sumOfTexts([]string{"ab", ""}), sumOfTexts([]string{"a", "b"})
	if one == two {
		t.Errorf("the sum of both is %d", one)
	}
	if got, want := string(appendSum(nil, one)), sumText("\x02ab\x00"); got != want {
		t.Errorf("the sum of two texts: % x, want % x", got, want)
	}
}

func TestWholeHasEachTextThatIsNotEmpty(t *testing.T) {
	for _, c := range []struct {
		texts []string
		want  string
	}{
		{[]string{""}, "M1\x01\x00\x00\x00\x00\x00\x00"},
		{[]string{"ab", ""}, "M1\x02\x00\x00\x00\x00\x00\x01\x02ab\x00"},
		{[]string{"", "\x00\xff", "123456"}, "M1\x03\x00\x00\x00\x00\x00\x02\x02\x00\xff\x03\x06123456\x00"},
	} {
		if got, want := Whole(c.texts), c.want+sumText(c.want); got != want {
			t.Errorf("Whole(%q) = %q, want %q", c.texts, got, want)
		}
	}
}

func TestSinceHasEachTextThatIsAnother(t *testing.T) {
	for _, c := range []struct {
		base, texts []string
		sum, want   string
	}{
		{[]string{""}, []string{""}, "\x00", "\x00"},
		{[]string{"ab", ""}, []string{"ab", "c"}, "\x02ab\x00", "\x02\x01c\x00"},
		{[]string{"ab", "c"}, []string{"", "c"}, "\x02ab\x01c", "\x01\x00\x00"},
		{[]string{"a", "b", "c"}, []string{"b", "b", "a"}, "\x01a\x01b\x01c", "\x01\x01b\x03\x01a\x00"},
	} {
		want := "M1" + string([]byte{byte(len(c.texts))}) + "\x01" + sumText(c.sum) + c.want
		want += sumText(want)
		if got := Since(c.base, c.texts); got != want {
			t.Errorf("Since(%q, %q) = %q, want %q", c.base, c.texts, got, want)
		}
	}
}
