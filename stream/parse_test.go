package stream

import (
	"slices"
	"strings"
	"testing"
	"time"
)

const noBase = "\x00\x00\x00\x00\x00"

func summed(s string) string { return s + sumText(s) }

func parsed(t *testing.T, stream string, blocks int) Content {
	t.Helper()
	content, at, ok := Parse(stream, blocks)
	if !ok {
		t.Fatalf("Parse(%q, %d): no stream, at %d", stream, blocks, at)
	}
	return content
}

func TestParseTellsTheRecords(t *testing.T) {
	for _, c := range []struct {
		records string
		want    []Record
	}{
		{"", nil},
		{"\x01\x00", []Record{{0, ""}}},
		{"\x03\x06\x00\x01\x02\x00\xff\x00", []Record{{2, "\x00\x01\x02\x00\xff\x00"}}},
		{"\x01\x01a\x02\x00\x03\x02bc", []Record{{0, "a"}, {1, ""}, {2, "bc"}}},
	} {
		for _, head := range []string{"M1\x03" + noBase, "M1\x03\x01abcd"} {
			content := parsed(t, summed(head+c.records+"\x00"), 3)
			if !slices.Equal(content.Records, c.want) {
				t.Errorf("the records of %q: %v, want %v", c.records, content.Records, c.want)
			}
		}
	}
}

func TestParseTellsTheBase(t *testing.T) {
	base, texts := []string{"ab", ""}, []string{"ab", "c"}
	whole, since := parsed(t, Whole(texts), 2), parsed(t, Since(base, texts), 2)
	if !whole.IsWhole() || whole.IsSince(base) {
		t.Error("a stream without a base has one")
	}
	if since.IsWhole() || !since.IsSince(base) {
		t.Error("a stream with a base has it not")
	}
	if since.IsSince(texts) || since.IsSince([]string{"a", "b"}) || since.IsSince([]string{"", ""}) {
		t.Error("a stream with a base has another one")
	}
	zero := parsed(t, summed("M1\x02\x01\x00\x00\x00\x00\x00"), 2)
	if zero.IsWhole() || zero.IsSince(base) {
		t.Error("a base with the sum 0 is none, or another one")
	}
}

func TestParseTellsWhetherTheSumHolds(t *testing.T) {
	stream := Whole([]string{"ab", "c"})
	if !parsed(t, stream, 2).SumHolds {
		t.Error("the sum of a stream does not hold")
	}
	for at := range 4 {
		bytes := []byte(stream)
		bytes[len(bytes)-1-at] ^= 1
		if parsed(t, string(bytes), 2).SumHolds {
			t.Errorf("a sum holds with another byte, %d from the end", at)
		}
	}
	if parsed(t, strings.Replace(stream, "ab", "ax", 1), 2).SumHolds {
		t.Error("a sum holds with another text")
	}
}

func TestParseTellsThePlace(t *testing.T) {
	head := "M1\x02" + noBase
	for stream, want := range map[string]int{
		"":                                 0,
		"M":                                1,
		"m1\x02":                           0,
		"MM\x02":                           1,
		"M1\x01\x00":                       2,
		"M1\x02\x02":                       3,
		"M1\x02\x00\x00\x00\x00\x01":       7,
		"M1\x02\x01\xff\xff\xff":           7,
		head:                               8,
		head + "\x03":                      8,
		head + "\x01":                      9,
		head + "\x01\x07":                  9,
		head + "\x01\x06abcde":             15,
		head + "\x01\x00\x01":              10,
		head + "\x02\x01a\x02":             11,
		head + "\x00abc":                   12,
		summed(head+"\x00") + "\x00":       13,
		head + "\x03\xff":                  8,
		head + "\x01\xff" + "\x00\x00":     9,
		head + "\x02\x00\x01\xff\x00\x00":  10,
		head + strings.Repeat("\x01", 999): 11,
		head + strings.Repeat("\x00", 999): 13,
	} {
		content, at, ok := Parse(stream, 2)
		if ok || at != want {
			t.Errorf("Parse(%q): ok %v at %d, want no stream, at %d", stream, ok, at, want)
		}
		if content.Records != nil || content.SumHolds {
			t.Errorf("Parse(%q): a content of no stream", stream)
		}
	}
}

// TestReadingStops asks no piece of a reader, or one, and stops it then.
func TestReadingStops(t *testing.T) {
	for taken := range 2 {
		pieces, stop, ended := make(chan piece), make(chan struct{}), make(chan struct{})
		go func() {
			readRecords("\x01\x00\x02\x00\x03\x00", 0, pieces, stop)
			close(ended)
		}()
		for range taken {
			<-pieces
		}
		close(stop)
		select {
		case <-ended:
		case <-time.After(10 * time.Second):
			t.Fatalf("the reader goes on, stopped behind %d pieces", taken)
		}
		if _, more := <-pieces; more {
			t.Errorf("the channel is open, stopped behind %d pieces", taken)
		}
	}
}

func TestReadingEnds(t *testing.T) {
	for stream, want := range map[string][]piece{
		"":                     nil,
		"\x00":                 nil,
		"\x01\x02ab\x02\x00":   {{0, "\x01\x02ab"}, {4, "\x02\x00"}},
		"\x01\x02ab\x00\x02":   {{0, "\x01\x02ab"}},
		"\x01\x00\x02":         {{0, "\x01\x00"}, {2, "\x02"}},
		"\xff\xffab\x00":       {{0, "\xff\xffab\x00"}},
		"\x02\x00\x01\x01":     {{0, "\x02\x00"}, {2, "\x01\x01"}},
		"\x01\x01\x00\x00\x01": {{0, "\x01\x01\x00"}},
	} {
		pieces, stop := make(chan piece), make(chan struct{})
		go readRecords("ahead"+stream, 5, pieces, stop)
		var got []piece
		for p := range pieces {
			p.at -= 5
			got = append(got, p)
		}
		if !slices.Equal(got, want) {
			t.Errorf("the pieces of %q: %v, want %v", stream, got, want)
		}
	}
}
