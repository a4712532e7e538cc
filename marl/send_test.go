package marl_test

import (
	"hash/fnv"
	"math"
	"runtime"
	"strings"
	"testing"

	"marl/api"
	"marl/marl"
)

// sumText: the sum of some bytes as they stand in a stream, told by the library.
func sumText(s string) string {
	h := fnv.New32a()
	h.Write([]byte(s))
	n := h.Sum32()
	return string([]byte{byte(n), byte(n >> 8), byte(n >> 16), byte(n >> 24)})
}

// summed: some bytes, and their sum behind them.
func summed(s string) string { return s + sumText(s) }

const noBase = "\x00\x00\x00\x00\x00"

func send(t *testing.T, v *marl.Volume, from, to string) *marl.Sender {
	t.Helper()
	s, err := v.Send(from, to)
	wantDone(t, "Send", err)
	if s == nil {
		t.Fatal("Send: no sender")
	}
	return s
}

func wantStream(t *testing.T, v *marl.Volume, from, to, want string) {
	t.Helper()
	if got := send(t, v, from, to).Next(1000); got != want {
		t.Errorf("the stream of %q with the base %q: %q, want %q", to, from, got, want)
	}
}

// stages: four snapshots, of which each has something other than the one ahead.
func stages(t *testing.T) *marl.Volume {
	t.Helper()
	v := create(t, 3, 12)
	snap(t, v, "void")
	write(t, v, 0, "ab")
	write(t, v, 2, "\x00\xff")
	snap(t, v, "b")
	write(t, v, 1, "123456")
	snap(t, v, "a")
	write(t, v, 0, "")
	write(t, v, 2, "x")
	write(t, v, 2, "\x00\xff") // another cell, the same text
	snap(t, v, "last")
	return v
}

func TestStreamsOfTheDocument(t *testing.T) {
	v := create(t, 2, 9)
	write(t, v, 0, "ab")
	snap(t, v, "a")
	write(t, v, 1, "c")
	snap(t, v, "b")
	wantStream(t, v, "", "a", summed(string([]byte{77, 49, 2, 0, 0, 0, 0, 0, 1, 2, 97, 98, 0})))
	wantStream(t, v, "a", "b", summed(string([]byte{77, 49, 2, 1})+sumText("\x02ab\x00")+string([]byte{2, 1, 99, 0})))
}

func TestStreamWithoutABase(t *testing.T) {
	v := stages(t)
	wantStream(t, v, "", "void", summed("M1\x03"+noBase+"\x00"))
	wantStream(t, v, "", "b", summed("M1\x03"+noBase+"\x01\x02ab\x03\x02\x00\xff\x00"))
	wantStream(t, v, "", "a", summed("M1\x03"+noBase+"\x01\x02ab\x02\x06123456\x03\x02\x00\xff\x00"))
	wantStream(t, v, "", "last", summed("M1\x03"+noBase+"\x02\x06123456\x03\x02\x00\xff\x00"))
}

func TestStreamWithABase(t *testing.T) {
	v := stages(t)
	snap(t, v, "same")
	void, b, a := sumText("\x00\x00\x00"), sumText("\x02ab\x00\x02\x00\xff"), sumText("\x02ab\x06123456\x02\x00\xff")
	wantStream(t, v, "void", "b", summed("M1\x03\x01"+void+"\x01\x02ab\x03\x02\x00\xff\x00"))
	wantStream(t, v, "b", "a", summed("M1\x03\x01"+b+"\x02\x06123456\x00"))
	wantStream(t, v, "a", "last", summed("M1\x03\x01"+a+"\x01\x00\x00"))
	wantStream(t, v, "b", "last", summed("M1\x03\x01"+b+"\x01\x00\x02\x06123456\x00"))
	wantStream(t, v, "last", "same", summed("M1\x03\x01"+sumText("\x00\x06123456\x02\x00\xff")+"\x00"))
}

func TestStreamOfASnapshotIsNotThatOfNow(t *testing.T) {
	v := stages(t)
	write(t, v, 0, "later")
	write(t, v, 1, "")
	wantStream(t, v, "", "void", summed("M1\x03"+noBase+"\x00"))
	wantStream(t, v, "", "b", summed("M1\x03"+noBase+"\x01\x02ab\x03\x02\x00\xff\x00"))
}

func TestStreamOfTheGreatestVolume(t *testing.T) {
	v := create(t, 16, 40)
	records, all := "", ""
	for block := range 16 {
		text := strings.Repeat(string([]byte{byte(255 - block)}), 6)
		write(t, v, block, text)
		records += string([]byte{byte(block + 1), 6}) + text
		all += "\x06" + text
	}
	snap(t, v, "full")
	emptied := ""
	for block := range 16 {
		write(t, v, block, "")
		emptied += string([]byte{byte(block + 1), 0})
	}
	snap(t, v, "void")
	wantStream(t, v, "", "full", summed("M1\x10"+noBase+records+"\x00"))
	wantStream(t, v, "full", "void", summed("M1\x10\x01"+sumText(all)+emptied+"\x00"))
}

func wantSendRefused(t *testing.T, v *marl.Volume, from, to string, want api.Code) {
	t.Helper()
	wantRefused(t, v, "Send from "+from+" to "+to, want, func() error {
		s, err := v.Send(from, to)
		if s != nil {
			t.Errorf("Send(%q, %q) gave a sender with an error", from, to)
		}
		return err
	})
}

func TestSendRefused(t *testing.T) {
	v := stages(t)
	for _, name := range notNames() {
		for _, other := range []string{"", "a", "z", "A", name} {
			wantSendRefused(t, v, other, name, api.ErrName)
		}
		if name != "" {
			wantSendRefused(t, v, name, "a", api.ErrName)
			wantSendRefused(t, v, name, "z", api.ErrName)
		}
	}
	for _, pair := range [][2]string{{"", "z"}, {"a", "z"}, {"z", "a"}, {"z", "z"}, {"y", "z"}, {"last", "z"}, {"z", "void"}} {
		wantSendRefused(t, v, pair[0], pair[1], api.ErrNone)
	}
	names := v.List()
	for place, to := range names {
		for _, from := range names[place:] {
			wantSendRefused(t, v, from, to, api.ErrOrder)
		}
		for _, from := range names[:place] {
			send(t, v, from, to)
		}
	}
}

func TestSendGoesByAgeOfTheSnapshotsThatAreThere(t *testing.T) {
	v := stages(t)
	drop(t, v, "b")
	wantSendRefused(t, v, "", "b", api.ErrNone)
	wantSendRefused(t, v, "b", "a", api.ErrNone)
	snap(t, v, "b") // the youngest now
	wantSendRefused(t, v, "b", "a", api.ErrOrder)
	wantStream(t, v, "last", "b", summed("M1\x03\x01"+sumText("\x00\x06123456\x02\x00\xff")+"\x00"))
}

func TestSendChangesNothing(t *testing.T) {
	v := stages(t)
	before := look(t, v)
	for range 3 {
		send(t, v, "void", "last").Next(5)
		send(t, v, "", "a").Next(1000)
		if after := look(t, v); !same(before, after) {
			t.Fatalf("%v became %v", before, after)
		}
	}
}

func TestASenderStaysAsItWas(t *testing.T) {
	v := stages(t)
	want := summed("M1\x03\x01" + sumText("\x02ab\x00\x02\x00\xff") + "\x01\x00\x02\x06123456\x00")
	untouched, begun := send(t, v, "b", "last"), send(t, v, "b", "last")
	got := begun.Next(9)
	for block := range 3 {
		write(t, v, block, "later")
	}
	got += begun.Next(3)
	drop(t, v, "last", "b")
	got += begun.Next(2)
	snap(t, v, "last", "b") // others with the same names
	drop(t, v, "a", "void", "last", "b")
	got += begun.Next(1000)
	if got != want {
		t.Errorf("a sender that was begun: %q, want %q", got, want)
	}
	if got := untouched.Next(1000); got != want {
		t.Errorf("a sender that was not begun: %q, want %q", got, want)
	}
	wantUsed(t, v, 3) // a sender has no cell
}

func TestSendersAreApart(t *testing.T) {
	v := stages(t)
	one, two, other := send(t, v, "", "a"), send(t, v, "", "a"), send(t, v, "void", "a")
	var took [3]string
	for range 1000 {
		for i, s := range []*marl.Sender{one, two, other} {
			took[i] += s.Next(i + 1)
		}
	}
	wantStream(t, v, "", "a", took[0])
	wantStream(t, v, "", "a", took[1])
	wantStream(t, v, "void", "a", took[2])
}

func TestNextInPiecesOfAllSizes(t *testing.T) {
	v := stages(t)
	want := send(t, v, "", "a").Next(math.MaxInt)
	for size := 1; size <= len(want)+2; size++ {
		s := send(t, v, "", "a")
		for at := 0; at < len(want); at += size {
			end := min(at+size, len(want))
			if got := s.Next(size); got != want[at:end] {
				t.Fatalf("Next(%d) at %d = %q, want %q", size, at, got, want[at:end])
			}
		}
		for _, most := range []int{1, size, math.MaxInt, 0, -1} {
			if got := s.Next(most); got != "" {
				t.Errorf("Next(%d) behind the end = %q", most, got)
			}
		}
	}
}

func TestNextOfNone(t *testing.T) {
	v := stages(t)
	want := send(t, v, "", "a").Next(1000)
	s := send(t, v, "", "a")
	got := ""
	for size := 0; len(got) < len(want) && size < 100; size++ {
		for _, most := range []int{0, -1, -size, math.MinInt, math.MinInt32} {
			if piece := s.Next(most); piece != "" {
				t.Fatalf("Next(%d) = %q", most, piece)
			}
		}
		got += s.Next(size)
	}
	if got != want {
		t.Errorf("the stream with empty pieces: %q, want %q", got, want)
	}
}

func TestNextOfVeryMany(t *testing.T) {
	v := stages(t)
	want := send(t, v, "", "a").Next(1000)
	for _, most := range []int{math.MaxInt, math.MaxInt - 1, 1 << 62, 1 << 32, math.MaxInt32, len(want)} {
		s := send(t, v, "", "a")
		if got := s.Next(3) + s.Next(most); got != want {
			t.Errorf("the stream by Next(%d): %q, want %q", most, got, want)
		}
	}
}

// TestWritersMeanwhile takes a stream while another goroutine has the volume.
func TestWritersMeanwhile(t *testing.T) {
	v := stages(t)
	want := send(t, v, "b", "last").Next(1000)
	s := send(t, v, "b", "last")
	taken := make(chan string)
	go func() {
		got := ""
		for range len(want) {
			got += s.Next(1)
		}
		taken <- got
	}()
	for i := range 200 {
		write(t, v, i%3, strings.Repeat("x", i%7))
	}
	drop(t, v, "b", "last")
	if got := <-taken; got != want {
		t.Errorf("the stream: %q, want %q", got, want)
	}
}

func TestSendLeavesNoGoroutine(t *testing.T) {
	v := stages(t)
	before := runtime.NumGoroutine()
	for range 50 {
		send(t, v, "", "a")
		send(t, v, "b", "last").Next(10)
		if _, err := v.Send("last", "b"); err == nil {
			t.Fatal("Send: the younger one as a base")
		}
	}
	if after := runtime.NumGoroutine(); after > before {
		t.Errorf("%d goroutines became %d", before, after)
	}
}
