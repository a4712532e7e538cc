package marl_test

import (
	"math/rand"
	"runtime"
	"strconv"
	"strings"
	"testing"
	"time"

	"marl/api"
	"marl/marl"
)

func receive(t *testing.T, v *marl.Volume, stream, base, name string) {
	t.Helper()
	wantDone(t, "Receive "+name, v.Receive(stream, base, name))
}

func wantUnreceived(t *testing.T, v *marl.Volume, stream, base, name string, want api.Code, at int) {
	t.Helper()
	what := "Receive of " + strconv.Quote(stream) + " with the base " + base + " as " + name
	wantRefusedAt(t, v, what, want, at, func() error { return v.Receive(stream, base, name) })
}

// all: the stream of a snapshot.
func all(t *testing.T, v *marl.Volume, from, to string) string {
	t.Helper()
	return send(t, v, from, to).Next(1000)
}

// onBase: the beginning of a stream with a base of these texts.
func onBase(texts ...string) string {
	s := ""
	for _, text := range texts {
		s += char(len(text)) + text
	}
	return "M1" + char(len(texts)) + "\x01" + sumText(s)
}

// onNone: the beginning of a stream without a base.
func onNone(blocks int) string { return "M1" + char(blocks) + noBase }

func TestReceiveTheStreamsOfTheDocument(t *testing.T) {
	v := create(t, 2, 9)
	receive(t, v, summed(string([]byte{77, 49, 2, 0, 0, 0, 0, 0, 1, 2, 97, 98, 0})), "", "a")
	wantTexts(t, v, "a", "ab", "")
	wantUsed(t, v, 1)
	receive(t, v, summed(string([]byte{77, 49, 2, 1})+sumText("\x02ab\x00")+string([]byte{2, 1, 99, 0})), "a", "b")
	wantTexts(t, v, "a", "ab", "")
	wantTexts(t, v, "b", "ab", "c")
	wantUsed(t, v, 2)
	wantList(t, v, "a", "b")
	wantTexts(t, v, "", "", "")
}

func TestReceiveTextsOfAllLengthsAndBytes(t *testing.T) {
	v := create(t, 1, 1)
	for length := range 7 {
		text := strings.Repeat("\x00", length)
		receive(t, v, summed(onNone(1)+"\x01"+char(length)+text+"\x00"), "", "a")
		wantTexts(t, v, "a", text)
		drop(t, v, "a")
	}
	for c := range 256 {
		text := char(c) + "\x00" + char(255-c)
		receive(t, v, summed(onNone(1)+"\x01\x03"+text+"\x00"), "", "a")
		wantTexts(t, v, "a", text)
		drop(t, v, "a")
	}
}

func TestReceiveTheGreatestStream(t *testing.T) {
	v := create(t, 16, 32)
	records, want := "", make([]string, 16)
	for block := range 16 {
		want[block] = strings.Repeat(char(240+block), 6)
		records += char(block+1) + "\x06" + want[block]
	}
	receive(t, v, summed(onNone(16)+records+"\x00"), "", "full")
	wantTexts(t, v, "full", want...)
	wantUsed(t, v, 16)
	receive(t, v, summed(onNone(16)+records+"\x00"), "", "zzzz")
	wantUsed(t, v, 32)
	receive(t, v, summed(onBase(want...)+"\x10\x00\x00"), "zzzz", "less")
	wantTexts(t, v, "less", append(want[:15:15], "")...)
	wantUsed(t, v, 32)
}

func TestAReceivedSnapshotIsTheYoungest(t *testing.T) {
	v := create(t, 1, 9)
	snap(t, v, "b", "c")
	receive(t, v, summed(onNone(1)+"\x01\x01x\x00"), "", "a")
	wantList(t, v, "b", "c", "a")
	wantSendRefused(t, v, "a", "c", api.ErrOrder)
	wantStream(t, v, "b", "a", summed(onBase("")+"\x01\x01x\x00"))
	drop(t, v, "b")
	snap(t, v, "b")
	wantList(t, v, "c", "a", "b")
	wantStream(t, v, "a", "b", summed(onBase("x")+"\x01\x00\x00"))
}

// based: a volume of which each block and its snapshot "base" have the same
// text, in two cells.
func based(t *testing.T) *marl.Volume {
	t.Helper()
	v := create(t, 3, 9)
	write(t, v, 0, "a")
	write(t, v, 1, "b")
	snap(t, v, "base")
	for block, text := range []string{"a", "b"} {
		write(t, v, block, "")
		write(t, v, block, text)
	}
	wantUsed(t, v, 4)
	return v
}

func TestReceivedCells(t *testing.T) {
	for _, c := range []struct {
		what    string
		base    string
		records string
		texts   []string
		used    int // behind it
		left    int // when the base is dropped
		own     int // when the volume's blocks are empty, too
	}{
		{"no records", "base", "", []string{"a", "b", ""}, 4, 4, 2},
		{"the base's text", "base", "\x01\x01a", []string{"a", "b", ""}, 4, 4, 2},
		{"all texts of the base", "base", "\x01\x01a\x02\x01b\x03\x00", []string{"a", "b", ""}, 4, 4, 2},
		{"another text", "base", "\x01\x01x", []string{"x", "b", ""}, 5, 4, 2},
		{"the text of another block", "base", "\x01\x01b", []string{"b", "b", ""}, 5, 4, 2},
		{"an empty block's text", "base", "\x03\x01a", []string{"a", "b", "a"}, 5, 5, 3},
		{"an empty text", "base", "\x02\x00", []string{"a", "", ""}, 4, 3, 1},
		{"all texts empty", "base", "\x01\x00\x02\x00\x03\x00", []string{"", "", ""}, 4, 2, 0},
		{"without a base: none", "", "", []string{"", "", ""}, 4, 2, 0},
		{"without a base: empty texts", "", "\x01\x00\x03\x00", []string{"", "", ""}, 4, 2, 0},
		{"without a base: the same texts", "", "\x01\x01a\x02\x01b", []string{"a", "b", ""}, 6, 4, 2},
	} {
		v, head := based(t), onNone(3)
		if c.base != "" {
			head = onBase("a", "b", "")
		}
		receive(t, v, summed(head+c.records+"\x00"), c.base, "got")
		t.Log(c.what)
		wantTexts(t, v, "got", c.texts...)
		wantTexts(t, v, "base", "a", "b", "")
		wantTexts(t, v, "", "a", "b", "")
		wantUsed(t, v, c.used)
		drop(t, v, "base")
		wantUsed(t, v, c.left)
		write(t, v, 0, "")
		write(t, v, 1, "")
		wantUsed(t, v, c.own)
		wantTexts(t, v, "got", c.texts...)
		drop(t, v, "got")
		wantUsed(t, v, 0)
	}
}

func TestReceivedBlocksAreNotTheVolumes(t *testing.T) {
	v := create(t, 2, 9)
	write(t, v, 0, "own")
	receive(t, v, summed(onNone(2)+"\x01\x01a\x02\x01b\x00"), "", "got")
	wantTexts(t, v, "", "own", "")
	write(t, v, 1, "b") // in a cell of its own
	wantUsed(t, v, 4)
	write(t, v, 0, "new")
	wantTexts(t, v, "got", "a", "b")
	receive(t, v, summed(onBase("a", "b")+"\x01\x00\x00"), "got", "next")
	wantTexts(t, v, "got", "a", "b")
	wantTexts(t, v, "next", "", "b")
	wantTexts(t, v, "", "new", "b")
}

func TestReceiveOnABaseOfTheSameTexts(t *testing.T) {
	v := create(t, 1, 9)
	write(t, v, 0, "a")
	snap(t, v, "one")
	write(t, v, 0, "b")
	write(t, v, 0, "a")
	snap(t, v, "two") // the same text, another cell
	wantUsed(t, v, 2)
	stream := summed(onBase("a") + "\x00")
	receive(t, v, stream, "one", "x")
	receive(t, v, stream, "two", "y")
	drop(t, v, "one", "two")
	wantUsed(t, v, 2)
	drop(t, v, "x")
	wantUsed(t, v, 1)
}

func TestReceiveRefusesNames(t *testing.T) {
	v := stages(t)
	good := all(t, v, "", "a")
	for _, name := range notNames() {
		for _, base := range []string{"", "a", "z", "A", name} {
			wantUnreceived(t, v, good, base, name, api.ErrName, 0)
			wantUnreceived(t, v, "", base, name, api.ErrName, 0)
		}
		if name != "" {
			wantUnreceived(t, v, good, name, "z", api.ErrName, 0)
			wantUnreceived(t, v, "", name, "a", api.ErrName, 0)
		}
	}
}

// TestReceiveAnswersTheFirstError has, in each call, also the errors that are
// named later, as far as they can be had together.
func TestReceiveAnswersTheFirstError(t *testing.T) {
	v := create(t, 1, 1)
	write(t, v, 0, "a")
	snap(t, v, "a", "b", "c", "d", "e")
	badForm := onNone(2)
	badSum := onBase("b") + "\x01\x01x\x00abcd"
	badBase := summed(onBase("b") + "\x01\x01x\x00")
	tooMany := summed(onBase("a") + "\x01\x01x\x00")
	wantUnreceived(t, v, badForm, "z", "a", api.ErrNone, 0)
	wantUnreceived(t, v, badForm, "", "a", api.ErrTwice, 0)
	wantUnreceived(t, v, badSum, "a", "a", api.ErrTwice, 0)
	wantUnreceived(t, v, tooMany, "a", "a", api.ErrTwice, 0)
	wantUnreceived(t, v, badForm, "", "x", api.ErrForm, 2)
	wantUnreceived(t, v, badSum+"+", "a", "x", api.ErrForm, 16)
	wantUnreceived(t, v, badSum, "a", "x", api.ErrSum, 0)
	wantUnreceived(t, v, badSum, "", "x", api.ErrSum, 0)
	wantUnreceived(t, v, badBase, "a", "x", api.ErrBase, 0)
	wantUnreceived(t, v, tooMany, "", "x", api.ErrBase, 0)
	wantUnreceived(t, v, summed(onNone(1)+"\x01\x01x\x00"), "a", "x", api.ErrBase, 0)
	wantUnreceived(t, v, tooMany, "a", "x", api.ErrFull, 0)
	snap(t, v, "f")
	wantUnreceived(t, v, badForm, "z", "A", api.ErrName, 0)
	wantUnreceived(t, v, badForm, "Z", "a", api.ErrName, 0)
	wantUnreceived(t, v, badForm, "z", "f", api.ErrNone, 0)
	wantUnreceived(t, v, badForm, "z", "x", api.ErrNone, 0)
	wantUnreceived(t, v, badForm, "a", "f", api.ErrTwice, 0)
	wantUnreceived(t, v, badForm, "", "x", api.ErrMany, 0)
	wantUnreceived(t, v, badSum, "a", "x", api.ErrMany, 0)
	wantUnreceived(t, v, badBase, "a", "x", api.ErrMany, 0)
	wantUnreceived(t, v, tooMany, "a", "x", api.ErrMany, 0)
	drop(t, v, "c")
	receive(t, v, summed(onBase("a")+"\x00"), "a", "x")
}

func TestReceiveTellsThePlace(t *testing.T) {
	v := create(t, 2, 9)
	write(t, v, 0, "ab")
	snap(t, v, "a")
	none, base := onNone(2), onBase("ab", "")
	for _, c := range []struct {
		what   string
		stream string
		at     int
	}{
		{"no byte", "", 0},
		{"another first byte", "N1", 0},
		{"one byte", "M", 1},
		{"another second byte", "M2\x02", 1},
		{"no number of blocks", "M1", 2},
		{"fewer blocks", onNone(1) + "\x00", 2},
		{"more blocks", onNone(3) + "\x00", 2},
		{"no blocks", onNone(0) + "\x00", 2},
		{"nothing of a base", "M1\x02", 3},
		{"neither base nor none", "M1\x02\x02", 3},
		{"a base's byte that is too great", "M1\x02\xff", 3},
		{"no sum of a base", "M1\x02\x01", 4},
		{"a cut sum of no base", "M1\x02\x00\x00\x00\x00", 7},
		{"a cut sum of a base", base[:7], 7},
		{"a sum of no base, byte 1", "M1\x02\x00\x01\x00\x00\x00\x00", 4},
		{"a sum of no base, byte 2", "M1\x02\x00\x00\x80\x00\x00\x00", 5},
		{"a sum of no base, byte 3", "M1\x02\x00\x00\x00\xff\x00\x00", 6},
		{"a sum of no base, byte 4", "M1\x02\x00\x00\x00\x00\x02\x00", 7},
		{"no records, no end", none, 8},
		{"no records, no end, a base", base, 8},
		{"a block's number that is too great", none + "\x03\x00\x00", 8},
		{"the greatest number", base + "\xff\x00\x00", 8},
		{"no length", none + "\x02", 9},
		{"too great a length", none + "\x01\x071234567\x00", 9},
		{"the greatest length", none + "\x01\xff", 9},
		{"no text", none + "\x01\x01", 10},
		{"a cut text", none + "\x01\x0612345", 15},
		{"a cut second text", none + "\x01\x01a\x02\x02b", 14},
		{"no end behind a record", none + "\x02\x01a", 11},
		{"no end behind an empty text", none + "\x02\x00", 10},
		{"the same block again", none + "\x01\x00\x01\x00\x00", 10},
		{"the block ahead", none + "\x02\x01a\x01\x01b\x00", 11},
		{"a number that is too great behind a record", none + "\x02\x01a\x03\x01b\x00", 11},
		{"a bad number and a bad length", none + "\x03\xff", 8},
		{"a bad number at the end", none + "\x02\x00\x02", 10},
		{"no sum", none + "\x00", 9},
		{"a cut sum", none + "\x00abc", 12},
		{"a cut sum behind a record", none + "\x01\x01a\x00a", 13},
		{"a byte behind", summed(none+"\x00") + "\x00", 13},
		{"a byte behind a wrong sum", none + "\x00abcd\x00", 13},
		{"many bytes behind", summed(base+"\x02\x01a\x00") + strings.Repeat("x", 1<<20), 16},
		{"the stream twice", summed(none+"\x00") + summed(none+"\x00"), 13},
		{"a long string", strings.Repeat("M", 1<<20), 1},
		{"long records", none + strings.Repeat("\x02\x00", 1<<20), 10},
	} {
		for _, name := range []string{"", "a"} {
			wantRefusedAt(t, v, c.what, api.ErrForm, c.at, func() error { return v.Receive(c.stream, name, "x") })
		}
	}
}

func TestReceiveRefusesWrongSums(t *testing.T) {
	v := create(t, 2, 9)
	snap(t, v, "a")
	good := summed(onNone(2) + "\x01\x01a\x00")
	for _, sum := range []string{"\x00\x00\x00\x00", "abcd", "\xff\xff\xff\xff", sumText(""), sumText(good[:len(good)-5])} {
		wantUnreceived(t, v, good[:len(good)-4]+sum, "", "x", api.ErrSum, 0)
		wantUnreceived(t, v, good[:len(good)-4]+sum, "a", "x", api.ErrSum, 0)
	}
	turned := []byte(good)
	end := turned[len(turned)-4:]
	end[0], end[1], end[2], end[3] = end[3], end[2], end[1], end[0]
	wantUnreceived(t, v, string(turned), "", "x", api.ErrSum, 0)
	receive(t, v, good, "", "x")
}

func TestReceiveRefusesOtherBases(t *testing.T) {
	v := stages(t)
	one := create(t, 3, 12)
	snap(t, one, "void")
	receive(t, one, all(t, v, "", "b"), "", "b")
	receive(t, one, all(t, v, "b", "a"), "b", "a")
	for _, base := range []string{"", "void", "b"} {
		wantUnreceived(t, one, all(t, v, "a", "last"), base, "last", api.ErrBase, 0)
	}
	for _, base := range []string{"void", "b", "a"} {
		wantUnreceived(t, one, all(t, v, "", "last"), base, "last", api.ErrBase, 0)
	}
	wantUnreceived(t, one, all(t, v, "void", "last"), "", "last", api.ErrBase, 0)
	wantUnreceived(t, one, summed("M1\x03\x01\x00\x00\x00\x00\x00"), "void", "last", api.ErrBase, 0)
	wantUnreceived(t, one, summed("M1\x03\x01\x00\x00\x00\x00\x00"), "", "last", api.ErrBase, 0)
	receive(t, one, all(t, v, "a", "last"), "a", "last")
	wantTexts(t, one, "last", "", "123456", "\x00\xff")
}

func TestReceiveInAFullVolume(t *testing.T) {
	v := create(t, 2, 3)
	write(t, v, 0, "a")
	write(t, v, 1, "b")
	snap(t, v, "a")
	two := summed(onBase("a", "b") + "\x01\x01x\x02\x01y\x00")
	wantUnreceived(t, v, two, "a", "x", api.ErrFull, 0)
	wantUnreceived(t, v, summed(onNone(2)+"\x01\x01a\x02\x01b\x00"), "", "x", api.ErrFull, 0)
	receive(t, v, summed(onBase("a", "b")+"\x01\x01x\x00"), "a", "x") // the last cell
	wantUsed(t, v, 3)
	wantUnreceived(t, v, summed(onBase("a", "b")+"\x01\x01x\x00"), "a", "y", api.ErrFull, 0)
	wantUnreceived(t, v, summed(onBase("x", "b")+"\x01\x01a\x00"), "x", "y", api.ErrFull, 0)
	receive(t, v, summed(onBase("x", "b")+"\x01\x01x\x02\x00\x00"), "x", "y")
	receive(t, v, summed(onNone(2)+"\x01\x00\x02\x00\x00"), "", "z")
	wantUsed(t, v, 3)
	drop(t, v, "x", "y")
	wantUsed(t, v, 2)
	wantUnreceived(t, v, two, "a", "x", api.ErrFull, 0)
	write(t, v, 0, "")
	drop(t, v, "a")
	wantUsed(t, v, 1)
	receive(t, v, summed(onNone(2)+"\x01\x01x\x02\x01y\x00"), "", "x")
	wantUsed(t, v, 3)
}

// wantOnlyWhole: of all strings that are a stream but for one byte, that are cut,
// or have more behind it, the stream alone is received.
func wantOnlyWhole(t *testing.T, w *twins, stream, base string) {
	t.Helper()
	refused := func(what, s string) {
		t.Helper()
		if w.receive(what, s, base, "x") == 0 {
			t.Fatalf("received%s: %q for %q", what, s, stream)
		}
	}
	for at := range len(stream) {
		refused(" of a stream that is cut", stream[:at])
		for c := range 256 {
			if char(c) != stream[at:at+1] {
				refused(" of a stream with another byte", stream[:at]+char(c)+stream[at+1:])
			}
		}
	}
	for c := range 256 {
		refused(" of a stream with a byte behind it", stream+char(c))
	}
	refused(" of a stream with another behind it", stream+stream)
	if w.receive(" of a stream", stream, base, "x") != 0 {
		t.Fatalf("not received: %q", stream)
	}
	w.drop(" behind it", "x")
}

func TestABrokenStreamIsNotReceived(t *testing.T) {
	w := bear(t, 3, 12)
	w.write("", 0, "ab")
	w.snap("", "a")
	w.write("", 2, "\x00\xff\x00")
	w.write("", 0, "")
	w.snap("", "b")
	for _, pair := range [][2]string{{"", "a"}, {"", "b"}, {"a", "b"}} {
		wantOnlyWhole(t, w, all(t, w.v, pair[0], pair[1]), pair[0])
	}
	wantOnlyWhole(t, w, summed(onNone(3)+"\x00"), "")
	wantOnlyWhole(t, w, summed(onBase("ab", "", "")+"\x01\x00\x02\x01\x00\x03\x06123456\x00"), "a")
}

// TestOtherBytesWithTheirSum changes each byte, and mends the sum: so the place,
// the base and the texts are told apart by more than the sum.
func TestOtherBytesWithTheirSum(t *testing.T) {
	w := bear(t, 3, 12)
	w.write("", 0, "ab")
	w.snap("", "a")
	for _, base := range []string{"", "a"} {
		bytes := onNone(3) + "\x01\x02ab\x03\x01c\x00"
		if base != "" {
			bytes = onBase("ab", "", "") + "\x01\x02ab\x03\x01c\x00"
		}
		for at := range len(bytes) {
			for c := range 256 {
				stream := summed(bytes[:at] + char(c) + bytes[at+1:])
				if w.receive(" of a stream with a byte changed", stream, base, "x") == 0 {
					w.drop(" behind it", "x")
				}
			}
		}
	}
}

// inPieces: a stream, taken in pieces of some sizes.
func inPieces(t *testing.T, r *rand.Rand, v *marl.Volume, from, to string) string {
	t.Helper()
	s, got := send(t, v, from, to), ""
	for range 1000 {
		got += s.Next(r.Intn(9))
	}
	return got
}

// TestCopies sends all snapshots from volume to volume to volume, each with some
// base or none, while the volumes are written.
func TestCopies(t *testing.T) {
	names := []string{"a", "b", "c", "d", "e", "f"}
	for seed := range 60 {
		r := rand.New(rand.NewSource(int64(seed)))
		blocks := 1 + r.Intn(5)
		chain := []*marl.Volume{create(t, blocks, 40), create(t, blocks, 40), create(t, blocks, 40)}
		scribble := func(v *marl.Volume) {
			for range r.Intn(4) {
				write(t, v, r.Intn(blocks), "abcdef"[:r.Intn(7)])
			}
		}
		want := map[string][]string{}
		for k, name := range names {
			for _, v := range chain {
				scribble(v)
			}
			snap(t, chain[0], name)
			want[name] = texts(t, chain[0], name)
			for i, to := range chain[1:] {
				base := append(names[:k:k], "")[r.Intn(k+1)]
				receive(t, to, inPieces(t, r, chain[i], base, name), base, name)
				wantStream(t, to, base, name, all(t, chain[i], base, name))
			}
		}
		for _, v := range chain {
			for _, name := range names {
				wantTexts(t, v, name, want[name]...)
			}
			wantList(t, v, names...)
		}
	}
}

func TestReceiveDoesNotChangeASender(t *testing.T) {
	v := stages(t)
	want := all(t, v, "b", "last")
	s := send(t, v, "b", "last")
	got := s.Next(9)
	drop(t, v, "b", "last")
	receive(t, v, summed(onNone(3)+"\x01\x01x\x00"), "", "b")
	got += s.Next(4)
	receive(t, v, summed(onBase("x", "", "")+"\x02\x01y\x00"), "b", "last")
	wantDone(t, "Roll", v.Roll("last"))
	got += s.Next(1000)
	if got != want {
		t.Errorf("a sender: %q, want %q", got, want)
	}
}

func TestVolumesThatReceiveAreApart(t *testing.T) {
	one, two := create(t, 2, 2), create(t, 2, 2)
	stream := summed(onNone(2) + "\x01\x01a\x00")
	receive(t, one, stream, "", "a")
	wantList(t, two)
	wantUsed(t, two, 0)
	wantUnreceived(t, two, summed(onBase("a", "")+"\x00"), "a", "b", api.ErrNone, 0)
	receive(t, two, stream, "", "a")
	wantDone(t, "Roll", two.Roll("a"))
	drop(t, two, "a")
	write(t, two, 0, "b")
	wantTexts(t, one, "a", "a", "")
	wantTexts(t, one, "", "", "")
	wantUsed(t, one, 1)
}

// wantGoroutines waits a little: one that has told its end is not gone at once.
func wantGoroutines(t *testing.T, most int) {
	t.Helper()
	for range 200 {
		if runtime.NumGoroutine() <= most {
			return
		}
		time.Sleep(5 * time.Millisecond)
	}
	t.Errorf("%d goroutines, there were %d", runtime.NumGoroutine(), most)
}

func TestReceiveLeavesNoGoroutine(t *testing.T) {
	v := create(t, 16, 16)
	records := ""
	for block := range 16 {
		records += char(block+1) + "\x01a"
	}
	streams := []string{"", onNone(16), summed(onBase(make([]string, 16)...) + records + "\x00")}
	for end := 8; end <= len(onNone(16)+records); end++ {
		for _, tail := range []string{"", "\xff", "\x01\x00\x02\x00\x03\x00", "\x00", "\x00abcd", "\x00abcde"} {
			streams = append(streams, (onNone(16) + records)[:end]+tail)
		}
	}
	before := runtime.NumGoroutine()
	for range 20 {
		for _, stream := range streams {
			if v.Receive(stream, "", "x") == nil {
				t.Fatalf("received: %q", stream)
			}
		}
		receive(t, v, summed(onNone(16)+records+"\x00"), "", "x")
		wantUnreceived(t, v, summed(onNone(16)+records+"\x00"), "", "y", api.ErrFull, 0)
		drop(t, v, "x")
	}
	wantGoroutines(t, before)
}

// TestReceiveAtTheSameTime has volumes of their own in many goroutines.
func TestReceiveAtTheSameTime(t *testing.T) {
	streams := []string{summed(onNone(2) + "\x01\x01a\x02\x01b\x00"), onNone(2) + "\x02\x00\x02", onNone(2) + "\x01\x00\x00abcd"}
	want := []string{"", "marl: Receive: no stream, at 10", "marl: Receive: a stream with a wrong sum"}
	told := make(chan string)
	for range 20 {
		v := create(t, 2, 2)
		go func() {
			got := ""
			for i, stream := range streams {
				if err := v.Receive(stream, "", "x"); err != nil && err.Error() != want[i] || err == nil && i > 0 {
					got = "another answer"
				}
				v.Drop("x")
			}
			told <- got
		}()
	}
	for range 20 {
		if got := <-told; got != "" {
			t.Error(got)
		}
	}
}
