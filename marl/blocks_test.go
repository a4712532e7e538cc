package marl_test

import (
	"math"
	"strings"
	"testing"

	"marl/api"
	"marl/marl"
)

func TestNewTakesAllSizesThatMayBe(t *testing.T) {
	for blocks := 1; blocks <= 16; blocks++ {
		for pool := 1; pool <= 40; pool++ {
			v := create(t, blocks, pool)
			wantTexts(t, v, "", make([]string, blocks)...)
			wantUsed(t, v, 0)
			wantList(t, v)
		}
	}
}

func TestNewRefusesOtherSizes(t *testing.T) {
	for _, c := range [][2]int{
		{0, 1}, {17, 1}, {1, 0}, {1, 41}, {0, 0}, {17, 41}, {-1, 1}, {1, -1}, {40, 16},
		{math.MaxInt, 1}, {1, math.MaxInt}, {math.MinInt, 1}, {1, math.MinInt},
		{1<<32 + 1, 1}, {1, 1<<32 + 1}, {257, 1}, {1, 257},
	} {
		v, err := marl.New(c[0], c[1])
		if v != nil {
			t.Errorf("New(%d, %d) gave a volume", c[0], c[1])
		}
		wantFault(t, "New", err, api.ErrArg)
	}
}

func TestWriteAndRead(t *testing.T) {
	v := create(t, 3, 9)
	write(t, v, 0, "a")
	write(t, v, 2, "abcdef")
	wantTexts(t, v, "", "a", "", "abcdef")
	write(t, v, 2, "b")
	write(t, v, 0, "")
	wantTexts(t, v, "", "", "", "b")
}

func TestTextsOfAllLengthsAndBytes(t *testing.T) {
	v := create(t, 1, 1)
	for length := 0; length <= 6; length++ {
		text := strings.Repeat("x", length)
		write(t, v, 0, text)
		wantTexts(t, v, "", text)
	}
	for c := range 256 {
		text := string([]byte{byte(c), 0, byte(255 - c)})
		write(t, v, 0, text)
		wantTexts(t, v, "", text)
	}
}

func TestWriteAtTheEdgesOfAVolume(t *testing.T) {
	one, most := create(t, 1, 1), create(t, 16, 40)
	write(t, one, 0, "only")
	wantTexts(t, one, "", "only")
	want := make([]string, 16)
	for block := range 16 {
		want[block] = strings.Repeat(string(rune('a'+block)), 6)
		write(t, most, block, want[block])
	}
	wantTexts(t, most, "", want...)
	wantUsed(t, most, 16)
}

func TestWriteRefused(t *testing.T) {
	v := create(t, 2, 1)
	write(t, v, 0, "a")
	snap(t, v, "s")
	for _, c := range []struct {
		what  string
		block int
		text  string
		want  api.Code
	}{
		{"a block below 0", -1, "a", api.ErrArg},
		{"a block behind the last", 2, "a", api.ErrArg},
		{"the greatest number", math.MaxInt, "", api.ErrArg},
		{"the least number", math.MinInt, "", api.ErrArg},
		{"a number that wraps round to 0", 1 << 32, "a", api.ErrArg},
		{"no block, too long a text", 2, "1234567", api.ErrArg},
		{"too long a text in a full volume", 0, "1234567", api.ErrText},
		{"a text of 262 bytes", 0, strings.Repeat("a", 262), api.ErrText},
		{"a long text", 1, strings.Repeat("a", 1<<20), api.ErrText},
		{"six runes, more bytes", 1, "éééééé", api.ErrText},
		{"another block in a full volume", 1, "b", api.ErrFull},
		{"a block that a snapshot has, too", 0, "b", api.ErrFull},
	} {
		wantRefused(t, v, c.what, c.want, func() error { return v.Write(c.block, c.text) })
	}
}

func TestWriteInAFullVolume(t *testing.T) {
	v := create(t, 2, 1)
	write(t, v, 0, "a")
	write(t, v, 0, "b") // a's cell is free behind it
	wantUsed(t, v, 1)
	wantRefused(t, v, "a second cell", api.ErrFull, func() error { return v.Write(1, "c") })
	write(t, v, 0, "b")
	write(t, v, 1, "")
	write(t, v, 0, "")
	wantUsed(t, v, 0)
	write(t, v, 1, "c")
	snap(t, v, "s")
	write(t, v, 1, "c") // still the snapshot's cell
	wantUsed(t, v, 1)
	write(t, v, 1, "")
	wantUsed(t, v, 1)
	wantRefused(t, v, "the snapshot's text again", api.ErrFull, func() error { return v.Write(1, "c") })
	drop(t, v, "s")
	wantUsed(t, v, 0)
	write(t, v, 1, "c")
}

func TestWriteUpToTheGreatestPool(t *testing.T) {
	v := create(t, 16, 40)
	for round, name := range []string{"a", "b", "c"} {
		for block := range 16 {
			if round == 2 && block == 8 {
				break
			}
			write(t, v, block, name)
			wantUsed(t, v, round*16+block+1)
		}
		snap(t, v, name)
	}
	for block := range 16 {
		wantRefused(t, v, "cell 41", api.ErrFull, func() error { return v.Write(block, "d") })
	}
	drop(t, v, "a") // blocks 8 to 15 have their cells of b yet, and b has them all
	wantUsed(t, v, 24)
	write(t, v, 0, "d")
	wantUsed(t, v, 25)
}

func TestReadRefused(t *testing.T) {
	v := create(t, 2, 9)
	write(t, v, 0, "a")
	snap(t, v, "s")
	refused := func(name string, block int, want api.Code) {
		t.Helper()
		wantRefused(t, v, "Read", want, func() error {
			text, err := v.Read(name, block)
			if text != "" {
				t.Errorf("Read(%q, %d) answered %q with an error", name, block, text)
			}
			return err
		})
	}
	for _, block := range []int{-1, 2, 16, 1 << 32, math.MaxInt, math.MinInt} {
		refused("", block, api.ErrArg)
		refused("s", block, api.ErrArg)
		refused("t", block, api.ErrNone)
		refused("S", block, api.ErrName)
	}
	for _, name := range notNames() {
		if name != "" {
			refused(name, 0, api.ErrName)
		}
	}
	for _, name := range []string{"a", "z", "ss", "zzzz"} {
		refused(name, 0, api.ErrNone)
	}
}
