package marl_test

import (
	"testing"

	"marl/api"
	"marl/marl"
)

func roll(t *testing.T, v *marl.Volume, name string) {
	t.Helper()
	wantDone(t, "Roll "+name, v.Roll(name))
}

func TestRollHasTheTextsOfTheSnapshot(t *testing.T) {
	v := stages(t)
	for _, c := range []struct {
		name  string
		texts []string
	}{
		{"b", []string{"ab", "", "\x00\xff"}},
		{"void", []string{"", "", ""}},
		{"last", []string{"", "123456", "\x00\xff"}},
		{"a", []string{"ab", "123456", "\x00\xff"}},
		{"a", []string{"ab", "123456", "\x00\xff"}},
	} {
		roll(t, v, c.name)
		wantTexts(t, v, "", c.texts...)
		wantTexts(t, v, c.name, c.texts...)
		wantList(t, v, "void", "b", "a", "last")
		wantUsed(t, v, 4)
	}
}

func TestRollHasTheCellsOfTheSnapshot(t *testing.T) {
	v := create(t, 2, 9)
	write(t, v, 0, "a")
	snap(t, v, "one")
	write(t, v, 0, "b")
	write(t, v, 1, "c")
	wantUsed(t, v, 3)
	roll(t, v, "one") // b and c are free again
	wantUsed(t, v, 1)
	write(t, v, 0, "a") // the text that it has: no new cell
	wantUsed(t, v, 1)
	drop(t, v, "one")
	wantUsed(t, v, 1) // the volume has the cell
	wantTexts(t, v, "", "a", "")
	write(t, v, 0, "")
	wantUsed(t, v, 0)
}

func TestRollSetsSameTextsIntoTheSnapshotsCells(t *testing.T) {
	v := based(t)
	wantUsed(t, v, 4)
	roll(t, v, "base")
	wantUsed(t, v, 2)
	wantTexts(t, v, "", "a", "b", "")
}

func TestASnapshotStaysBehindRoll(t *testing.T) {
	v := stages(t)
	roll(t, v, "b")
	write(t, v, 0, "new")
	write(t, v, 1, "x")
	write(t, v, 2, "")
	wantTexts(t, v, "b", "ab", "", "\x00\xff")
	snap(t, v, "new")
	roll(t, v, "b")
	wantTexts(t, v, "new", "new", "x", "")
	wantTexts(t, v, "", "ab", "", "\x00\xff")
	wantStream(t, v, "b", "new", summed(onBase("ab", "", "\x00\xff")+"\x01\x03new\x02\x01x\x03\x00\x00"))
}

func TestRollInAFullVolume(t *testing.T) {
	v := create(t, 2, 2)
	write(t, v, 0, "a")
	snap(t, v, "a")
	write(t, v, 0, "b")
	wantRefused(t, v, "a third cell", api.ErrFull, func() error { return v.Write(1, "c") })
	roll(t, v, "a")
	write(t, v, 1, "c")
	wantUsed(t, v, 2)
}

func TestRollToAReceivedSnapshot(t *testing.T) {
	v := create(t, 2, 2)
	write(t, v, 1, "own")
	receive(t, v, summed(onNone(2)+"\x01\x01a\x00"), "", "got")
	roll(t, v, "got")
	wantTexts(t, v, "", "a", "")
	wantUsed(t, v, 1)
	write(t, v, 0, "b")
	wantTexts(t, v, "got", "a", "")
	wantUsed(t, v, 2)
}

func TestRollRefused(t *testing.T) {
	v := stages(t)
	write(t, v, 0, "now")
	refused := func(name string, want api.Code) {
		t.Helper()
		wantRefused(t, v, "Roll "+name, want, func() error { return v.Roll(name) })
	}
	for _, name := range notNames() {
		refused(name, api.ErrName)
	}
	for _, name := range []string{"c", "z", "aa", "voi", "zzzz"} {
		refused(name, api.ErrNone)
	}
	drop(t, v, "a")
	refused("a", api.ErrNone)
	empty := create(t, 1, 1)
	wantRefused(t, empty, "Roll without snapshots", api.ErrNone, func() error { return empty.Roll("a") })
}
