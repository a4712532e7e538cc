package marl_test

import (
	"errors"
	"slices"
	"testing"

	"marl/api"
	"marl/marl"
)

func TestListsAreTheCallers(t *testing.T) {
	v := create(t, 1, 1)
	snap(t, v, "a", "b", "c")
	one, two := v.List(), v.List()
	for _, l := range [][]string{one, v.List()} {
		l = l[:cap(l)]
		for i := range l {
			l[i] = "gone"
		}
	}
	if !slices.Equal(two, []string{"a", "b", "c"}) {
		t.Errorf("a list became %q when another was written", two)
	}
	wantList(t, v, "a", "b", "c")
	snap(t, v, "d")
	wantList(t, v, "a", "b", "c", "d")
	if !slices.Equal(two, []string{"a", "b", "c"}) {
		t.Errorf("a list became %q when a snapshot came", two)
	}
	drop(t, v, "a")
	if !slices.Equal(two, []string{"a", "b", "c"}) {
		t.Errorf("a list became %q when a snapshot went", two)
	}
}

func TestFaultsAreTheCallers(t *testing.T) {
	v := create(t, 1, 1)
	first, second := v.Drop("a"), v.Drop("a")
	var fault *api.Fault
	if !errors.As(first, &fault) {
		t.Fatal("there is no fault in", first)
	}
	fault.Code, fault.At = api.ErrForm, 7
	wantFault(t, "a fault of the same call", second, api.ErrNone)
	wantFault(t, "a later fault", v.Drop("a"), api.ErrNone)
	first, second = v.Receive("M", "", "a"), v.Receive("M", "", "a")
	if !errors.As(first, &fault) {
		t.Fatal("there is no fault in", first)
	}
	fault.Code, fault.At = api.ErrNone, 7
	wantFaultAt(t, "a place of the same call", second, api.ErrForm, 1)
	wantFaultAt(t, "a later place", v.Receive("M", "", "a"), api.ErrForm, 1)
}

func TestErrorsTellTheCallAndTheReason(t *testing.T) {
	v := create(t, 2, 1)
	write(t, v, 0, "a")
	snap(t, v, "a")
	_, newRefused := marl.New(0, 0)
	_, readRefused := v.Read("b", 0)
	_, sendRefused := v.Send("a", "a")
	told := []string{
		newRefused.Error(),
		readRefused.Error(),
		sendRefused.Error(),
		v.Write(0, "1234567").Error(),
		v.Write(1, "b").Error(),
		v.Snap("").Error(),
		v.Snap("a").Error(),
		v.Drop("b").Error(),
		v.Roll("b").Error(),
		v.Receive(onNone(2)+"\x01", "", "b").Error(),
		v.Receive(onNone(2)+"\x00abcd", "", "b").Error(),
		v.Receive(summed(onNone(2)+"\x00"), "a", "b").Error(),
	}
	snap(t, v, "b", "c", "d", "e", "f")
	told = append(told, v.Snap("g").Error())
	want := []string{
		"marl: New: a number that may not be",
		"marl: Read: no such snapshot",
		"marl: Send: the older one is not older",
		"marl: Write: a text that is too long",
		"marl: Write: no cell left",
		"marl: Snap: no name",
		"marl: Snap: there is such a snapshot already",
		"marl: Drop: no such snapshot",
		"marl: Roll: no such snapshot",
		"marl: Receive: no stream, at 9",
		"marl: Receive: a stream with a wrong sum",
		"marl: Receive: another base",
		"marl: Snap: too many snapshots",
	}
	if !slices.Equal(told, want) {
		t.Errorf("errors tell %q, want %q", told, want)
	}
}

func TestReadingChangesNothing(t *testing.T) {
	v := create(t, 2, 3)
	write(t, v, 0, "a")
	snap(t, v, "a")
	write(t, v, 0, "b")
	before := look(t, v)
	for range 3 {
		if after := look(t, v); !same(before, after) {
			t.Fatalf("%v became %v", before, after)
		}
	}
}

func TestVolumesAreApart(t *testing.T) {
	one, two := create(t, 2, 1), create(t, 2, 1)
	write(t, one, 0, "a")
	snap(t, one, "a")
	wantTexts(t, two, "", "", "")
	wantUsed(t, two, 0)
	wantList(t, two)
	snap(t, two, "a")
	write(t, two, 1, "b")
	drop(t, two, "a")
	wantTexts(t, one, "", "a", "")
	wantTexts(t, one, "a", "a", "")
	wantUsed(t, one, 1)
	wantList(t, one, "a")
}
