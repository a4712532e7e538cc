package marl_test

import (
	"errors"
	"slices"
	"testing"

	"marl/api"
	"marl/marl"
)

// state: all that can be seen of a volume.
type state struct {
	names []string
	used  int
	texts [][]string // of the blocks as they are, then of each snapshot
}

func look(t *testing.T, v *marl.Volume) state {
	t.Helper()
	s := state{names: v.List(), used: v.Used()}
	for _, name := range append([]string{""}, s.names...) {
		s.texts = append(s.texts, texts(t, v, name))
	}
	return s
}

func same(a, b state) bool {
	return slices.Equal(a.names, b.names) && a.used == b.used && slices.EqualFunc(a.texts, b.texts, slices.Equal)
}

// texts: those of all blocks, as many as can be read.
func texts(t *testing.T, v *marl.Volume, name string) []string {
	t.Helper()
	var l []string
	for block := range api.MaxBlocks + 1 {
		text, err := v.Read(name, block)
		if err != nil {
			wantFault(t, "Read past the last block", err, api.ErrArg)
			break
		}
		l = append(l, text)
	}
	return l
}

func wantFault(t *testing.T, what string, err error, want api.Code) {
	t.Helper()
	wantFaultAt(t, what, err, want, 0)
}

func wantFaultAt(t *testing.T, what string, err error, want api.Code, at int) {
	t.Helper()
	var fault *api.Fault
	if !errors.As(err, &fault) {
		t.Fatalf("%s: %v, want the code %d at %d", what, err, want, at)
	}
	if fault.Code != want || fault.At != at {
		t.Fatalf("%s: code %d at %d, want %d at %d", what, fault.Code, fault.At, want, at)
	}
	broken := want == api.ErrForm || want == api.ErrSum
	if errors.Is(err, marl.Broken) != broken {
		t.Errorf("%s: Broken is in the error: %v, want %v", what, !broken, broken)
	}
	if _, bare := err.(*api.Fault); bare {
		t.Errorf("%s: the fault is not wrapped", what)
	}
}

// wantRefused: the call answers the code, and nothing changes.
func wantRefused(t *testing.T, v *marl.Volume, what string, want api.Code, call func() error) {
	t.Helper()
	wantRefusedAt(t, v, what, want, 0, call)
}

func wantRefusedAt(t *testing.T, v *marl.Volume, what string, want api.Code, at int, call func() error) {
	t.Helper()
	before := look(t, v)
	wantFaultAt(t, what, call(), want, at)
	if after := look(t, v); !same(before, after) {
		t.Errorf("%s: refused, yet %v became %v", what, before, after)
	}
}

func wantDone(t *testing.T, what string, err error) {
	t.Helper()
	if err != nil {
		t.Fatalf("%s: %v", what, err)
	}
}

func wantUsed(t *testing.T, v *marl.Volume, want int) {
	t.Helper()
	if n := v.Used(); n != want {
		t.Errorf("Used = %d, want %d", n, want)
	}
}

func wantTexts(t *testing.T, v *marl.Volume, name string, want ...string) {
	t.Helper()
	if l := texts(t, v, name); !slices.Equal(l, want) {
		t.Errorf("the texts of %q: %q, want %q", name, l, want)
	}
}

func wantList(t *testing.T, v *marl.Volume, want ...string) {
	t.Helper()
	if l := v.List(); !slices.Equal(l, want) {
		t.Errorf("List = %q, want %q", l, want)
	}
}

func create(t *testing.T, blocks, pool int) *marl.Volume {
	t.Helper()
	v, err := marl.New(blocks, pool)
	wantDone(t, "New", err)
	if v == nil {
		t.Fatal("New: no volume")
	}
	return v
}

func write(t *testing.T, v *marl.Volume, block int, text string) {
	t.Helper()
	wantDone(t, "Write", v.Write(block, text))
}

func snap(t *testing.T, v *marl.Volume, names ...string) {
	t.Helper()
	for _, name := range names {
		wantDone(t, "Snap "+name, v.Snap(name))
	}
}

func drop(t *testing.T, v *marl.Volume, names ...string) {
	t.Helper()
	for _, name := range names {
		wantDone(t, "Drop "+name, v.Drop(name))
	}
}

// notNames: too short, too long, and all bytes that no name has, at each place.
func notNames() []string {
	l := []string{"", "abcde", "aaaaaaaaaaaaaaaa", "é", "ab\n", " a"}
	for c := range 256 {
		if c >= 'a' && c <= 'z' {
			continue
		}
		bad := string([]byte{byte(c)})
		l = append(l, bad, bad+"abc", "a"+bad+"c", "abc"+bad)
	}
	return l
}
