package cells

import (
	"slices"
	"testing"
)

func TestEmptyTable(t *testing.T) {
	table := Empty(3)
	if n := table.Size(); n != 3 {
		t.Errorf("Size = %d, want 3", n)
	}
	for block, want := range map[int]bool{-1: false, 0: true, 2: true, 3: false} {
		if table.Has(block) != want {
			t.Errorf("Has(%d) = %v, want %v", block, !want, want)
		}
	}
	for block := range 3 {
		if s := table.Text(block); s != "" {
			t.Errorf("Text(%d) = %q, want none", block, s)
		}
	}
	if n := Used([]Table{table}); n != 0 {
		t.Errorf("Used = %d, want 0", n)
	}
}

func TestWithLeavesTheOldTable(t *testing.T) {
	old := Empty(2).With(0, "a")
	next := old.With(0, "b").With(1, "c")
	if old.Text(0) != "a" || old.Text(1) != "" {
		t.Errorf("the old table has %q, %q", old.Text(0), old.Text(1))
	}
	if next.Text(0) != "b" || next.Text(1) != "c" {
		t.Errorf("the new table has %q, %q", next.Text(0), next.Text(1))
	}
}

func TestTextsAreTheCallers(t *testing.T) {
	table := Empty(3).With(2, "b").With(0, "a")
	texts := table.Texts()
	if want := []string{"a", "", "b"}; !slices.Equal(texts, want) {
		t.Errorf("Texts = %q, want %q", texts, want)
	}
	texts[0], texts[1] = "x", "y"
	if again := table.Texts(); again[0] != "a" || again[1] != "" || table.Text(0) != "a" {
		t.Errorf("Texts = %q once a list of it was written", again)
	}
}

func TestUsedCountsSharedCellsOnce(t *testing.T) {
	one := Empty(2).With(0, "a")
	for _, c := range []struct {
		what   string
		tables []Table
		want   int
	}{
		{"no table", nil, 0},
		{"one table", []Table{one}, 1},
		{"the same table twice", []Table{one, one}, 1},
		{"the same text again", []Table{one, one.With(0, "a")}, 1},
		{"another block", []Table{one, one.With(1, "a")}, 2},
		{"another text", []Table{one, one.With(0, "b")}, 2},
		{"the same text in a new cell", []Table{one, one.With(0, "b").With(0, "a")}, 2},
		{"an emptied block", []Table{one, one.With(0, "")}, 1},
		{"a lone emptied block", []Table{one.With(0, "")}, 0},
		{"tables of another making", []Table{one, Empty(2).With(0, "a")}, 2},
	} {
		if n := Used(c.tables); n != c.want {
			t.Errorf("%s: Used = %d, want %d", c.what, n, c.want)
		}
	}
}
