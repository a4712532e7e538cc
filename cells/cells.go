// Package cells: tables of texts, which share the cells that they have in
// common.
package cells

import (
	"slices"
	"strings"
)

// cell has a text that is not empty. Two cells are two even if their texts are
// the same, so tables hold pointers, and only the same pointer is the same cell.
type cell struct {
	text string
}

// Table has the cell of each block, nil where the text is empty. It is never
// changed once it is made, so that a snapshot costs no copy of it.
type Table struct {
	cells []*cell
}

// Empty makes a table of so many blocks, all of them empty.
func Empty(blocks int) Table {
	return Table{cells: make([]*cell, blocks)}
}

// Size tells how many blocks there are.
func (t Table) Size() int { return len(t.cells) }

// Has tells whether there is such a block.
func (t Table) Has(block int) bool {
	return block >= 0 && block < t.Size()
}

// Text tells the text of a block that is there.
func (t Table) Text(block int) string {
	if c := t.cells[block]; c != nil {
		return c.text
	}
	return ""
}

// Texts tells the texts of all blocks.
func (t Table) Texts() []string {
	texts := make([]string, len(t.cells))
	for block := range texts {
		texts[block] = t.Text(block)
	}
	return texts
}

// With makes the table in which a block that is there has the text: in a new
// cell, unless it is the text that the block has already.
func (t Table) With(block int, text string) Table {
	if t.Text(block) == text {
		return t
	}
	next := slices.Clone(t.cells)
	next[block] = hold(text)
	return Table{cells: next}
}

// hold copies the text, so that no longer string that it was cut from is kept.
func hold(text string) *cell {
	if text == "" {
		return nil
	}
	return &cell{text: strings.Clone(text)}
}

// Used counts the cells that the tables have, each of them once.
func Used(tables []Table) int {
	var found []*cell
	for _, t := range tables {
		for _, c := range t.cells {
			if c != nil && !slices.Contains(found, c) {
				found = append(found, c)
			}
		}
	}
	return len(found)
}
