// Package marl: snapshots that share, and streams of what is new: see DOC.md.
package marl

import (
	"errors"
	"slices"
	"strings"

	"marl/api"
	"marl/cells"
)

// Broken is in the errors of streams that are none.
var Broken = errors.New("a broken stream")

// Volume has blocks and snapshots.
type Volume struct {
	pool  int
	now   cells.Table
	snaps []snapshot // the oldest first
}

// New makes a volume (P3).
func New(blocks int, pool int) (*Volume, error) {
	if blocks < 1 || blocks > api.MaxBlocks || pool < 1 || pool > api.MaxPool {
		return nil, refuse("New", api.ErrArg)
	}
	return &Volume{pool: pool, now: cells.Empty(blocks)}, nil
}

// Write writes a block (P3).
func (v *Volume) Write(block int, text string) error {
	if !v.now.Has(block) {
		return refuse("Write", api.ErrArg)
	}
	if len(text) > api.MaxText {
		return refuse("Write", api.ErrText)
	}
	next := v.now.With(block, text)
	if used(next, v.snaps) > v.pool {
		return refuse("Write", api.ErrFull)
	}
	v.now = next
	return nil
}

// Read reads a block (P3).
func (v *Volume) Read(name string, block int) (string, error) {
	if name != "" && !isName(name) {
		return "", refuse("Read", api.ErrName)
	}
	blocks, ok := v.blocksOf(name)
	if !ok {
		return "", refuse("Read", api.ErrNone)
	}
	if !blocks.Has(block) {
		return "", refuse("Read", api.ErrArg)
	}
	return blocks.Text(block), nil
}

// Snap makes a snapshot (P4).
func (v *Volume) Snap(name string) error {
	if !isName(name) {
		return refuse("Snap", api.ErrName)
	}
	if err := v.mayAdd("Snap", name); err != nil {
		return err
	}
	v.snaps = append(v.snaps, snapshot{name: strings.Clone(name), blocks: v.now})
	return nil
}

// Drop takes a snapshot away (P4).
func (v *Volume) Drop(name string) error {
	if !isName(name) {
		return refuse("Drop", api.ErrName)
	}
	place := v.find(name)
	if place < 0 {
		return refuse("Drop", api.ErrNone)
	}
	v.snaps = slices.Delete(v.snaps, place, place+1)
	return nil
}

// Used tells how many cells are not free (P4).
func (v *Volume) Used() int { return used(v.now, v.snaps) }

// List tells the snapshots (P4).
func (v *Volume) List() []string {
	var names []string
	for _, s := range v.snaps {
		names = append(names, s.name)
	}
	return names
}

// Roll goes back to a snapshot (P7).
func (v *Volume) Roll(name string) error {
	if !isName(name) {
		return refuse("Roll", api.ErrName)
	}
	place := v.find(name)
	if place < 0 {
		return refuse("Roll", api.ErrNone)
	}
	v.now = v.snaps[place].blocks
	return nil
}
