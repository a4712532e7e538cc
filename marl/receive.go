package marl

import (
	"slices"
	"strings"

	"marl/api"
	"marl/cells"
	"marl/stream"
)

// Receive makes a snapshot of a stream (P6).
func (v *Volume) Receive(stream string, base string, name string) error {
	if !isName(name) || base != "" && !isName(base) {
		return refuse("Receive", api.ErrName)
	}
	older, ok := v.baseOf(base)
	if !ok {
		return refuse("Receive", api.ErrNone)
	}
	if err := v.mayAdd("Receive", name); err != nil {
		return err
	}
	blocks, err := unpack(stream, base, older)
	if err != nil {
		return err
	}
	snaps := slices.Concat(v.snaps, []snapshot{{name: strings.Clone(name), blocks: blocks}})
	if used(v.now, snaps) > v.pool {
		return refuse("Receive", api.ErrFull)
	}
	v.snaps = snaps
	return nil
}

// baseOf tells the blocks of a base, all of them empty if there is to be none.
func (v *Volume) baseOf(base string) (cells.Table, bool) {
	if base == "" {
		return cells.Empty(v.now.Size()), true
	}
	return v.blocksOf(base)
}

// unpack makes the blocks that a stream tells out of those of its base.
func unpack(bytes string, base string, older cells.Table) (cells.Table, error) {
	content, at, ok := stream.Parse(bytes, older.Size())
	if !ok {
		return cells.Table{}, refuseAt("Receive", api.ErrForm, at)
	}
	if !content.SumHolds {
		return cells.Table{}, refuse("Receive", api.ErrSum)
	}
	if !isOn(content, base, older) {
		return cells.Table{}, refuse("Receive", api.ErrBase)
	}
	blocks := older
	for _, r := range content.Records {
		blocks = blocks.With(r.Block, r.Text)
	}
	return blocks, nil
}

// isOn tells whether a stream has that base, or none if base is empty.
func isOn(content stream.Content, base string, older cells.Table) bool {
	if base == "" {
		return content.IsWhole()
	}
	return content.IsSince(older.Texts())
}
