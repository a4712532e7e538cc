package marl

import (
	"slices"

	"marl/api"
	"marl/cells"
)

// snapshot has the blocks as they were.
type snapshot struct {
	name   string
	blocks cells.Table
}

func isName(name string) bool {
	if len(name) < 1 || len(name) > api.MaxName {
		return false
	}
	for i := range len(name) {
		if name[i] < 'a' || name[i] > 'z' {
			return false
		}
	}
	return true
}

// find tells the place of a snapshot, below 0 if there is none of that name.
func (v *Volume) find(name string) int {
	return slices.IndexFunc(v.snaps, func(s snapshot) bool { return s.name == name })
}

// blocksOf tells the blocks of a snapshot, or those of now if name is empty.
func (v *Volume) blocksOf(name string) (cells.Table, bool) {
	if name == "" {
		return v.now, true
	}
	place := v.find(name)
	if place < 0 {
		return cells.Table{}, false
	}
	return v.snaps[place].blocks, true
}

// mayAdd answers the error of a call that would add a snapshot of that name,
// nil if one may be added.
func (v *Volume) mayAdd(call string, name string) error {
	if v.find(name) >= 0 {
		return refuse(call, api.ErrTwice)
	}
	if len(v.snaps) >= api.MaxSnaps {
		return refuse(call, api.ErrMany)
	}
	return nil
}

// used tells USED as it is if a volume has these blocks and snapshots. Counting
// anew each time leaves no count that could go astray.
func used(now cells.Table, snaps []snapshot) int {
	tables := []cells.Table{now}
	for _, s := range snaps {
		tables = append(tables, s.blocks)
	}
	return cells.Used(tables)
}
