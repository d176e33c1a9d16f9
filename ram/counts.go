package ram

import (
	"iter"
	"slices"

	"bole/api"
)

// firstFar is the lowest index that is reached over the table of tables.
const firstFar = api.Direct + api.PerTable

// The tables of a file, by numbers of their own: none, that of a record, the table of tables, and behind it those that it names.
const (
	noTable = iota
	oneTable
	twoTable
	farTable
)

// way is the tables over which an index is reached.
func way(k int) [2]int {
	switch {
	case k < api.Direct:
		return [...]int{noTable, noTable}
	case k < firstFar:
		return [...]int{oneTable, noTable}
	}
	return [...]int{twoTable, farTable + (k-firstFar)/api.PerTable}
}

// taken is how many blocks a file takes that has some at these indices, each given once.
func taken(indices iter.Seq[int]) int {
	var met [farTable + api.PerTable]bool
	met[noTable] = true
	count := 0
	for k := range indices {
		count++
		for _, table := range way(k) {
			if !met[table] {
				met[table] = true
				count++
			}
		}
	}
	return count
}

func isFar(k int) bool { return k < 0 || k >= api.MaxBlocks }

// Takes is how many blocks a file takes that has data at these indices, tables with them.
func Takes(indices []int) (int, api.Errno) {
	if slices.ContainsFunc(indices, isFar) {
		return 0, api.ErrFar
	}
	once := slices.Compact(slices.Sorted(slices.Values(indices)))
	return taken(slices.Values(once)), api.OK
}

// What a call may put beside the blocks of its bytes, and what a commit writes and flushes beside twice what is put.
const (
	otherBlocks = 12
	headers     = 2
	flushes     = 4
)

// Bound is the most writes and flushes that a call on a disk has.
func Bound(c api.Call) (int, int) {
	bytes := 0
	switch c.Kind {
	case api.CallWrite:
		if bytes = len(c.Data); bytes == 0 {
			return 0, 0
		}
	case api.CallSymlink:
		bytes = len(c.Other)
	case api.CallCreate, api.CallMkdir, api.CallTruncate, api.CallUnlink, api.CallRmdir, api.CallRename, api.CallLink:
	default:
		return 0, 0
	}
	return 2*(bytes/api.BlockSize+otherBlocks) + headers, flushes
}
