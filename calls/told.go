package calls

import (
	"strings"

	"bole/api"
)

// What a good answer is told as.

func tellDone(api.Answer) string { return "ok" }

func tellNumber(a api.Answer) string { return numbers(a.N) }

func tellData(a api.Answer) string { return Quote(a.Data) }

func tellStat(a api.Answer) string {
	return numbers(a.Stat.Inode, a.Stat.Kind, a.Stat.Links, a.Stat.Size, a.Stat.Blocks)
}

func tellNames(a api.Answer) string {
	lines := []string{numbers(len(a.Names))}
	for _, name := range a.Names {
		lines = append(lines, Quote(name))
	}
	return strings.Join(lines, lineBreak)
}

func tellRoom(a api.Answer) string {
	return numbers(a.Room.FreeBlocks, a.Room.Blocks, a.Room.FreeInodes, a.Room.Inodes)
}
