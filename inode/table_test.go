package inode_test

import (
	"bytes"
	"math"
	"testing"

	"bole/api"
	"bole/inode"
)

// lengths are disks with tables of two blocks up to all.
var lengths = []int{128, 191, 192, 300, 4096, 4097, 16384}

// outside are numbers that no inode of a table has.
func outside(g api.Geo) []int {
	return []int{math.MinInt, math.MinInt + 1, -g.Count, -8, -1, 0, g.Count, g.Count + 1, g.Count + 8, 2048, 1 << 32, 1<<32 + 1, math.MaxInt - 1, math.MaxInt}
}

// P11.3: a record is read where geo.Record says, of each inode.
func TestGetReadsItsRecord(t *testing.T) {
	for _, length := range lengths {
		records := map[int][]byte{}
		is := func(n int) api.Inode {
			x := used[n%3]
			x.Two = n
			return x
		}
		for n := range laid(t, length).Count {
			if n > 0 && n%5 > 0 {
				records[n] = plainBytes(is(n))
			}
		}
		w := on(t, length, records)
		w.still("P11.3", func() {
			for n := 1; n < w.g.Count; n++ {
				if n%5 > 0 {
					w.get("P11.3", n, is(n))
				} else {
					w.get("P11.3", n, api.Inode{})
				}
			}
		})
	}
}

// P11.3, P11.4: numbers that no inode has, on a disk that could be asked and on one that couldn't.
func TestNoInode(t *testing.T) {
	for _, length := range lengths {
		w := on(t, length, nil)
		hold := func() {
			for _, n := range outside(w.g) {
				w.noGet("P11.3", n, api.ErrInode)
				w.put("P11.4", n, aFile, api.ErrInode)
				w.put("P11.4", n, api.Inode{}, api.ErrInode)
				w.put("P11.4: ahead of ErrRecord", n, odd[0], api.ErrInode)
			}
		}
		w.still("P11.7", hold)
		w.stuff(min(96, length-w.g.Data))
		w.still("P11.7: ahead of ErrTooBig, where the disk has as many blocks", hold)
		w.d.Crash(nil)
		w.still("P11.7: ahead of ErrDown", hold)
		w.x.Abort()
		w.still("P11.7: ahead of ErrOver", hold)
	}
}

// P11.3: bytes that are no record, in each place of a block; those beside it are as ever.
func TestGetOfNoRecord(t *testing.T) {
	for n := 1; n < 16; n++ {
		for _, at := range []int{0, 1, 63} {
			records := filled(1, 15)
			records[n][at] ^= 0x48
			w := on(t, 128, records)
			w.still("P11.7", func() {
				for m := 1; m < 16; m++ {
					if m == n {
						w.noGet("P11.3", m, api.ErrRecord)
					} else {
						w.get("P11.3", m, aFile)
					}
				}
			})
		}
	}
}

// P11.3: one block is read, and no other one.
func TestGetReadsOneBlock(t *testing.T) {
	for _, n := range inodes(laid(t, 300)) {
		block := 99 + n/8
		w := on(t, 300, filled(1, 31))
		w.keep(block)
		w.d.Crash(nil)
		w.get("P11.3: its block is put", n, aFile)

		w = on(t, 300, filled(1, 31))
		for i := w.g.Inodes; i < w.g.Data; i++ {
			if i != block {
				w.keep(i)
			}
		}
		w.d.Crash(nil)
		w.still("P11.7", func() { w.noGet("P11.3: its block isn't put", n, api.ErrDown) })
	}
}

// P11.4, P11.8: of the block's bytes the record's 64 are other ones, whatever stood in any of them.
func TestPutChangesItsRecordAlone(t *testing.T) {
	for _, length := range []int{128, 300, 16384} {
		g := laid(t, length)
		for _, n := range inodes(g) {
			for _, x := range append([]api.Inode{{}}, used...) {
				w := on(t, length, nil)
				block := g.Inodes + n/8
				b := bytes.Repeat([]byte{0xA5}, size)
				w.write(block, b)
				w.put("P11.4", n, x, api.OK)
				w.written("P11.4", block)
				copy(b[n%8*64:], plainBytes(x))
				if !bytes.Equal(w.read(block), b) {
					t.Errorf("P11.4: Put(%d, %v): the block is %v", n, x, w.read(block))
				}
				w.get("P11.8", n, x)
			}
		}
	}
}

// P11.4: what stood there isn't asked, and the block is put though its bytes are the same.
func TestPutAsksNothing(t *testing.T) {
	for _, stood := range [][]byte{nil, notRecord(), bytes.Repeat([]byte{255}, 64), plainBytes(aDir), plainBytes(aFile)} {
		for _, x := range append([]api.Inode{{}}, used...) {
			w := on(t, 128, map[int][]byte{5: stood, 6: notRecord()})
			w.put("P11.4", 5, x, api.OK)
			w.get("P11.4", 5, x)
			w.noGet("P11.4", 6, api.ErrRecord)
			w.written("P11.4", 99)
			w.put("P11.4: again", 5, x, api.OK)
			w.get("P11.4: again", 5, x)
		}
	}
	w := on(t, 128, filled(9, 9))
	was := w.read(100)
	w.put("P11.4: the same bytes", 9, aFile, api.OK)
	w.written("P11.4: the same bytes", 100)
	if !bytes.Equal(w.read(100), was) {
		t.Error("P11.4: the same record makes other bytes")
	}
	w.put("P11.4: a free one", 12, api.Inode{}, api.OK)
	w.written("P11.4: a free one", 100)
}

// P11.4: records that may not be; ahead of what the transaction says.
func TestPutOfNoRecord(t *testing.T) {
	w := on(t, 300, filled(1, 9))
	hold := func() {
		for _, n := range []int{1, 7, 8, 9, 10, 31} {
			for _, x := range odd {
				w.put("P11.4", n, x, api.ErrRecord)
			}
		}
	}
	w.still("P11.4", hold)
	w.stuff(96)
	w.still("P11.4: ahead of ErrTooBig", hold)
	w.d.Crash(nil)
	w.still("P11.4: ahead of ErrDown", hold)
	w.x.Abort()
	w.still("P11.4: ahead of ErrOver", hold)
}

// P11.4: what Read says, then what Write says.
func TestPutHandsOn(t *testing.T) {
	w := on(t, 300, nil)
	w.d.Crash(nil)
	w.still("P11.7", func() { w.put("P11.4", 1, aFile, api.ErrDown) })
	w.x.Abort()
	w.still("P11.7", func() { w.put("P11.4", 1, aFile, api.ErrOver) })

	w = on(t, 300, filled(1, 8))
	w.stuff(95)
	w.keep(100)
	w.still("P11.7", func() {
		for _, n := range []int{1, 7, 16, 31} {
			w.put("P11.4: no room", n, aDir, api.ErrTooBig)
			w.put("P11.4: no room, and the same bytes", n, api.Inode{}, api.ErrTooBig)
		}
	})
	w.put("P11.4: room where it is put", 8, aDir, api.OK)
	w.get("P11.4: room where it is put", 8, aDir)
	w.get("P11.4: room where it is put", 1, aFile)
	w.d.Crash(nil)
	w.still("P11.7", func() { w.put("P11.4: Read ahead of Write", 1, aDir, api.ErrDown) })
	w.put("P11.4: a block that is put can be read", 9, aLink, api.OK)
	w.get("P11.4: a block that is put can be read", 9, aLink)

	w = on(t, 300, nil)
	w.stuff(95)
	w.put("P11.4: room for one", 31, aLink, api.OK)
	w.still("P11.7", func() { w.put("P11.4: room for none", 23, aLink, api.ErrTooBig) })
}

// P11.5: records that may not be taken; ahead of all else.
func TestTakeOfNoRecord(t *testing.T) {
	w := on(t, 300, nil)
	hold := func() {
		for _, x := range append([]api.Inode{{}}, odd...) {
			w.noTake("P11.5", x, api.ErrRecord)
		}
	}
	w.still("P11.5", hold)
	w.stuff(96)
	w.still("P11.5: ahead of ErrTooBig", hold)
	w.d.Crash(nil)
	w.still("P11.5: ahead of ErrDown", hold)
	w.x.Abort()
	w.still("P11.5: ahead of ErrOver", hold)
	w = on(t, 128, filled(1, 15))
	w.still("P11.5: ahead of ErrSpace", hold)
}

// P11.5: the lowest free one, wherever it stands, of each kind; all other bytes stay.
func TestTakeTakesTheLowest(t *testing.T) {
	for _, length := range []int{128, 300, 4096} {
		g := laid(t, length)
		for k, n := range inodes(g) {
			records := filled(1, g.Count-1)
			delete(records, n)
			for m := n + 3; m < g.Count; m += 2 {
				delete(records, m)
			}
			w := on(t, length, records)
			block := g.Inodes + n/8
			b := w.read(block)
			x := used[k%3]
			w.take("P11.5", x, n)
			copy(b[n%8*64:], plainBytes(x))
			if !bytes.Equal(w.read(block), b) {
				t.Errorf("P11.5: Take of %d: the block is %v", n, w.read(block))
			}
			w.written("P11.5", block)
			w.get("P11.8", n, x)
		}
	}
}

// P11.5: it goes up to the first free one: a record that is none ahead of it is met, one behind it is not.
func TestTakeGoesNoFurther(t *testing.T) {
	for free := 1; free < 16; free++ {
		for none := 1; none < 16; none++ {
			if none == free {
				continue
			}
			records := filled(1, 15)
			delete(records, free)
			records[none] = notRecord()
			w := on(t, 128, records)
			if none < free {
				w.still("P11.5", func() { w.noTake("P11.5: a record that is none ahead", aDir, api.ErrRecord) })
				continue
			}
			w.take("P11.5: a record that is none behind", aDir, free)
			w.written("P11.5", 99+free/8)
			w.get("P11.5", free, aDir)
			w.noGet("P11.5", none, api.ErrRecord)
			w.still("P11.5", func() { w.noTake("P11.5: no free one ahead of it", aDir, api.ErrRecord) })
		}
	}
}

// P11.5: with the power out it needs the blocks up to the one with the first free inode.
func TestTakeReadsUpToTheFree(t *testing.T) {
	for _, free := range []int{1, 7, 8, 15, 16, 23, 24, 31} {
		for put := range 5 {
			records := filled(1, 31)
			delete(records, free)
			w := on(t, 300, records)
			for i := range put {
				w.keep(99 + i)
			}
			w.d.Crash(nil)
			if put > free/8 {
				w.take("P11.5: its blocks are put", aLink, free)
				w.get("P11.5: its blocks are put", free, aLink)
			} else {
				w.still("P11.7", func() { w.noTake("P11.5: a block isn't put", aLink, api.ErrDown) })
			}
		}
	}
}

// P11.5: of a record that is none and a block that can't be read the first that is met; both ahead of a full table.
func TestTakeOfTwoErrors(t *testing.T) {
	for missing := range 4 {
		for none := 1; none < 32; none++ {
			if none/8 == missing {
				continue
			}
			w := on(t, 300, filled(1, 31))
			w.lay(none, notRecord())
			for i := range 4 {
				if i != missing {
					w.keep(99 + i)
				}
			}
			w.still("P11.7", func() { w.noTake("P11.5: full, with a record that is none", aFile, api.ErrRecord) })
			w.d.Crash(nil)
			code := api.ErrDown
			if none/8 < missing {
				code = api.ErrRecord
			}
			w.still("P11.7", func() { w.noTake("P11.5", aFile, code) })
		}
	}
}

// P11.5: a full table, and one that is full but for its end.
func TestTakeOfAFullTable(t *testing.T) {
	for _, length := range lengths {
		g := laid(t, length)
		w := on(t, length, filled(1, g.Count-2))
		w.take("P11.5: the last one", aFile, g.Count-1)
		w.still("P11.7", func() { w.noTake("P11.5: full", aFile, api.ErrSpace) })
		w.put("P11.5", 8, api.Inode{}, api.OK)
		w.take("P11.5: one is free again", aLink, 8)
		w.noTake("P11.5: full again", aLink, api.ErrSpace)
	}
	w := on(t, 300, filled(1, 31))
	w.stuff(96)
	w.still("P11.7", func() { w.noTake("P11.5: ErrSpace, as nothing is to be put", aFile, api.ErrSpace) })
}

// P11.5: what Get and Put say.
func TestTakeHandsOn(t *testing.T) {
	w := on(t, 300, filled(1, 8))
	w.stuff(96)
	w.still("P11.7", func() { w.noTake("P11.5: no room", aFile, api.ErrTooBig) })
	w.d.Crash(nil)
	w.still("P11.7", func() { w.noTake("P11.5: Get ahead of Put", aFile, api.ErrDown) })
	w.x.Abort()
	w.still("P11.7", func() { w.noTake("P11.5: over", aFile, api.ErrOver) })

	w = on(t, 300, filled(1, 14))
	w.keep(100)
	w.stuff(95)
	w.take("P11.5: room where it is put", aFile, 15)
	w.still("P11.7", func() { w.noTake("P11.5: the next block isn't put", aFile, api.ErrTooBig) })
	w.lay(9, notRecord())
	w.still("P11.7", func() { w.noTake("P11.5: ErrRecord is met ahead of Put", aFile, api.ErrRecord) })
	w.put("P11.5", 9, api.Inode{}, api.OK)
	w.take("P11.5: one ahead is free", aFile, 9)

	// It is the lowest one, or none: not the next for which there is room.
	w = on(t, 300, filled(1, 6))
	w.keep(100)
	w.stuff(95)
	w.still("P11.7", func() { w.noTake("P11.5: no room for the lowest", aFile, api.ErrTooBig) })
}

// P11.6: how many are free, of each kind of those that aren't.
func TestFreeCounts(t *testing.T) {
	for _, length := range lengths {
		g := laid(t, length)
		w := on(t, length, nil)
		w.still("P11.6", func() { w.free("P11.6: all", g.Count-1) })
		w = on(t, length, filled(1, g.Count-1))
		w.still("P11.6", func() { w.free("P11.6: none", 0) })
		for k, n := range inodes(g) {
			records := filled(1, g.Count-1)
			delete(records, n)
			w = on(t, length, records)
			w.free("P11.6: one", 1)
			w = on(t, length, map[int][]byte{n: plainBytes(used[k%3])})
			w.free("P11.6: all but one", g.Count-2)
		}
	}
	// A file without a name isn't free.
	w := on(t, 128, map[int][]byte{3: plainBytes(api.Inode{Kind: 1}), 4: plainBytes(aDir), 5: plainBytes(aLink)})
	w.free("P11.6", 12)
}

// P11.6: all are gone through: a record that is none is met wherever it stands.
func TestFreeOfNoRecord(t *testing.T) {
	for _, records := range []map[int][]byte{{}, filled(1, 15), filled(4, 9)} {
		for n := 1; n < 16; n++ {
			w := on(t, 128, records)
			w.lay(n, notRecord())
			w.still("P11.7", func() { w.noFree("P11.6", api.ErrRecord) })
		}
	}
}

// P11.6: of two errors the first that is met.
func TestFreeHandsOn(t *testing.T) {
	for missing := range 4 {
		for none := range 32 {
			w := on(t, 300, filled(5, 20))
			for i := range 4 {
				if i != missing {
					w.keep(99 + i)
				}
			}
			if none > 0 && none/8 != missing {
				w.lay(none, notRecord())
			}
			w.d.Crash(nil)
			code := api.ErrDown
			if none > 0 && none/8 < missing {
				code = api.ErrRecord
			}
			w.still("P11.7", func() { w.noFree("P11.6", code) })
		}
	}
	w := on(t, 300, filled(5, 20))
	w.keep(99, 100, 101, 102)
	w.stuff(92)
	w.d.Crash(nil)
	w.still("P11.6", func() { w.free("P11.6: all is put", 15) })
	w.x.Abort()
	w.still("P11.7", func() { w.noFree("P11.6", api.ErrOver) })
}

// P11.3 to P11.6: a transaction that was committed is over too.
func TestBehindCommit(t *testing.T) {
	w := on(t, 128, nil)
	w.take("P11.5", aDir, 1)
	want(t, "Commit", w.x.Commit(), api.OK)
	w.still("P11.7", func() {
		w.noGet("P11.3", 1, api.ErrOver)
		w.put("P11.4", 1, aDir, api.ErrOver)
		w.noTake("P11.5", aDir, api.ErrOver)
		w.noFree("P11.6", api.ErrOver)
	})
}

// Words: nothing asks what inode 0's bytes are, and nothing changes them.
func TestInodeZero(t *testing.T) {
	for _, stood := range [][]byte{make([]byte, 64), plainBytes(aDir), bytes.Repeat([]byte{255}, 64)} {
		w := on(t, 128, map[int][]byte{0: stood})
		w.noGet("inode 0", 0, api.ErrInode)
		w.put("inode 0", 0, aFile, api.ErrInode)
		w.free("inode 0", 15)
		w.take("inode 0", aFile, 1)
		w.put("inode 0", 2, aLink, api.OK)
		w.free("inode 0", 13)
		if b := w.read(99); !bytes.Equal(b[:64], stood) {
			t.Errorf("inode 0: its bytes are %v", b[:64])
		}
	}
}

// P11.7, W7: what is put stands in the table, and nothing else has changed.
func TestPutsInTheTableAlone(t *testing.T) {
	for _, length := range []int{128, 300, 4097, 16384} {
		w := on(t, length, nil)
		image := w.d.Image()
		for _, n := range inodes(w.g) {
			w.put("P11.7", n, aFile, api.OK)
		}
		for range 3 {
			inode.Take(w.x, w.g, aDir)
		}
		for _, i := range w.x.Written() {
			if i < w.g.Inodes || i >= w.g.Data {
				t.Errorf("P11.7: block %d is put", i)
			}
		}
		for i := range w.g.Blocks {
			if (i < w.g.Inodes || i >= w.g.Data) && !bytes.Equal(w.read(i), image[i*size:(i+1)*size]) {
				t.Errorf("P11.7: block %d has other bytes", i)
			}
		}
		if !bytes.Equal(w.d.Image(), image) || len(w.d.Pending()) != 0 {
			t.Error("P11.7: the disk was written to")
		}
	}
}

// P11.7: what was put stays as it is, whatever becomes of what was answered.
func TestTableMemory(t *testing.T) {
	w := on(t, 128, nil)
	x := aFile
	w.put("P11.7", 3, x, api.OK)
	x.Direct[0], x.Size = 1, 2
	w.get("P11.7", 3, aFile)
	y, _ := inode.Get(w.x, w.g, 3)
	y.Direct[9] = 0
	w.get("P11.7", 3, aFile)
	b := w.read(99)
	clear(b)
	w.get("P11.7", 3, aFile)
}
