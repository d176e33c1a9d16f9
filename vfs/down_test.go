package vfs_test

import (
	"math"
	"testing"

	"bole/api"
	"bole/vfs"
)

// P20.8, D1: while the power is out each function answers ErrDown, also where it names the root, whatever else is wrong but an argument by itself.
func TestDown(t *testing.T) {
	for _, s := range []string{"/", "//", "/f", "/d", "/l", "/d/s", "/e", "/gone", "/gone/x", "/f/x", "/loop", "/o", "/new"} {
		b := wood(t, 128)
		b.does(symlink("loop", "/loop"))
		b.d.Crash(nil)
		before := steps(b.d)
		for _, p := range []op{
			create(s), mkdir(s), symlink("x", s), unlink(s), rmdir(s), readlink(s), stat(s), lstat(s), readdir(s), room(), unlinkAs(s, true), unlinkAs(s, false),
			read(s, 0, 0), read(s, 5, 16384), read(s, math.MaxInt, 1), write(s, 0, ""), write(s, 0, "x"), write(s, 8459264, ""), write(s, 8459265, ""), write(s, math.MaxInt, pattern(16384)),
			truncate(s, 0), truncate(s, 1005), truncate(s, 8459264), truncate(s, 8459265), truncate(s, math.MaxInt),
			open(s, false, false), open(s, false, true), open(s, true, false), open(s, true, true),
			do(api.Call{Kind: api.CallRoom, Path: "no path", Offset: -1, Size: -1}), do(api.Call{Kind: api.CallCreate, Path: s, Other: "\x00", Offset: -1}),
		} {
			b.findsDown(p)
		}
		for _, other := range []string{"/", "/f", "/d", "/gone/x", "/new", s} {
			b.findsDown(link(s, other), rename(s, other), renameAs(s, other, true), renameAs(s, other, false))
		}
		for n := 1; n < 16; n++ {
			b.findsDown(readAt(n, 0, 0), readAt(n, 0, 10), writeAt(n, 0, ""), writeAt(n, 0, "x"), writeAt(n, 8459265, ""), cutAt(n, 0), cutAt(n, 8459265), statAt(n), release(n))
		}
		for _, p := range []op{readlink("/."), stat("/.."), open("/d/.", false, false), read("/f/.", 0, 1), link("/..", "/n")} {
			b.findsDown(p)
		}
		if steps(b.d) != before {
			t.Errorf("P20.8: calls have steps, and the power is out")
		}
		if f, e := vfs.Mount(b.d); f != nil || e != api.ErrDown {
			t.Errorf("P20.2: Mount with the power out: %v, %d", f, e)
		}
		if e := vfs.Mkfs(b.d); e != api.ErrDown {
			t.Errorf("P20.1: Mkfs with the power out: %d", e)
		}
	}
}

// P20.8: what is wrong with an argument by itself is told also while the power is out, in its order.
func TestDownArguments(t *testing.T) {
	b := wood(t, 128)
	b.d.Crash(nil)
	wrong := func(e api.Errno, ops ...op) {
		t.Helper()
		for _, p := range ops {
			if o := b.call(p); !same(o, p.refusal(e)) {
				t.Errorf("P20.8: with the power out %v: %v, want %d", p, o, e)
			}
		}
	}
	for _, kind := range noKinds() {
		wrong(api.ErrInval, do(api.Call{Kind: kind, Path: "/f"}))
	}
	for _, s := range []string{"/f", "/", "/gone/x", "", "/" + rep("x", 28)} {
		wrong(api.ErrInval, read(s, -1, 1), read(s, 0, -1), read(s, 0, 16385), write(s, -1, ""), write(s, 0, pattern(16385)), truncate(s, -1))
	}
	for _, n := range []int{0, 1, 3, 9, 16, -1} {
		wrong(api.ErrInval, readAt(n, -1, 1), readAt(n, 0, -1), readAt(n, 0, 16385), writeAt(n, -1, ""), writeAt(n, 0, pattern(16385)), cutAt(n, -1))
	}
	for _, n := range noInodes(16) {
		wrong(api.ErrInode, readAt(n, 0, 1), writeAt(n, 0, "x"), writeAt(n, 8459265, "x"), cutAt(n, 0), cutAt(n, 8459265), statAt(n), release(n))
	}
	for s, e := range noPaths {
		wrong(e, create(s), mkdir(s), symlink("x", s), unlink(s), rmdir(s), readlink(s), stat(s), lstat(s), readdir(s), unlinkAs(s, true), read(s, 0, 1), write(s, 8459265, "x"), truncate(s, 8459265),
			open(s, false, false), open(s, false, true), open(s, true, false), open(s, true, true), link(s, "/n"), link("/f", s), rename(s, "/n"), rename("/f", s), renameAs(s, s, true), link(s, s))
		wrong(api.ErrInval, link("", s), rename("", s), symlink("", s))
		wrong(api.ErrTooLong, link("/"+rep("x", 28), s), rename("/"+rep("x", 28), s), symlink(rep("x", 28), s))
	}
	for s, e := range noNames {
		wrong(e, create(s), mkdir(s), symlink("x", s), unlink(s), rmdir(s), unlinkAs(s, false), open(s, true, false), open(s, true, true), link("/f", s), rename(s, "/n"), rename("/f", s), renameAs(s, "/", true))
	}
	for s, e := range noTexts {
		wrong(e, symlink(s, "/n"), symlink(s, "/"), symlink(s, "/gone/x"), symlink(s, ""), symlink(s, "/.."))
	}
}

// P20.8: the power goes in a call: ErrDown, and from then on of all.
func TestGoesDown(t *testing.T) {
	for _, p := range []op{
		create("/n"), mkdir("/n"), symlink("x", "/n"), link("/f", "/n"), unlink("/f"), rmdir("/e"), rename("/f", "/n"), write("/f", 0, "x"), truncate("/f", 0),
		unlinkAs("/f", true), renameAs("/d/g", "/f", true), open("/n", true, false), writeAt(8, 0, "x"), cutAt(8, 0), release(8),
	} {
		for at := 1; ; at++ {
			b := wood(t, 128)
			b.d.Arm(api.Crash{At: at})
			b.unchanged(write("/f", 0, ""), truncate("/f", 1005))
			b.refuses(api.ErrNone, create("/gone/x"))
			o := b.call(p)
			if !b.d.Down() {
				if o.e != api.OK || at < 8 {
					t.Errorf("P20.3: the power is to go at the step %d, and %v has fewer: %v", at, p, o)
				}
				break
			}
			if !same(o, p.refusal(api.ErrDown)) {
				t.Errorf("P20.8: the power goes at the step %d in %v: %v", at, p, o)
			}
			b.findsDown(p, stat("/"), room(), statAt(1))
		}
	}
}
