package glob_test

import (
	"testing"
	"time"

	"bole/api"
	"bole/glob"
	"bole/ram"
)

// soon holds that something ends within a time that is much more than it wants, and far less than trying all cuts would take.
func soon(t *testing.T, what string, do func()) {
	t.Helper()
	begin := time.Now()
	do()
	if took := time.Since(begin); took > 20*time.Second {
		t.Errorf("P23.6: %s has taken %v", what, took)
	}
}

// P23.6: patterns of many '*' against long texts.
func TestManyStars(t *testing.T) {
	long := rep("a", 100000)
	for _, c := range []struct {
		pattern, text string
		want          bool
	}{
		{rep("*a", 512), rep("a", 511), false},
		{rep("*a", 512), rep("a", 512), true},
		{rep("*a", 511) + "*b", long, false},
		{rep("*a", 511) + "*", long, true},
		{rep("*a", 512), long, true},
		{rep("*a", 512), rep("ab", 50000), false},
		{rep("*a", 511) + "*", rep("ab", 50000), true},
		{rep("a*", 511) + "b", long + "b", true},
		{rep("a*", 511) + "b", long, false},
		{rep("a*", 512), long, true},
		{rep("*?", 512), long, true},
		{rep("?*", 512), long, true},
		{rep("*?", 511) + "*b", long, false},
		{rep("*", 1024), long, true},
		{rep("*", 1023) + "b", long, false},
		{"b" + rep("*", 1023), long, false},
		{rep("*[ab]", 204), rep("ab", 50000), true},
		{rep("*[!b]", 204) + "*b", rep("ac", 50000), false},
		{rep("[ab]*", 204) + "c", rep("ab", 50000), false},
		{"[" + rep("b-y", 340) + "a]*", long, true},
		{"*[" + rep("b-y", 340) + "]", long, false},
		{rep("*ab", 341), rep("a", 1<<20), false},
		{rep("*a", 512), rep("a", 1<<20) + "b", false},
		{rep("*ab", 341), rep("ab", 1<<19), true},
		{"*" + rep("ab", 511), rep("ab", 1<<19), true},
		{"*" + rep("ab", 511) + "*", rep("a", 1<<20), false},
	} {
		soon(t, "Match("+short(c.pattern)+", "+short(c.text)+")", func() { means(t, c.pattern, c.text, c.want) })
	}
}

// P23.6: Paths of many '**' in a deep tree, and in a wide one: no path is come to twice.
func TestManyAnyNames(t *testing.T) {
	things, paths := deep("d", 31)
	all := laid(t, things...)
	for _, p := range []string{rep("/**/d", 16), rep("/**/*", 16), rep("/**/d", 15) + "/**/f", rep("/**", 31) + "/x", rep("/**/d", 15) + "/**/x", rep("/**/*d*", 16)} {
		want := plainPaths(p, append([]string{"/"}, paths...))
		soon(t, "Paths("+short(p)+")", func() { tells(t, all, p, want...) })
	}
}

// P23.6: the greatest number of inodes, all in one directory and below one another, against a long pattern.
func TestManyThings(t *testing.T) {
	f, e := ram.New(16384)
	if e != api.OK {
		t.Fatal(e)
	}
	count := 1
	for a := f.Do(api.Call{Kind: api.CallMkdir, Path: "/d"}); a.Err == api.OK; count++ {
		name := rep("a", 1+count%20) + string([]byte{byte('a' + count%26), byte('a' + count/26%26), byte('a' + count/676%26)})
		a = f.Do(api.Call{Kind: api.CallMkdir, Path: "/d/" + name})
	}
	soon(t, "Paths of long parts", func() {
		l, e := glob.Paths(f, "/**/"+rep("*a", 300)+"/**/"+rep("*", 400))
		if e != api.OK || len(l) > 0 {
			t.Errorf("P23.3: %d paths, %d", len(l), e)
		}
		l, e = glob.Paths(f, "/**/*a*a*a*/**")
		if e != api.OK || len(l) < count/2 {
			t.Errorf("P23.3: %d paths of %d, %d", len(l), count, e)
		}
	})
}
