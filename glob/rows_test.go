package glob_test

import (
	"math/rand"
	"slices"
	"strings"
	"testing"

	"bole/api"
	"bole/glob"
)

// namesOf are the names of a path.
func namesOf(path string) []string {
	return strings.FieldsFunc(path, func(r rune) bool { return r == '/' })
}

// plainParts are the parts of a pattern of paths, as the chapter says what one is.
func plainParts(pattern string) ([]string, bool) {
	if len(pattern) > 1024 || len(pattern) == 0 || pattern[0] != '/' || strings.IndexByte(pattern, 0) >= 0 {
		return nil, false
	}
	var parts []string
	for _, part := range strings.Split(pattern, "/") {
		if part == "" {
			continue
		}
		if _, ok := plainPieces(part); !ok && part != "**" {
			return nil, false
		}
		parts = append(parts, part)
	}
	return parts, len(parts) <= 32
}

// tried are the rows that are known not to be cut, by how many parts and names are left, so that many '**' end too.
type tried map[[2]int]bool

// rows tells whether names can be cut into rows, one for each part.
func (k tried) rows(parts, names []string) bool {
	left := [2]int{len(parts), len(names)}
	switch {
	case k[left]:
		return false
	case len(parts) == 0:
		return len(names) == 0
	case parts[0] == "**":
		for at := range len(names) + 1 {
			if k.rows(parts[1:], names[at:]) {
				return true
			}
		}
	case len(names) > 0:
		pieces, _ := plainPieces(parts[0])
		if cutsSoon(pieces, names[0]) && k.rows(parts[1:], names[1:]) {
			return true
		}
	}
	k[left] = true
	return false
}

// plainPaths are those of some paths that a pattern means, in the order of their names.
func plainPaths(pattern string, paths []string) []string {
	parts, _ := plainParts(pattern)
	var l []string
	for _, path := range paths {
		if (tried{}).rows(parts, namesOf(path)) {
			l = append(l, path)
		}
	}
	slices.SortFunc(l, func(a, b string) int { return slices.Compare(namesOf(a), namesOf(b)) })
	return l
}

// drawnName is one of a few names, so that patterns meet them; some have marks in them.
func drawnName(r *rand.Rand) string {
	return []string{"a", "b", "ab", "a!", "a.b", "abc", "*", "**", "[a]", `\`, `a\b`, "-", "...", "\xff", "c", "ba"}[r.Intn(16)]
}

// drawnTree is a tree of so many things: how it is laid, and its paths, the root with them.
func drawnTree(r *rand.Rand, most int) (things, paths []string) {
	dirs := []string{""}
	paths = []string{"/"}
	for range most {
		path := dirs[r.Intn(len(dirs))] + "/" + drawnName(r)
		if slices.Contains(paths, path) || len(namesOf(path)) > 32 {
			continue
		}
		paths = append(paths, path)
		switch r.Intn(6) {
		case 0:
			things = append(things, path)
		case 1:
			things = append(things, path+">"+[]string{"/", "..", "/a", "x", dirs[r.Intn(len(dirs))] + "/"}[r.Intn(5)])
		default:
			things = append(things, path+"/")
			dirs = append(dirs, path)
		}
	}
	return things, paths
}

// drawnPattern is a text that is mostly a pattern of paths.
func drawnPattern(r *rand.Rand, paths []string) string {
	if r.Intn(4) == 0 {
		return nearPattern(r, paths[r.Intn(len(paths))])
	}
	s := ""
	for range r.Intn(6) {
		s += rep("/", 1+r.Intn(10)/8) + drawnPart(r)
	}
	switch r.Intn(20) {
	case 0:
		return strings.TrimPrefix(s, "/")
	case 1:
		return s + "/"
	case 2:
		return s + "\x00"
	case 3:
		return s + rep("/*", 28+r.Intn(6))
	}
	if s == "" {
		return "/"
	}
	return s
}

func drawnPart(r *rand.Rand) string {
	switch r.Intn(9) {
	case 0, 1:
		return "**"
	case 2, 3:
		return "*"
	case 4:
		return quoted(drawnName(r))
	case 5:
		return anyPattern(r, 1+r.Intn(4))
	case 6:
		return drawnName(r)
	}
	return []string{"a*", "?", "*a", "[ab]", "[!a]", "a?", "***", ".", "..", "a**", "*[!b]", "?*"}[r.Intn(12)]
}

// nearPattern is a path of the tree with some of its names put otherwise.
func nearPattern(r *rand.Rand, path string) string {
	s := "/"
	for _, name := range namesOf(path) {
		switch r.Intn(5) {
		case 0:
			s += "**/"
		case 1:
			s += "*/"
		case 2:
			s += rep("?", len(name)) + "/"
		default:
			s += quoted(name) + "/"
		}
	}
	return s
}

// P23.3: drawn patterns on drawn trees, held against the chapter's words said plainly.
func TestDrawnPaths(t *testing.T) {
	r := rand.New(rand.NewSource(24))
	told, refused := 0, 0
	for range 40 {
		things, paths := drawnTree(r, 1+r.Intn(60))
		all := laid(t, things...)
		for range 100 {
			p := drawnPattern(r, paths)
			if _, ok := plainParts(p); !ok {
				refuses(t, all, p, api.ErrPattern)
				refused++
				continue
			}
			want := plainPaths(p, paths)
			tells(t, all, p, want...)
			told += len(want)
		}
	}
	if told < 4000 || refused < 100 {
		t.Errorf("%d paths were told, %d patterns refused", told, refused)
	}
}

// P23.5: "/**" tells all paths; a pattern whose parts are names without marks tells that path, if it is there, and else none.
func TestDrawnNames(t *testing.T) {
	r := rand.New(rand.NewSource(25))
	marks := func(s string) bool { return strings.ContainsAny(s, `*?[\`) }
	there, none := 0, 0
	for range 40 {
		things, paths := drawnTree(r, 1+r.Intn(60))
		all := laid(t, things...)
		tells(t, all, "/**", plainPaths("/**", paths)...)
		if l, _ := glob.Paths(all["ram"], "/**"); len(l) != len(paths) {
			t.Errorf("P23.5: Paths(\"/**\") tells %d of %d paths", len(l), len(paths))
		}
		for range 50 {
			p := paths[r.Intn(len(paths))]
			for range r.Intn(3) {
				p = strings.TrimSuffix(p, "/") + "/" + drawnName(r)
			}
			if marks(p) {
				continue
			}
			if slices.Contains(paths, p) {
				tells(t, all, p, p)
				there++
			} else {
				tells(t, all, p)
				none++
			}
		}
	}
	if there < 200 || none < 200 {
		t.Errorf("%d paths were there, %d not", there, none)
	}
}

// P23.3: all patterns of a few parts, on one tree that has each of them.
func TestEveryRowOfParts(t *testing.T) {
	things := []string{"/a/", "/a/a/", "/a/a/a", "/a/b/", "/a/b/a", "/b/", "/b/a", "/b/b>/a"}
	paths := []string{"/", "/a", "/a/a", "/a/a/a", "/a/b", "/a/b/a", "/b", "/b/a", "/b/b"}
	all := laid(t, things...)
	parts := []string{"/a", "/b", "/*", "/**", "/?"}
	rows := []string{""}
	for from := 0; len(rows) < 700; {
		to := len(rows)
		for _, s := range rows[from:to] {
			for _, part := range parts {
				rows = append(rows, s+part)
			}
		}
		from = to
	}
	for _, p := range rows[1:] {
		tells(t, all, p, plainPaths(p, paths)...)
	}
}
