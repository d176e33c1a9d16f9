package glob_test

import (
	"strings"
	"testing"

	"bole/api"
)

// P23.2: the chapter's example 1.
func TestExamplePieces(t *testing.T) {
	means(t, "a*c", "abc", true)
	means(t, "a*c", "ac", true)
	means(t, "a*c", "abcd", false)
	means(t, "?", "a", true)
	means(t, "?", "", false)
	means(t, "?", "ab", false)
	means(t, "*", "", true)
	means(t, "", "", true)
	means(t, "", "a", false)
	means(t, "[a-c]x", "bx", true)
	means(t, "[a-c]x", "dx", false)
	means(t, "[!a-c]", "d", true)
	means(t, "[!a-c]", "a", false)
	means(t, "[!a-c]", "", false)
	means(t, `\*`, "*", true)
	means(t, `\*`, "a", false)
}

// P23.1, P23.2: the chapter's example 2.
func TestExampleItems(t *testing.T) {
	means(t, "[-a]", "-", true)
	means(t, "[a-]", "-", true)
	means(t, "[a-]", "b", false)
	means(t, `[\]]`, "]", true)
	means(t, "[a!]", "!", true)
	means(t, "[!!]", "a", true)
	means(t, "[!!]", "!", false)
	means(t, "[+--]", ",", true)
	for _, p := range []string{"[!]", "[]", "[a", "[z-a]", `a\`, "a/b"} {
		noPattern(t, p)
	}
}

// P23.2: the chapter's example 3.
func TestExamplePlain(t *testing.T) {
	means(t, "a]", "a]", true)
	means(t, `[\--0]`, ".", true)
	means(t, "**", "abc", true)
}

// exampleTree is the one of the chapter's example 4.
func exampleTree() []string {
	return []string{"/a/", "/a/b", "/a/c/", "/a/c/b", "/b", "/l>/a"}
}

// P23.3: the chapter's example 4.
func TestExamplePaths(t *testing.T) {
	all := laid(t, exampleTree()...)
	for pattern, want := range map[string]string{
		"/*":       "/a /b /l",
		"/":        "/",
		"/**":      "/ /a /a/b /a/c /a/c/b /b /l",
		"/**/b":    "/a/b /a/c/b /b",
		"/a/*":     "/a/b /a/c",
		"/l/*":     "",
		"//a//b/":  "/a/b",
		"/x":       "",
		"/**/c/**": "/a/c /a/c/b",
		"/..":      "",
	} {
		tells(t, all, pattern, strings.Fields(want)...)
	}
}

// P23.3: the chapter's example 5.
func TestExampleErrors(t *testing.T) {
	all := laid(t, exampleTree()...)
	for _, pattern := range []string{"a", "", "/[", "/a\x00", rep("/x", 33)} {
		refuses(t, all, pattern, api.ErrPattern)
	}
	b := fresh(t, 128)
	lays(t, b, exampleTree()...)
	b.d.Crash(nil)
	one := map[string]api.Caller{"vfs": b.FS}
	refuses(t, one, "/a", api.ErrDown)
	tells(t, one, "/", "/")
}
