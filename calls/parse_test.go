package calls_test

import (
	"fmt"
	"math/big"
	"strings"
	"testing"

	"bole/api"
)

// rightLines are lines that are rows, of each Kind.
func rightLines() map[string]api.Call {
	return map[string]api.Call{
		"create /a":              {Kind: api.CallCreate, Path: "/a"},
		`mkdir "/a b"`:           {Kind: api.CallMkdir, Path: "/a b"},
		"read /a 1 2":            {Kind: api.CallRead, Path: "/a", Offset: 1, Size: 2},
		`write "/a b" -5 "x y"`:  {Kind: api.CallWrite, Path: "/a b", Offset: -5, Data: "x y"},
		"write /a 0 7":           {Kind: api.CallWrite, Path: "/a", Data: "7"},
		"truncate /a 700":        {Kind: api.CallTruncate, Path: "/a", Size: 700},
		`unlink "\x2fa"`:         {Kind: api.CallUnlink, Path: "/a"},
		"rmdir /":                {Kind: api.CallRmdir, Path: "/"},
		"rename /a /b":           {Kind: api.CallRename, Path: "/a", Other: "/b"},
		`link "/\"" "\\"`:        {Kind: api.CallLink, Path: `/"`, Other: `\`},
		"symlink ../a /l":        {Kind: api.CallSymlink, Path: "/l", Other: "../a"},
		"readlink /l":            {Kind: api.CallReadlink, Path: "/l"},
		`stat ""`:                {Kind: api.CallStat},
		"lstat l":                {Kind: api.CallLstat, Path: "l"},
		`readdir "  "`:           {Kind: api.CallReaddir, Path: "  "},
		"room":                   {Kind: api.CallRoom},
		`rename " \" " "\" \\"`:  {Kind: api.CallRename, Path: ` " `, Other: `" \`},
		`symlink "\x0A" "\x0a "`: {Kind: api.CallSymlink, Path: "\n ", Other: "\n"},
	}
}

// wordsOf are the words of a right line as they are written.
func wordsOf(line string) []string {
	var l []string
	for _, part := range strings.Split(line, " ") {
		if n := len(l) - 1; n >= 0 && strings.HasPrefix(l[n], `"`) && !quotedWord.MatchString(l[n]) {
			l[n] += " " + part
		} else {
			l = append(l, part)
		}
	}
	return l
}

// P25.4: each row, with one blank and more between, ahead and behind.
func TestParseBlanks(t *testing.T) {
	for line, want := range rightLines() {
		words := wordsOf(line)
		for _, between := range []string{" ", "  ", "   ", rep(" ", 100)} {
			for _, ahead := range []string{"", " ", "  ", rep(" ", 100)} {
				for _, behind := range []string{"", " ", "  ", rep(" ", 100)} {
					isRow(t, ahead+strings.Join(words, between)+behind, want)
				}
			}
		}
		for at := 1; at < len(words); at++ {
			isRow(t, strings.Join(words[:at], " ")+"    "+strings.Join(words[at:], " "), want)
		}
	}
}

// P25.4: no blank between two words.
func TestParseNoBlank(t *testing.T) {
	for line := range rightLines() {
		words := wordsOf(line)
		for at := 1; at < len(words); at++ {
			noRow(t, strings.Join(words[:at], " ")+strings.Join(words[at:], " "))
		}
	}
	for _, line := range []string{`read "a"1 2`, `read "a" 1"2"`, `rename "a""b"`, `rename a"b"`, `rename "a"b`, `rename a"b" c`, `rename "a"b c`, `rename a "b"c`, `rename a b"c"`, `write /a 1"x"`, `write "a"1 x`, `create"/a"`, `create"/a" /b`, `"create"/a`, `room""`, `truncate "a"1`, `truncate"a" 1`, `create "a""`, `create ""a`, `create """"`} {
		noRow(t, line)
	}
	for _, s := range []string{`"a"b"c"`, `a"b`, `a"b c"`, `a" "b`, `"a" "`, `" "a" "`, `a\ b`, `a\"b`, `"a\" b`} {
		noRow(t, "create "+s)
		noRow(t, "rename "+s)
		noRow(t, "rename x "+s)
		noRow(t, "rename "+s+" x")
		noRow(t, "write x 1 "+s)
	}
}

// P25.4: a word or a number too few and too many, at each place.
func TestParseCount(t *testing.T) {
	for line, c := range rightLines() {
		words := wordsOf(line)
		for at := range words {
			noRow(t, strings.Join(append(append([]string{}, words[:at]...), words[at+1:]...), " "))
		}
		if len(words) > 1 {
			noRow(t, words[0])
		}
		for _, more := range []string{"x", "/a", "1", "0", "-1", `""`, `"a b"`, `" "`, words[0]} {
			for at := 1; at <= len(words); at++ {
				all := append(append(append([]string{}, words[:at]...), more), words[at:]...)
				noRow(t, strings.Join(all, " "))
			}
			noRow(t, more+" "+line)
			noRow(t, line+rep(" "+more, 2))
			noRow(t, line+rep(" "+more, 3))
			noRow(t, line+rep(" "+more, 1000))
		}
		noRow(t, line+" "+line)
		isRow(t, line, c)
	}
}

// P25.4: a command that is cut, grown, quoted, in great letters, or none.
func TestParseCommand(t *testing.T) {
	for line := range rightLines() {
		words := wordsOf(line)
		command, rest := words[0], strings.TrimPrefix(line, words[0])
		for n := range command {
			for _, w := range []string{command[:n], command[n+1:], command[:n] + command[n+1:]} {
				// What is left of symlink and of lstat is a command too.
				if w != "link" && w != "stat" {
					noRow(t, w+rest)
				}
			}
			noRow(t, command[:n]+strings.ToUpper(command[n:n+1])+command[n+1:]+rest)
			noRow(t, command[:n]+fmt.Sprintf(`\x%02x`, command[n])+command[n+1:]+rest)
		}
		for _, c := range []string{"s", "x", "1", "-", "/", ".", "_", `"`, `""`, `\`, "\x00", "\n", "\xff"} {
			noRow(t, command+c+rest)
			noRow(t, c+command+rest)
		}
		for _, w := range []string{`"` + command + `"`, `"` + command, command + `"`, strings.ToUpper(command), strings.ToUpper(command[:1]) + command[1:], `"\x` + fmt.Sprintf("%02x", command[0]) + command[1:] + `"`, "#" + command, "sh", "call", "none", "0", "1", "CallRoom"} {
			noRow(t, w+rest)
		}
		noRow(t, strings.TrimPrefix(rest, " "))
	}
	for _, line := range []string{"", " ", "  ", rep(" ", 1000), `""`, `"`, `" "`, "\x00", "\n", "\t", "#", "0"} {
		noRow(t, line)
	}
}

// P25.4: each command with the words of each other row: just those that are as many and of that kind are taken.
func TestParseOtherRows(t *testing.T) {
	rows := 0
	for _, r := range plainRows() {
		for line := range rightLines() {
			if asPlainRow(t, r.command()+strings.TrimPrefix(line, wordsOf(line)[0])) {
				rows++
			}
		}
	}
	if rows < 50 {
		t.Errorf("just %d are rows", rows)
	}
}

// P25.4: other white bytes where a blank may stand.
func TestParseWhite(t *testing.T) {
	for _, c := range []string{"\t", "\n", "\r", "\r\n", "\v", "\f", "\x00", "\u0085", "\u00a0", "\u2003", "\u3000", "\x85", "\xa0"} {
		for line := range rightLines() {
			words := wordsOf(line)
			noRow(t, c+line)
			noRow(t, line+c)
			noRow(t, c+" "+line)
			noRow(t, " "+c+line)
			noRow(t, line+" "+c)
			noRow(t, line+c+" ")
			for at := 1; at < len(words); at++ {
				ahead, behind := strings.Join(words[:at], " "), strings.Join(words[at:], " ")
				for _, between := range []string{c, " " + c, c + " ", " " + c + " "} {
					noRow(t, ahead+between+behind)
				}
			}
		}
		noRow(t, "create a"+c+"b")
		noRow(t, `create "a`+c+`b"`)
	}
}

// numberRows are rows with a number in them, each with X in its place.
func numberRows() []string {
	return []string{"read /a X 2", "read /a 1 X", "write /a X x", "truncate /a X"}
}

// P25.4: texts that are no number, at each place of one.
func TestParseNoNumber(t *testing.T) {
	for _, row := range numberRows() {
		for _, w := range []string{"+1", "+0", "+", "-", "--1", "---", "-+1", "+-1", "1-", "1-2", "-0", "-00", "-01", "-007", "00", "01", "007", "00000000000000000001", "0x1", "0X1F", "1e3", "1.0", "1.", ".1", ".", "-.", "1_000", "_1", "1_", "0b1", "0o7", "a", "1a", "a1", "1a1", "-a", "/1", "1/", "inf", "NaN", "９", "1\xff", `""`, `"1"`, `"-1"`, `"0"`, `"\x31"`, `"1`, `1"`, `\1`, "1,", "(1)", "1\n", "\n1", "1\t", "1\x00", "'1'", "9" + rep("0", 99), "-9" + rep("0", 99), rep("9", 100), rep("0", 100), "0" + rep("1", 99), "1" + rep("0", 1<<16), "-" + rep("1", 1<<16)} {
			noRow(t, strings.Replace(row, "X", w, 1))
		}
		for _, c := range allBytes() {
			if c >= "0" && c <= "9" {
				continue
			}
			noRow(t, strings.Replace(row, "X", c, 1))
			noRow(t, strings.Replace(row, "X", "1"+c+"1", 1))
			if c != "-" && c != " " {
				noRow(t, strings.Replace(row, "X", c+"1", 1))
			}
			if c != " " {
				noRow(t, strings.Replace(row, "X", "1"+c, 1))
			}
		}
	}
}

// P25.4: numbers at the edges, and by some beyond them.
func TestParseNumberEdges(t *testing.T) {
	take := func(text string, v int) {
		t.Helper()
		isRow(t, "read /a "+text+" 2", api.Call{Kind: api.CallRead, Path: "/a", Offset: v, Size: 2})
		isRow(t, "read /a 1 "+text, api.Call{Kind: api.CallRead, Path: "/a", Offset: 1, Size: v})
		isRow(t, "write /a "+text+" x", api.Call{Kind: api.CallWrite, Path: "/a", Offset: v, Data: "x"})
		isRow(t, "truncate /a "+text, api.Call{Kind: api.CallTruncate, Path: "/a", Size: v})
	}
	for _, v := range edgeNumbers() {
		take(fmt.Sprint(v), v)
	}
	for v := -1100; v <= 1100; v++ {
		take(fmt.Sprint(v), v)
	}
	low, high := big.NewInt(-1<<63), big.NewInt(1<<63-1)
	for by := range int64(40) {
		at := new(big.Int).Add(low, big.NewInt(by))
		take(at.String(), int(at.Int64()))
		at = new(big.Int).Sub(high, big.NewInt(by))
		take(at.String(), int(at.Int64()))
		for _, row := range numberRows() {
			noRow(t, strings.Replace(row, "X", new(big.Int).Sub(low, big.NewInt(by+1)).String(), 1))
			noRow(t, strings.Replace(row, "X", new(big.Int).Add(high, big.NewInt(by+1)).String(), 1))
		}
	}
	two := big.NewInt(1)
	for range 200 {
		two.Lsh(two, 1)
		for _, v := range []*big.Int{two, new(big.Int).Neg(two), new(big.Int).Sub(two, big.NewInt(1)), new(big.Int).Neg(new(big.Int).Add(two, big.NewInt(1)))} {
			if v.IsInt64() {
				take(v.String(), int(v.Int64()))
				continue
			}
			for _, row := range numberRows() {
				noRow(t, strings.Replace(row, "X", v.String(), 1))
			}
		}
	}
}

// P25.4: a word where a number stands is none; a number where a word stands is a word.
func TestParseWordsAndNumbers(t *testing.T) {
	for _, w := range []string{"x", "/a", `"x"`, `"a b"`, `""`, "..", "a1", "E1"} {
		for _, row := range numberRows() {
			noRow(t, strings.Replace(row, "X", w, 1))
		}
	}
	for _, w := range []string{"0", "1", "-1", "007", "-0", "--1", "9223372036854775808", rep("9", 100), "1.5", "-"} {
		isRow(t, "create "+w, api.Call{Kind: api.CallCreate, Path: w})
		isRow(t, "rename "+w+" "+w, api.Call{Kind: api.CallRename, Path: w, Other: w})
		isRow(t, "symlink "+w+" x", api.Call{Kind: api.CallSymlink, Path: "x", Other: w})
		isRow(t, "read "+w+" 1 2", api.Call{Kind: api.CallRead, Path: w, Offset: 1, Size: 2})
		isRow(t, "write "+w+" 1 "+w, api.Call{Kind: api.CallWrite, Path: w, Offset: 1, Data: w})
		isRow(t, "truncate "+w+" 1", api.Call{Kind: api.CallTruncate, Path: w, Size: 1})
	}
	for _, w := range []string{"+1", "+"} {
		noRow(t, "create "+w)
		noRow(t, "write /a 1 "+w)
	}
	for _, command := range []string{"create", "room", "read"} {
		isRow(t, "create "+command, api.Call{Kind: api.CallCreate, Path: command})
		isRow(t, "rename "+command+" "+command, api.Call{Kind: api.CallRename, Path: command, Other: command})
	}
}

// P25.4: a wrong word at each place of each row; each byte at each place of a word.
func TestParseWrongWords(t *testing.T) {
	for line := range rightLines() {
		words := wordsOf(line)
		for at := 1; at < len(words); at++ {
			for _, w := range []string{`"`, `"a`, `a"`, `"\n"`, `"\x4"`, `"\x4g"`, `"a"b`, "!", "~", "a,b", "é", "\xff", "\"\n\"", "\"\xff\"", `"\"`, `\`, `\x41`, "'a'", "a\x00"} {
				noRow(t, strings.Join(append(append(append([]string{}, words[:at]...), w), words[at+1:]...), " "))
			}
		}
	}
	for _, c := range allBytes() {
		for _, line := range []string{"create a" + c, "create " + c + "a", "create a" + c + "b", `create "` + c + `"`, `create "a` + c + `b"`, `create "\` + c + `"`, "rename a" + c + " b", "rename " + c + "a b", `rename "` + c + `" b`, c + "room", "room" + c, "room" + c + "room", "write a 1 " + c, `write a 1 "\` + c + `41"`, "read a" + c + "1 2", "read a 1" + c + "2", "read" + c + "a 1 2"} {
			asPlainRow(t, line)
		}
	}
}

// P25.4: blanks in quotes part no words, wherever the quotes stand, and marks in them end no word.
func TestParseQuotes(t *testing.T) {
	isRow(t, `rename "a b" "c  d"`, api.Call{Kind: api.CallRename, Path: "a b", Other: "c  d"})
	isRow(t, `rename " " " "`, api.Call{Kind: api.CallRename, Path: " ", Other: " "})
	isRow(t, `rename "" ""`, api.Call{Kind: api.CallRename})
	isRow(t, `create " "`, api.Call{Kind: api.CallCreate, Path: " "})
	isRow(t, `create   "  "  `, api.Call{Kind: api.CallCreate, Path: "  "})
	isRow(t, `rename "\" \"" "\\"`, api.Call{Kind: api.CallRename, Path: `" "`, Other: `\`})
	isRow(t, `rename "\\" "\""`, api.Call{Kind: api.CallRename, Path: `\`, Other: `"`})
	isRow(t, `rename "\\ " " \\"`, api.Call{Kind: api.CallRename, Path: `\ `, Other: ` \`})
	isRow(t, `rename "\\\" " b`, api.Call{Kind: api.CallRename, Path: `\" `, Other: "b"})
	isRow(t, `rename "\x22 \x5c" b`, api.Call{Kind: api.CallRename, Path: `" \`, Other: "b"})
	isRow(t, `write "a 1 x" 1 "write a 1 x"`, api.Call{Kind: api.CallWrite, Path: "a 1 x", Offset: 1, Data: "write a 1 x"})
	for _, line := range []string{`create "a b`, `create a b"`, `rename "a b" "c d`, `rename "a b c d"`, `create "a\"`, `create "a\" `, `rename "a\" b"`, `create "\ "`, `create "a"  "`, `create " a "b`, `room " "`, `" room"`, `"room "`, `room "`, `room ""`} {
		noRow(t, line)
	}
}
