package sheet_test

import (
	"slices"
	"strings"
	"testing"

	"vista/sheet"
)

// P18.2

// forms are those of all commands: an N stands for a number, a P for a path.
func forms() []string {
	return []string{
		"world N N N N N N N N",
		"N lookup P", "N stat P", "N readlink P", "N readdir P", "N unlink P", "N rmdir P", "N sync",
		"N create P N", "N mkdir P N", "N setattr P N", "N symlink P P", "N rename P P",
		"deliver N", "drop N", "double N", "N tick", "N crash", "N cancel", "fuse N", "cut", "boot N",
		"calm N", "tree", "cache N", "letters", "audit",
	}
}

// filled is a right line of a form; a right world too.
func filled(form string) string {
	if strings.HasPrefix(form, "world") {
		return "world 1 9 4 3 8 4 2 99"
	}
	return strings.NewReplacer("N", "1", "P", "/a").Replace(form)
}

// isNone fails if a line in the world of begin says anything else than error 90, or if it does something.
func isNone(t *testing.T, line string) {
	t.Helper()
	known := "1 mkdir /a 7\ncalm 9\n1 lookup /b\n2 readdir /\n"
	after := "tree\ncache 1\ncache 2\nletters\n1 sync\n2 sync\n1 cancel\n1 lookup /a\ncalm 9\naudit\n"
	was := says(t, begin+known)
	if got, want := says(t, begin+known+line+"\n"+after), was+"error 90\n"+strings.TrimPrefix(says(t, begin+known+after), was); got != want {
		t.Errorf("behind %q it says\n%s\nnot\n%s", line, got, want)
	}
	plays(t, line, "error 90")
	plays(t, line+"\n"+begin+line, "error 90", "ok", "error 90")
}

func TestRightLines(t *testing.T) {
	for _, form := range forms() {
		line := filled(form)
		if got := says(t, begin+line); strings.Contains(got, "error") || !strings.HasPrefix(got, "ok\n") {
			t.Errorf("%q says %q", line, got)
		}
	}
}

func TestWordsTooFew(t *testing.T) {
	for _, form := range forms() {
		words := strings.Fields(filled(form))
		for i := range words {
			if len(words) > 1 {
				isNone(t, strings.Join(slices.Delete(slices.Clone(words), i, i+1), " "))
			}
		}
	}
}

func TestWordsTooMany(t *testing.T) {
	for _, form := range forms() {
		words := strings.Fields(filled(form))
		for i := range len(words) + 1 {
			for _, more := range []string{"1", "/a", "x", "-", "%", words[max(i-1, 0)]} {
				isNone(t, strings.Join(slices.Insert(slices.Clone(words), i, more), " "))
			}
			if i > 0 {
				// Behind the first word it is no remark.
				isNone(t, strings.Join(slices.Insert(slices.Clone(words), i, "#"), " "))
			}
		}
	}
}

func TestWordsInAnotherOrder(t *testing.T) {
	for _, form := range forms() {
		words := strings.Fields(form)
		slices.Reverse(words)
		if other := strings.Join(words, " "); other != form && !slices.Contains(forms(), other) {
			isNone(t, filled(other))
		}
	}
}

func TestNoCommands(t *testing.T) {
	for _, line := range []string{
		"hop", "1", "-1", "%", "P", "N", "C lookup /a", "N tick", "C", "Tree", "TREE", "trees", "tre", "tree.", "tree\t", "\ttree", "tree\r", "\r", "\t", "\v", "\f", "\x00", "\xff",
		"\u00a0", "\u2003", "tree\u00a0", "1\tlookup\t/a", "1 lookup\t/a", "1lookup /a", "1 Lookup /a", "1 lookup/a", "lookup 1 /a", "lookup /a", "1 world 1 9 4 3 8 4 2 99", "1 deliver", "1 cut", "1 tree", "1 cache", "1 letters", "1 audit", "1 calm", "1 boot", "cache", "cut 0", "audit 0",
		"tick 1", "crash 1", "cancel 1", "sync 1", "too much", "error 90", "ok", "1 ", "1 #", ";", "tree;", "tree #", "tree # x", "\"tree\"", "world", "1 1 lookup /a", "lookup", "\xffree", "tree\xff", "call 1", "1 call /a",
	} {
		isNone(t, line)
	}
}

// Of a line's end nothing belongs to it but the byte 10.
func TestLines(t *testing.T) {
	for _, text := range []string{"", "\n", "\n\n\n", " ", "   \n ", "#", "#\n#", " #", "   ##  tree", "#tree\n # 1 tick\n#\n", "#\xff\x00\n"} {
		plays(t, text)
		plays(t, text+"\nhop", "error 90")
		plays(t, text+"\nhop\n"+text, "error 90")
	}
	for _, text := range []string{"hop", "hop\n", "\nhop", " hop ", "hop\n\n", "\n \nhop\n#", "# hop\nhop"} {
		plays(t, text, "error 90")
	}
	plays(t, "hop\nhop", "error 90", "error 90")
	plays(t, "hop\r\ntree\r\n", "error 90", "error 90")
	plays(t, "tree#\n#tree\ntree #", "error 90", "error 90")
	with(t, "   1    tick   \n tree\ncut ", "client 1 0, sent 0", "server down")
	with(t, "1 stat /\n1 stat /\n", "client 1 0, sent 0: dir 1 0", "client 1 0, sent 0: dir 1 0")
}

// numbers are words that are some.
func numbers() map[string]int {
	return map[string]int{
		"0": 0, "1": 1, "9": 9, "42": 42, "000000001": 1, "123456789": 123456789, "999999999": 999999999, "000000000": 0,
		"-0": 0, "-1": -1, "-000000001": -1, "-123456789": -123456789, "-999999999": -999999999, "-000000000": 0, "007": 7,
	}
}

// noNumbers are words that are none.
func noNumbers() []string {
	return []string{
		"-", "--", "--1", "-1-", "1-", "+1", "+", "1.0", ".", "1,0", "1_0", "0x1", "0b1", "1e3", "x", "1x", "x1", "-x", "%", "%20", "/a", "#",
		"0000000001", "0000000000", "1234567890", "9999999999", "-0000000001", "-1234567890", "99999999999999999999", "18446744073709551617",
		"１", "٣", "1\x00", "\x00", "\xff", "1\xff", "\xff1", "-\xff", "½", "²", "'1'", "1\t", "\t1", "\u20121", ":", "/", ";", "0:", "/0",
	}
}

// What a number is, is told by what it does as a mode, as a client, and as how many writes are left.
func TestNumbers(t *testing.T) {
	for word, n := range numbers() {
		want := "client 1 0, sent 0: error 1"
		if n >= 0 && n <= 511 {
			want = "client 1 0, sent 1"
		}
		with(t, "1 create /a "+word, want)
		server := "server up 0"
		if n == 1 || n == 2 {
			server = "client " + string('0'+rune(n)) + " 0, sent 0"
		}
		with(t, word+" tick", server)
		with(t, "cut\nboot "+word, "server down", map[bool]string{true: "server up 0", false: "server down"}[n < 0 || n > 0])
	}
	with(t, "1 create /a 000000511\ncalm 4\n1 setattr /a -0\ncalm 4\ntree",
		"client 1 0, sent 1", "server up 0", "client 1 0, sent 1", "server up 1", "client 1 1, sent 0: ok", "client 1 1, sent 1", "server up 2", "client 1 2, sent 0", "client 1 2, sent 0: ok", "1 a file 2 0")
}

// Each number of each command.
func TestNoNumbers(t *testing.T) {
	for _, form := range forms() {
		words := strings.Fields(filled(form))
		for i, want := range strings.Fields(form) {
			if want != "N" && !(words[0] == "world" && i > 0) {
				continue
			}
			for _, bad := range noNumbers() {
				if bad == "#" && i == 0 {
					continue
				}
				other := slices.Clone(words)
				other[i] = bad
				plays(t, strings.Join(other, " "), "error 90")
			}
			other := slices.Clone(words)
			other[i] = "-"
			isNone(t, strings.Join(other, " "))
		}
	}
}

// Each of the eight numbers of a world has limits of its own.
func TestNumbersOfAWorld(t *testing.T) {
	right := strings.Fields("world 1 9 4 3 8 4 2 99")
	// For each the least and the greatest one that is right.
	ends := [][2]string{{"1", "4"}, {"1", "64"}, {"1", "16"}, {"0", "8"}, {"1", "32"}, {"1", "16"}, {"0", "8"}, {"9", "1024"}}
	beyond := [][2]string{{"0", "5"}, {"0", "65"}, {"0", "17"}, {"-1", "9"}, {"0", "33"}, {"0", "17"}, {"-1", "9"}, {"8", "1025"}}
	for i := range ends {
		line := func(word string) string {
			other := slices.Clone(right)
			other[i+1] = word
			return strings.Join(other, " ")
		}
		for side := range 2 {
			plays(t, line(ends[i][side]), "ok")
			plays(t, line(beyond[i][side]), "error 1")
		}
		plays(t, line("-999999999"), "error 1")
		plays(t, line("999999999"), "error 1")
	}
}

func TestWordsOfPaths(t *testing.T) {
	for word, want := range map[string]string{
		"/": "/", "/a": "/a", "a": "a", "%": "", "%20": " ", "%0": "\x00", "%020": "\x0020", "%00": "\x000", "%200": " 0", "%20%0": " \x00", "%0%20": "\x00 ", "%20%20": "  ", "%0%0": "\x00\x00",
		"%%": "%%", "%%%": "%%%", "%%20": "% ", "%%0": "%\x00", "%%200": "% 0", "%%2020": "% 20", "%20%": " %", "%0%": "\x00%", "%2": "%2", "%1": "%1", "%2%20": "%2 ", "%2%0": "%2\x00", "%21": "%21", "%2a": "%2a", "%a": "%a", "% ": "% ",
		"/%": "/%", "%/": "%/", "/a%20b/%20": "/a b/ ", "/%0/": "/\x00/", "20": "20", "0": "0", "2%0": "2\x00", "-": "-", "#": "#", "/#%20#": "/# #", "\\%20": "\\ ",
		"\xff": "\xff", "\xff%20\xfe": "\xff \xfe", "%20\xff": " \xff", "%\xff20": "%\xff20", "%2\xff0": "%2\xff0", "\xe2\x82%20": "\xe2\x82 ", "\xe2\x82\xac%20": "\xe2\x82\xac ", "é%0é": "é\x00é", "\ufffd%20": "\ufffd ", "％20": "％20", "%２0": "%２0", "\t%20": "\t ",
	} {
		if got := sheet.Path(word); got != want {
			t.Errorf("the word %q means %q, not %q", word, got, want)
		}
	}
}

// What a path means is told by names and targets.
func TestPaths(t *testing.T) {
	sent, up := "client 1 0, sent 1", "server up 0"
	for word, name := range map[string]string{"%20": " ", "%20a%20%20b": " a  b", "a%20b": "a b", "%": "%", "%%": "%%", "%%20": "% ", "%2": "%2", "20": "20", "#": "#", "-": "-", "\xff%20\xfe": "\xff \xfe", "é": "é", "\t": "\t", "%2\xff0": "%2\xff0"} {
		with(t, "1 mkdir /"+word+" 7\ncalm 9\n1 readdir /\ncalm 9\ntree\ncache 1\n1 stat /"+word,
			sent, up, sent, "server up 1", "client 1 1, sent 0: ok", "client 1 1, sent 1", "server up 1", "client 1 1, sent 0: names "+name,
			"1 "+name+" dir 2 7", "1 "+name+" dir 2 7", "root whole", "client 1 1, sent 0: dir 2 7")
		if word != "%" {
			with(t, "1 symlink /l "+word+"\ncalm 9\n1 stat /l",
				sent, up, sent, "server up 1", "client 1 1, sent 0: ok", "client 1 1, sent 0: link 2 0 "+strings.ReplaceAll(name, " ", "%20"))
		}
	}
	refused := "client 1 0, sent 0: error 12"
	for _, word := range []string{"%", "%0", "/%0", "/a%0", "/%020", "%20", "%20/a", "a", "/a/%0/b"} {
		for _, line := range []string{"lookup P", "stat P", "readlink P", "readdir P", "unlink P", "rmdir P", "create P 1", "mkdir P 1", "setattr P 1", "symlink P a", "rename P /a", "rename /a P"} {
			with(t, "1 "+strings.ReplaceAll(line, "P", word), refused)
		}
	}
	with(t, "1 symlink /l %\n1 symlink /l %0\n1 symlink /l a%0", refused, refused, refused)
	with(t, "1 lookup #\n1 lookup /#", refused, sent)
}

// The parts of a call: the path, then the target, the other path or the mode.
func TestPartsOfCalls(t *testing.T) {
	sent := "client 1 0, sent 1"
	with(t, "1 symlink /a /b\ncalm 9\ntree", sent, "server up 0", sent, "server up 1", "client 1 1, sent 0: ok", "1 a link 2 0 /b")
	with(t, "1 create /b 5\ncalm 9\n1 rename /b /c\ncalm 9\n1 setattr /c 6\ncalm 9\ntree\n1 unlink /c\ncalm 9\ntree",
		sent, "server up 0", sent, "server up 1", "client 1 1, sent 0: ok",
		"client 1 1, sent 1", "server up 2", "client 1 2, sent 0", "client 1 2, sent 0: ok",
		"client 1 2, sent 1", "server up 3", "client 1 3, sent 0", "client 1 3, sent 0: ok", "1 c file 2 6",
		"client 1 3, sent 1", "server up 4", "client 1 4, sent 0", "client 1 4, sent 0: ok")
}

// A world that is refused changes nothing; one that is made begins anew.
func TestWorldBehindAWorld(t *testing.T) {
	known := begin + "1 mkdir /a 7\ncalm 9\n1 readdir /\ncalm 9\n2 sync\n"
	told := "tree\ncache 1\ncache 2\nletters\naudit\n2 lookup /a\ncalm 9\n"
	was, tells := says(t, known), strings.TrimPrefix(says(t, known+told), says(t, known))
	for _, refused := range []string{"world 0 9 4 3 8 4 2 99", "world 2 0 4 3 8 4 2 99", "world 2 9 4 3 8 4 2 8", "world 5 9 4 3 8 4 2 99", "world 1 9 4 9 8 4 2 99", "world 2 9 4 3 8 4 2 -99"} {
		if got, want := says(t, known+refused+"\n"+told), was+"error 1\n"+tells; got != want {
			t.Errorf("behind %q it says\n%s\nnot\n%s", refused, got, want)
		}
	}
	for _, made := range []string{begin, "world 4 1 1 0 1 1 0 9\n"} {
		if got, want := says(t, known+made+told), was+says(t, made+told); got != want {
			t.Errorf("behind %q it says\n%s\nnot\n%s", made, got, want)
		}
	}
	plays(t, "world 0 9 4 3 8 4 2 99\ntree", "error 1", "error 30")
}
