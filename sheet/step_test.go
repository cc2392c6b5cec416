package sheet_test

import (
	"slices"
	"strings"
	"testing"
)

// made is a sheet with a tree that a client knows little of: what its lines say is told apart by behind.
const made = begin +
	"2 mkdir /d 7\ncalm 9\n2 create /d/f 420\ncalm 9\n2 symlink /l d/f\ncalm 9\n2 symlink /m d/x%20y/../z\ncalm 9\n2 mkdir /d/e 0\ncalm 9\n2 mkdir /e%20e 511\ncalm 9\n" +
	"1 sync\ncalm 9\n"

// behind fails if lines say anything else behind others.
func behind(t *testing.T, first, lines string, want ...string) {
	t.Helper()
	was := says(t, first)
	plays(t, first+lines, slices.Concat(strings.Split(strings.TrimSuffix(was, "\n"), "\n"), want)...)
}

// last is the last line that a text says.
func last(t *testing.T, text string) string {
	t.Helper()
	lines := strings.Split(strings.TrimSuffix(says(t, text), "\n"), "\n")
	return lines[len(lines)-1]
}

// P18.3, P18.4

// answers fails if a call of client 1, behind made, comes to another answer: at first, and once more.
func answers(t *testing.T, call, want string) {
	t.Helper()
	for _, text := range []string{"1 " + call + "\ncalm 99", "1 " + call + "\ncalm 99\n1 " + call + "\ncalm 99"} {
		if got := last(t, made+text); got != "client 1 6, sent 0: "+want {
			t.Errorf("%q says %q at last, not %q", text, got, want)
		}
	}
}

func TestAnswersOfReads(t *testing.T) {
	for call, want := range map[string]string{
		"lookup /": "dir 1 0", "stat /": "dir 1 0", "lookup /d": "dir 2 7", "stat /d/": "dir 2 7", "lookup /d/f": "file 3 420", "stat /d/f": "file 3 420", "lookup /d/e": "dir 6 0",
		"lookup /l": "file 3 420", "stat /l": "link 4 0 d/f", "readlink /l": "link 4 0 d/f", "stat /m": "link 5 0 d/x%20y/../z", "readlink /m": "link 5 0 d/x%20y/../z",
		"lookup /m": "error 40", "lookup /x": "error 40", "readlink /d": "error 48", "readlink /d/f": "error 48", "lookup /d/f/": "error 42", "readdir /d/f": "error 42", "readdir /l": "error 42", "readdir /x": "error 40",
		"readdir /": "names d e e l m", "readdir /d": "names e f", "readdir /d/e": "names", "readdir /e%20e": "names", "readdir /d/..": "names d e e l m",
	} {
		answers(t, call, want)
	}
}

func TestAnswersOfOthers(t *testing.T) {
	for call, want := range map[string]string{
		"sync": "ok", "create /n 3": "ok", "mkdir /n 3": "ok", "symlink /n /": "ok", "setattr /d 1": "ok", "unlink /d/f": "ok", "rmdir /d/e": "ok", "rename /d /e%20e/d": "ok", "unlink /l": "ok",
		"create /d 3": "error 41", "mkdir /d/f 3": "error 41", "symlink /l x": "error 41", "setattr /x 1": "error 40", "unlink /d": "error 43", "rmdir /l": "error 42", "rmdir /d": "error 44", "rename /d /d/x": "error 45", "create /d/f/g 3": "error 42",
		"unlink /x": "error 40", "rename /x /y": "error 40",
	} {
		text := made + "1 " + call + "\ncalm 99"
		lines := strings.Split(says(t, text), "\n")
		// Breaks may come behind the answer.
		if !slices.ContainsFunc(lines, func(line string) bool {
			return strings.HasPrefix(line, "client 1 ") && strings.HasSuffix(line, ", sent 0: "+want)
		}) {
			t.Errorf("%q says nowhere %q:\n%s", call, want, strings.Join(lines[len(lines)-8:], "\n"))
		}
	}
}

// A step says what the call that completes was called for, whatever else was asked for meanwhile.
func TestWhichCall(t *testing.T) {
	busy := "client 1 6, sent 0: error 80"
	for call, want := range map[string]string{"lookup /d": "dir 2 7", "readdir /d": "names e f", "readlink /l": "link 4 0 d/f", "stat /d/f": "file 3 420", "sync": "ok", "setattr /d/f 420": "ok", "stat /x": "error 40"} {
		for other, none := range map[string]string{"sync": busy, "lookup /": busy, "readdir /": busy, "create /x 1": busy, "readlink a": busy, "create / 999": busy} {
			behind(t, made, "1 "+call+"\n1 "+other, "client 1 6, sent 1", none)
			for _, also := range []string{"1 " + other, "2 " + other + "\n2 cancel", "3 " + other, "0 " + other, "1 cancel\n1 crash\n1 " + call} {
				text := made + "1 " + call + "\n" + also + "\ncalm 99\n"
				if lines := strings.Split(says(t, text), "\n"); !slices.ContainsFunc(lines, func(line string) bool {
					return strings.HasPrefix(line, "client 1 ") && strings.HasSuffix(line, ": "+want)
				}) {
					t.Errorf("%q, %q: nowhere %q", call, also, want)
				}
			}
		}
	}
	behind(t, made, "1 readdir /\n2 sync\n1 cancel\n1 sync\ndrop 0\ncalm 1\ncalm 1\ncalm 1\ncalm 1",
		"client 1 6, sent 1", "client 2 6, sent 1", "client 1 6, sent 0: error 81", "client 1 6, sent 1", "server up 6", "server up 6", "server up 6", "client 2 6, sent 0: ok", "client 1 6, sent 0: ok")
	// Of a new world no client was called for anything.
	behind(t, made+"1 readdir /\n", begin+"1 sync\ncalm 9", "ok", "client 1 0, sent 1", "server up 0", "client 1 0, sent 1", "server up 0", "client 1 0, sent 0: ok")
}

func TestCancelCrashTick(t *testing.T) {
	with(t, "1 cancel\n1 crash\n1 tick\n3 cancel\n0 crash\n-1 tick", "client 1 0, sent 0", "client 1 0, sent 0", "client 1 0, sent 0", "server up 0", "server up 0", "server up 0")
	with(t, "1 lookup /a\n1 tick\n1 cancel\n1 tick\n1 cancel\n1 lookup /a\n1 crash\n1 cancel\n1 tick",
		"client 1 0, sent 1", "client 1 0, sent 1", "client 1 0, sent 0: error 81", "client 1 0, sent 0", "client 1 0, sent 0", "client 1 0, sent 1", "client 1 0, sent 0", "client 1 0, sent 0", "client 1 0, sent 0")
	behind(t, made, "1 tick\n1 lookup /x\n1 tick\n1 crash\n1 tick\ncut\n1 tick", "client 1 6, sent 1", "client 1 6, sent 1", "client 1 6, sent 2", "client 1 0, sent 0", "client 1 0, sent 0", "server down", "client 1 0, sent 0")
	for _, call := range []string{"lookup /d", "readdir /", "sync", "create /x 1"} {
		behind(t, made, "1 "+call+"\n1 cancel", "client 1 6, sent 1", "client 1 6, sent 0: error 81")
	}
}

func TestServer(t *testing.T) {
	with(t, "cut\ncut\ndeliver 0\ndrop 0\ndouble 0\nfuse 0\n3 tick\n1 tick\nboot 0\nboot -1\nboot -1\nfuse -1\nfuse 0\nfuse 99",
		"server down", "server down", "server down", "server down", "server down", "server down", "server down", "client 1 0, sent 0", "server down", "server up 0", "server up 0", "server up 0", "server up 0", "server up 0")
	behind(t, made, "cut\nboot -1\n1 lookup /x\ndeliver 0\ndeliver 0\ncut\n1 cancel", "server down", "server up 6", "client 1 6, sent 1", "server up 6", "client 1 6, sent 1", "server down", "client 1 6, sent 0: error 81")
	// The fuse counts the writes that a mutation takes.
	with(t, "1 mkdir /a 7\ncalm 2\nfuse 1\ncalm 1\nboot -1\ntree", "client 1 0, sent 1", "server up 0", "client 1 0, sent 1", "server up 0", "server up 1", "server up 1", "1 a dir 2 7")
	with(t, "1 mkdir /a 7\ncalm 2\nfuse 0\ncalm 1\nboot -1\ntree", "client 1 0, sent 1", "server up 0", "client 1 0, sent 1", "server up 0", "server down", "server up 0")
}

// Three letters, told apart by where they go and how long they are.
func TestLetters(t *testing.T) {
	first := begin + "1 lookup /a\n2 lookup /abc\n1 cancel\n1 lookup /abcdef\n"
	to := func(bytes string) string { return "to 0, " + bytes + " bytes" }
	behind(t, first, "letters", to("16"), to("18"), to("21"))
	behind(t, first, "drop 1\nletters", "server up 0", to("16"), to("21"))
	behind(t, first, "drop -1\nletters", "server up 0", to("16"), to("18"))
	behind(t, first, "drop 3\nletters", "server up 0", to("18"), to("21"))
	behind(t, first, "double 1\nletters", "server up 0", to("16"), to("18"), to("21"), to("18"))
	behind(t, first, "double -999999999\nletters", "server up 0", to("16"), to("18"), to("21"), to("16"))
	behind(t, first, "deliver 1\nletters\ndeliver 999999999\nletters", "server up 0", to("16"), to("21"), "to 2, 9 bytes", "server up 0", to("21"), "to 2, 9 bytes", "to 1, 9 bytes")
	behind(t, first, "deliver 1\ndeliver -1\nletters", "server up 0", "client 2 0, sent 1", to("16"), to("21"), to("18"))
	behind(t, first, "drop 0\ndrop 0\ndrop 0\nletters\ndrop 0\nletters", "server up 0", "server up 0", "server up 0", "server up 0")
}

func TestCalm(t *testing.T) {
	first := begin + "1 mkdir /a 7\n"
	all := []string{"server up 0", "client 1 0, sent 1", "server up 1", "client 1 1, sent 0: ok"}
	for n, word := range []string{"0", "1", "2", "3", "4"} {
		behind(t, first, "calm "+word, all[:n]...)
		behind(t, first, "calm "+word+"\ncalm 9", all...)
	}
	for _, word := range []string{"5", "9", "1000", "1001", "999999999"} {
		behind(t, first, "calm "+word, all...)
		behind(t, first, "calm "+word+"\ncalm "+word+"\ntree", slices.Concat(all, []string{"1 a dir 2 7"})...)
	}
	for _, word := range []string{"-1", "-0", "-999999999"} {
		behind(t, first, "calm "+word)
	}
	with(t, "calm 9\ncut\ncalm 9", "server down")
	behind(t, first, "cut\ncalm 9", "server down", "server down")
}

// A cache of one entry never has both names ahead of the last one: the client asks for one of them and the other again and again.
func TestCalmHasAnEnd(t *testing.T) {
	endless := "world 1 1 1 0 8 4 2 99\n1 mkdir /a 1\ncalm 9\n1 mkdir /a/b 2\ncalm 9\n1 mkdir /a/b/c 3\ncalm 99\n1 crash\n1 lookup /a/b/c\n"
	was := len(strings.Split(says(t, endless), "\n"))
	for word, steps := range map[string]int{"999": 999, "1000": 1000, "1001": 1000, "999999999": 1000} {
		if got := len(strings.Split(says(t, endless+"calm "+word), "\n")) - was; got != steps {
			t.Errorf("calm %s says %d steps, not %d", word, got, steps)
		}
	}
	if got := len(strings.Split(says(t, endless+"calm 1000\ncalm 1000\ncalm 7"), "\n")) - was; got != 2007 {
		t.Errorf("%d steps, not 2007", got)
	}
}

func TestTree(t *testing.T) {
	with(t, "tree\ncut\ntree\nboot -1\ntree", "server down", "server up 0")
	all := []string{"1 d dir 2 7", "1 e e dir 7 511", "1 l link 4 0 d/f", "1 m link 5 0 d/x%20y/../z", "2 e dir 6 0", "2 f file 3 420"}
	behind(t, made, "tree", all...)
	behind(t, made, "cut\ntree", "server down")
	behind(t, made, "cut\nboot -1\ntree", slices.Concat([]string{"server down", "server up 6"}, all)...)
	behind(t, made, "1 lookup /\ntree\ntree", slices.Concat([]string{"client 1 6, sent 0: dir 1 0"}, all, all)...)
}

func TestCache(t *testing.T) {
	first := made + "1 lookup /x\ncalm 9\n1 lookup /d/f\ncalm 9\n1 stat /m\ncalm 9\n1 readdir /d/e\ncalm 99\n"
	behind(t, first, "cache 1", "1 x none", "2 f file 3 420", "1 m link 5 0 d/x%20y/../z", "1 d dir 2 7", "2 e dir 6 0 whole")
	behind(t, first, "cache 3\ncache 0\ncache -1\ncache 999999999")
	behind(t, first, "cut\ncache 1", "server down", "1 x none", "2 f file 3 420", "1 m link 5 0 d/x%20y/../z", "1 d dir 2 7", "2 e dir 6 0 whole")
	behind(t, first, "1 crash\ncache 1", "client 1 0, sent 0")
	all := made + "1 readdir /\ncalm 9\n"
	behind(t, all, "cache 1", "1 d dir 2 7", "1 e e dir 7 511", "1 l link 4 0 d/f", "1 m link 5 0 d/x%20y/../z", "root whole")
	behind(t, all, "1 readdir /d\ncalm 9\ncache 1",
		"client 1 6, sent 1", "server up 6", "client 1 6, sent 0: names e f", "1 e e dir 7 511", "1 l link 4 0 d/f", "1 m link 5 0 d/x%20y/../z", "2 e dir 6 0", "2 f file 3 420", "1 d dir 2 7 whole", "root whole")
	// Whole directories of another client are none of this one's, and an empty one is whole as well.
	behind(t, begin, "1 readdir /\ncalm 9\ncache 1\ncache 2", "client 1 0, sent 1", "server up 0", "client 1 0, sent 1", "server up 0", "client 1 0, sent 0: names", "root whole")
}

// Audit

func TestAudit(t *testing.T) {
	with(t, "audit\ncut\naudit\n1 lookup a\n1 stat /\naudit", "audit -1", "server down", "audit -1", "client 1 0, sent 0: error 12", "client 1 0, sent 0: dir 1 0", "audit -1")
	behind(t, made, "audit\n1 lookup /d\ncalm 9\naudit\n1 crash\n1 lookup /d\ncalm 99\naudit", "audit -1", "client 1 6, sent 1", "server up 6", "client 1 6, sent 0: dir 2 7", "audit -1",
		"client 1 0, sent 0", "client 1 0, sent 1", "server up 6", "client 1 6, sent 1", "server up 6", "client 1 6, sent 0: dir 2 7", "audit -1")
	// A walk may meet as many links as the world says.
	for _, links := range []string{"0", "1", "2", "8"} {
		got := last(t, "world 1 30 4 "+links+" 8 4 2 99\n1 symlink /l l\ncalm 9\n1 lookup /l\n1 symlink /a /\ncalm 9\n1 lookup /a\n1 symlink /b a\ncalm 99\n1 lookup /b\naudit")
		if got != "audit -1" {
			t.Errorf("with %s links: %s", links, got)
		}
	}
}
