package sheet_test

import (
	"slices"
	"strings"
	"testing"

	"vista/api"
	"vista/sheet"
)

// begin makes the world that most of the tests play in.
const begin = "world 2 9 4 3 8 4 2 99\n"

// says is what a text says; that it is refused is none of a test's that asks for it so.
func says(t *testing.T, text string) string {
	t.Helper()
	said, e := sheet.Run(text)
	if e != api.OK {
		t.Fatalf("Run of %d bytes, %.40q: %d", len(text), text, e)
	}
	return said
}

// short is a text that is not too long to be told.
func short(text string) string {
	if len(text) <= 2000 {
		return text
	}
	return text[:1000] + " .. " + text[len(text)-1000:]
}

// plays fails if a text says anything else; want's lines are given without their last end.
func plays(t *testing.T, text string, want ...string) {
	t.Helper()
	all := ""
	for _, line := range want {
		all += line + "\n"
	}
	if got := says(t, text); got != all {
		t.Errorf("%q says\n%s\nnot\n%s", short(text), short(got), short(all))
	}
}

// with plays lines in the world of begin.
func with(t *testing.T, lines string, want ...string) {
	t.Helper()
	plays(t, begin+lines, append([]string{"ok"}, want...)...)
}

// P18.1

func TestExamplesOfTheChapter(t *testing.T) {
	plays(t, "world 1 9 4 3 8 4 2 99\n1 mkdir /a 7\ncalm 9\n1 lookup /a\ntree\nhop\n",
		"ok", "client 1 0, sent 1", "server up 0", "client 1 0, sent 1", "server up 1", "client 1 1, sent 0: ok", "client 1 1, sent 0: dir 2 7", "1 a dir 2 7", "error 90")
}

func TestNoText(t *testing.T) {
	plays(t, "")
}

// A remark fills up what is left of a text.
func TestMaxSheet(t *testing.T) {
	for _, line := range []string{"", "x", "#", " ", "tree", begin, begin + "1 lookup /a"} {
		just := line + "\n#" + strings.Repeat("-", api.MaxSheet-len(line)-2)
		if got, want := says(t, just), says(t, line); len(just) != api.MaxSheet || got != want {
			t.Errorf("%q in %d bytes says %q, not %q", line, len(just), short(got), want)
		}
		for _, more := range []string{just + "-", just + "\n", just + just, strings.Repeat("\n", api.MaxSheet+1)} {
			if said, e := sheet.Run(more); said != "" || e != api.ErrFull {
				t.Errorf("%d bytes: %q, %d", len(more), short(said), e)
			}
		}
	}
	plays(t, strings.Repeat("\n", api.MaxSheet))
	plays(t, strings.Repeat(" ", api.MaxSheet))
	plays(t, strings.Repeat("x", api.MaxSheet), "error 90")
	plays(t, strings.Repeat("x\n", api.MaxSheet/2), slices.Repeat([]string{"error 90"}, api.MaxSheet/2)...)
}

func TestWithoutWorld(t *testing.T) {
	for _, form := range forms() {
		line, want := filled(form), "error 30"
		if form == "world N N N N N N N N" {
			want = "ok"
		}
		plays(t, line, want)
		plays(t, "world 1 9 4 3 8 4 2 8\n"+line, "error 1", want)
	}
	plays(t, "tree\n"+begin+"tree\n1 lookup /%%\nletters", "error 30", "ok", "client 1 0, sent 1", "to 0, 17 bytes")
}

// The document's ten examples of the whole.
func TestExamplesOfTheWhole(t *testing.T) {
	for _, x := range examples() {
		text, want := strings.Join(x.lines, "\n"), x.says
		plays(t, text, want...)
		plays(t, text+"\n", want...)
		plays(t, "# what is this?\n\n  "+strings.Join(x.lines, "  \n\n#\n ")+"  ", want...)
	}
}

// example is a sheet, and what it says, without the ends of the last lines.
type example struct{ lines, says []string }

func examples() []example {
	one, links, great := "world 1 9 4 3 8 4 2 99", "world 1 20 4 2 8 4 2 99", "world 1 20 4 3 20 8 2 99"
	out, up := "client 1 0, sent 1", "server up 0"
	return []example{
		{[]string{one, "1 mkdir /a 7", "calm 9", "1 lookup /a", "1 lookup /b", "calm 9", "1 lookup /b"},
			[]string{"ok", out, up, out, "server up 1", "client 1 1, sent 0: ok", "client 1 1, sent 0: dir 2 7", "client 1 1, sent 1", "server up 1", "client 1 1, sent 0: error 40", "client 1 1, sent 0: error 40"}},
		{[]string{"world 2 9 4 3 8 4 2 99", "1 lookup /x", "calm 9", "2 create /x 3", "calm 9", "1 lookup /x", "calm 9"},
			[]string{"ok", out, up, out, up, "client 1 0, sent 0: error 40", "client 2 0, sent 1", up, "client 2 0, sent 1", "server up 1", "client 1 1, sent 0", "client 2 1, sent 0: ok", "client 1 1, sent 1", "server up 1", "client 1 1, sent 0: file 2 3"}},
		{[]string{"world 2 9 4 3 8 4 2 99", "1 lookup /x", "calm 9", "2 create /x 3", "calm 3", "drop 0", "1 lookup /x", "1 tick", "calm 9"},
			[]string{"ok", out, up, out, up, "client 1 0, sent 0: error 40", "client 2 0, sent 1", up, "client 2 0, sent 1", "server up 1", "server up 1", "client 1 0, sent 0: error 40", out, "client 2 1, sent 0: ok", "server up 1", "client 1 1, sent 0"}},
		{[]string{one, "1 mkdir /a 7", "calm 2", "fuse 0", "calm 9", "boot -1", "1 tick", "calm 9", "tree"},
			[]string{"ok", out, up, out, up, "server down", up, "client 1 0, sent 2", up, up, out, out, "server up 1", "server up 1", "client 1 1, sent 0: ok", "client 1 1, sent 0", "1 a dir 2 7"}},
		{[]string{links, "1 symlink /l l", "calm 9", "1 lookup /l", "1 stat /l", "1 readlink /l"},
			[]string{"ok", out, up, out, "server up 1", "client 1 1, sent 0: ok", "client 1 1, sent 0: error 49", "client 1 1, sent 0: link 2 0 l", "client 1 1, sent 0: link 2 0 l"}},
		{[]string{one, "1 lookup a", "1 lookup /abcdefghijklm", "1 create /.. 7", "1 mkdir /a 512", "1 symlink /a %"},
			[]string{"ok", "client 1 0, sent 0: error 12", "client 1 0, sent 0: error 11", "client 1 0, sent 0: error 10", "client 1 0, sent 0: error 1", "client 1 0, sent 0: error 12"}},
		{[]string{one, "1 mkdir /a 7", "calm 9", "1 readdir /", "calm 9", "1 readdir /", "1 lookup /zz", "cache 1"},
			[]string{"ok", out, up, out, "server up 1", "client 1 1, sent 0: ok", "client 1 1, sent 1", "server up 1", "client 1 1, sent 0: names a", "client 1 1, sent 0: names a", "client 1 1, sent 0: error 40", "1 a dir 2 7", "root whole"}},
		{[]string{great, "1 mkdir /a 7", "calm 9", "1 mkdir /a/b 5", "calm 9", "1 rename /a /a/b/c", "calm 9", "1 rename /a/b /b", "calm 9", "tree"},
			[]string{"ok", out, up, out, "server up 1", "client 1 1, sent 0: ok", "client 1 1, sent 1", "server up 2", "client 1 2, sent 0: ok", "client 1 2, sent 1", "server up 2", "client 1 2, sent 0: error 45", "client 1 2, sent 1", "server up 3", "client 1 3, sent 0", "client 1 3, sent 0: ok", "1 a dir 2 7", "1 b dir 3 5"}},
		{[]string{one, "1 lookup /a", "1 lookup /a", "1 cancel", "1 crash", "1 sync", "calm 9"},
			[]string{"ok", out, "client 1 0, sent 0: error 80", "client 1 0, sent 0: error 81", "client 1 0, sent 0", out, up, up, "client 1 0, sent 0", out, up, "client 1 0, sent 0: ok"}},
		{[]string{"hop", "tree", "world 0 9 4 3 8 4 2 99", "world 1 1 1 0 1 1 0 9", "1 lookup /a", "letters", "audit"},
			[]string{"error 90", "error 30", "error 1", "ok", out, "to 0, 16 bytes", "audit -1"}},
	}
}
