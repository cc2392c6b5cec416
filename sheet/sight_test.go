package sheet_test

import (
	"fmt"
	"slices"
	"strings"
	"testing"

	"vista/api"
	"vista/sheet"
)

// Completed reads, and what an audit says of them.

// played is a player behind the lines of a text.
func played(text string) sheet.Player {
	p := sheet.NewPlayer()
	for _, line := range strings.Split(text, "\n") {
		p.Line(line)
	}
	return p
}

// sees fails if the completed reads of a text are others.
func sees(t *testing.T, text string, want ...api.Sight) {
	t.Helper()
	got := played(text).Sights()
	if len(got) != len(want) {
		t.Errorf("%q: %d sights, not %d: %+v", short(text), len(got), len(want), got)
		return
	}
	for i := range want {
		if fmt.Sprint(got[i]) != fmt.Sprint(want[i]) {
			t.Errorf("%q: the sight %d is %+v, not %+v", short(text), i, got[i], want[i])
		}
	}
}

// sight is what client 1 of life 1 saw at version 6, behind made.
func sight(kind int, path string, answer api.Answer) api.Sight {
	answer.Version = 6
	return api.Sight{Client: 1, Life: 1, Version: 6, Call: api.Call{Kind: kind, Path: path}, Answer: answer}
}

func TestCompletedReads(t *testing.T) {
	d, l := api.Answer{Node: api.Node{ID: 2, Kind: api.KindDir, Mode: 7}}, api.Answer{Node: api.Node{ID: 4, Kind: api.KindLink, Target: "d/f"}}
	names, none := api.Answer{Names: []string{"e", "f"}}, api.Answer{Err: api.ErrNotFound}
	sees(t, made)
	sees(t, made+"1 lookup /d\ncalm 1")
	sees(t, made+"1 lookup /d\ncalm 9", sight(api.CallLookup, "/d", d))
	sees(t, made+"1 stat /d\ncalm 9\n1 stat /d\n1 readlink /l\ncalm 9\n1 readdir /d\ncalm 9\n1 lookup /x\ncalm 9\n1 readlink /d",
		sight(api.CallStat, "/d", d), sight(api.CallStat, "/d", d), sight(api.CallReadlink, "/l", l), sight(api.CallReaddir, "/d", names), sight(api.CallLookup, "/x", none), sight(api.CallReadlink, "/d", api.Answer{Err: api.ErrNotLink}))
	// Errors that are a walk's.
	sees(t, made+"1 lookup /d/f/\ncalm 9\n1 symlink /o o\ncalm 9\n1 lookup /d/%20",
		sight(api.CallLookup, "/d/f/", api.Answer{Err: api.ErrNotDir}))
	for _, line := range []string{
		"1 lookup d", "1 stat %", "1 readdir /%0", "1 readlink /abcdefghijklm", "1 lookup /" + strings.Repeat("a/", 48), // of their paths
		"1 sync\ncalm 9", "1 create /n 1\ncalm 9", "1 rmdir /d\ncalm 9", "1 create /d 999", "1 setattr / 1", // of no reads
		"1 lookup /x\n1 cancel", "1 readdir /\n1 cancel\ncalm 9", "1 lookup /x\n1 crash\ncalm 9", "1 cancel", // of no walk that came to its end
		"1 sync\n1 lookup /\n1 readdir /\n1 cancel", "1 stat /x\n1 stat /x\n1 cancel", "3 lookup /", "0 readdir /", "-1 stat /", // of who can't be called
		"1 hop /", "1 lookup", "# 1 lookup /", "tree\ncache 1\nletters\naudit\n1 tick\ncalm 9",
	} {
		sees(t, made+line)
		sees(t, made+"1 lookup /d\ncalm 9\n"+line, sight(api.CallLookup, "/d", d))
	}
}

// A sight has the call that it is of, whoever else was called, and the life and the version in which it was answered.
func TestWhoseReads(t *testing.T) {
	of := func(client, life, version int, path string, id int) api.Sight {
		return api.Sight{Client: client, Life: life, Version: version, Call: api.Call{Kind: api.CallLookup, Path: path}, Answer: api.Answer{Version: version, Node: api.Node{ID: id, Kind: api.KindDir, Mode: id - 1}}}
	}
	two := begin + "1 mkdir /a 1\ncalm 9\n2 mkdir /b 2\ncalm 9\n"
	sees(t, two+"1 lookup /b\n2 lookup /a\n1 stat /\n2 lookup /b\ncalm 9\n2 crash\n2 lookup /a\ncalm 9\n2 lookup /\n1 mkdir /c 3\ncalm 9\n1 lookup /c\n2 lookup /a",
		of(1, 1, 2, "/b", 3), of(2, 1, 2, "/a", 2), of(2, 2, 2, "/a", 2), of(2, 2, 2, "/", 1), of(1, 1, 3, "/c", 4), of(2, 2, 2, "/a", 2))
	// A new world has none; one that is refused takes none away.
	sees(t, two+"2 lookup /b\n"+begin+"1 lookup /", of(1, 1, 0, "/", 1))
	sees(t, two+"2 lookup /b\nworld 0 0 0 0 0 0 0 0\n2 lookup /", of(2, 1, 2, "/b", 3), of(2, 1, 2, "/", 1))
}

// What can't be explained is found at its place among all reads of the world, with the links that its walks may meet.
func TestAuditFindsWhatIsWrong(t *testing.T) {
	for _, links := range []string{"0", "1", "8"} {
		text := "world 2 20 4 " + links + " 8 4 2 99\n1 mkdir /a 7\ncalm 9\n1 lookup /a\n2 symlink /l a\ncalm 9\n2 lookup /l\ncalm 9"
		seen := played(text).Sights()
		if len(seen) != 2 || seen[1].Version != 2 || (links == "0") != (seen[1].Answer.Err == api.ErrLoop) {
			t.Fatalf("%+v", seen)
		}
		wrong := map[string]api.Sight{"another answer": seen[0], "no such version": seen[0], "a version below 0": seen[0], "an earlier version": seen[1], "another call": seen[1], "links": seen[1]}
		for what, s := range wrong {
			switch what {
			case "another answer":
				s.Answer.Err = api.ErrNotFound
			case "no such version":
				s.Version = 3
			case "a version below 0":
				s.Version = -1
			case "an earlier version":
				s.Version, s.Answer, s.Call = 0, api.Answer{Node: api.Node{ID: 1, Kind: api.KindDir}}, api.Call{Kind: api.CallStat, Path: "/"}
			case "another call":
				s.Call.Kind = api.CallReadlink
				s.Call.Path = "/a"
			case "links":
				s.Answer = api.Answer{Err: map[bool]api.Errno{true: api.OK, false: api.ErrLoop}[links == "0"]}
			}
			p := played(text)
			p.Saw(s)
			if got := p.Line("audit"); got != "audit 2\n" {
				t.Errorf("%s, with %s links: %q", what, links, got)
			}
			// It is found ahead of what is right behind it, and ahead of what else is wrong.
			p.Line("1 stat /")
			p.Saw(s)
			if got := p.Line("audit") + p.Line("1 stat /a") + p.Line(" audit "); got != "audit 2\nclient 1 1, sent 0: dir 2 7\naudit 2\n" {
				t.Errorf("%s, with %s links, and more: %q", what, links, got)
			}
			if got := p.Line("world 1 9 4 3 8 4 2 99") + p.Line("audit"); got != "ok\naudit -1\n" {
				t.Errorf("%s, in a new world: %q", what, got)
			}
		}
		p := played(text)
		for _, s := range slices.Concat(seen[:1], seen[1:], seen[1:]) {
			p.Saw(s)
		}
		if got := p.Line("audit"); got != "audit -1\n" {
			t.Errorf("what was seen once more: %q", got)
		}
	}
}
