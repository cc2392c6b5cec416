package world_test

import (
	"strconv"
	"strings"
	"testing"

	"vista/api"
	"vista/world"
)

// The document's examples of the whole, 1 to 9, without the sheet: their events, and all that they say.

// What the examples ask for beside events: calm N, tree, cache C.
const (
	evCalm = -1 - iota
	evTree
	evCache
)

func ofCache(client int) api.Event { return at(client, evCache) }

var (
	calmly = of(evCalm, 9)
	ofTree = of(evTree, 0)
)

// show is a world, with what was said of it.
type show struct {
	w *world.World
	// kinds are those of the calls that go on.
	kinds map[int]int
	said  []string
}

func (s *show) say(line string) { s.said = append(s.said, line) }

func (s *show) do(ev api.Event) {
	switch ev.Kind {
	case evCalm:
		for i := 0; i < ev.N && len(s.w.Letters()) > 0; i++ {
			s.do(deliver(0))
		}
	case evTree:
		for _, e := range s.w.Tree() {
			s.say(ofEntry(e))
		}
	case evCache:
		for _, e := range s.w.Entries(ev.Client) {
			s.say(ofEntry(e))
		}
		if s.w.Whole(ev.Client, api.Root) {
			s.say("root whole")
		}
	default:
		if ev.Kind == api.EvCall && !s.w.Busy(ev.Client) {
			s.kinds[ev.Client] = ev.Call.Kind
		}
		s.step(s.w.Do(ev))
	}
}

func (s *show) step(step api.Step) {
	if step.Client == 0 {
		s.say(map[bool]string{false: "server down", true: "server up " + strconv.Itoa(step.Server)}[step.Up])
		return
	}
	line := "client " + strconv.Itoa(step.Client) + " " + strconv.Itoa(step.Version) + ", sent " + strconv.Itoa(step.Sent)
	if step.Done {
		line += ": " + ofAnswer(s.kinds[step.Client], step.Answer)
	}
	s.say(line)
}

func ofAnswer(kind int, answer api.Answer) string {
	switch {
	case answer.Err != api.OK:
		return answer.Err.Error()
	case kind == api.CallReaddir:
		return strings.Join(append([]string{"names"}, answer.Names...), " ")
	case kind < api.CallReaddir:
		return ofNode(answer.Node)
	}
	return "ok"
}

func ofEntry(e api.Entry) string {
	return strconv.Itoa(e.Key.Dir) + " " + e.Key.Name + " " + ofNode(e.Node)
}

func ofNode(n api.Node) string {
	kinds := map[int]string{api.KindDir: "dir", api.KindFile: "file", api.KindLink: "link"}
	return strings.TrimSpace(kinds[n.Kind] + " " + strconv.Itoa(n.ID) + " " + strconv.Itoa(n.Mode) + " " + n.Target)
}

// plays does events in a new world, and fails if anything else is said.
func plays(t *testing.T, conf api.Conf, want string, events ...api.Event) {
	t.Helper()
	s := &show{w: made(t, conf, 99), kinds: map[int]int{}}
	for _, ev := range events {
		s.do(ev)
	}
	if got := strings.Join(s.said, "; "); got != want {
		t.Errorf("it says\n%s, not\n%s", got, want)
	}
}

func TestExamplesOfTheWhole(t *testing.T) {
	one := api.Conf{Clients: 1, Dentries: 9, Negative: 4, Links: 3, Promises: 8, Queue: 4, Hold: 2}
	two := one
	two.Clients = 2
	plays(t, one, "client 1 0, sent 1; server up 0; client 1 0, sent 1; server up 1; client 1 1, sent 0: ok; client 1 1, sent 0: dir 2 7; "+
		"client 1 1, sent 1; server up 1; client 1 1, sent 0: error 40; client 1 1, sent 0: error 40",
		calls(1, mkdir("/a")), calmly, calls(1, lookup("/a")), calls(1, lookup("/b")), calmly, calls(1, lookup("/b")))
	plays(t, two, "client 1 0, sent 1; server up 0; client 1 0, sent 1; server up 0; client 1 0, sent 0: error 40; "+
		"client 2 0, sent 1; server up 0; client 2 0, sent 1; server up 1; client 1 1, sent 0; client 2 1, sent 0: ok; "+
		"client 1 1, sent 1; server up 1; client 1 1, sent 0: file 2 3",
		calls(1, lookup("/x")), calmly, calls(2, create("/x", 3)), calmly, calls(1, lookup("/x")), calmly)
	plays(t, two, "client 1 0, sent 1; server up 0; client 1 0, sent 1; server up 0; client 1 0, sent 0: error 40; "+
		"client 2 0, sent 1; server up 0; client 2 0, sent 1; server up 1; server up 1; client 1 0, sent 0: error 40; client 1 0, sent 1; "+
		"client 2 1, sent 0: ok; server up 1; client 1 1, sent 0",
		calls(1, lookup("/x")), calmly, calls(2, create("/x", 3)), of(evCalm, 3), of(api.EvDrop, 0), calls(1, lookup("/x")), at(1, api.EvTick), calmly)
	plays(t, one, "client 1 0, sent 1; server up 0; client 1 0, sent 1; server up 0; server down; server up 0; client 1 0, sent 2; "+
		"server up 0; server up 0; client 1 0, sent 1; client 1 0, sent 1; server up 1; server up 1; client 1 1, sent 0: ok; client 1 1, sent 0; 1 a dir 2 7",
		calls(1, mkdir("/a")), of(evCalm, 2), of(api.EvFuse, 0), calmly, of(api.EvBoot, -1), at(1, api.EvTick), calmly, ofTree)
	links := one
	links.Dentries, links.Links = 20, 2
	plays(t, links, "client 1 0, sent 1; server up 0; client 1 0, sent 1; server up 1; client 1 1, sent 0: ok; "+
		"client 1 1, sent 0: error 49; client 1 1, sent 0: link 2 0 l; client 1 1, sent 0: link 2 0 l",
		calls(1, symlink("/l", "l")), calmly, calls(1, lookup("/l")), calls(1, api.Call{Kind: api.CallStat, Path: "/l"}), calls(1, api.Call{Kind: api.CallReadlink, Path: "/l"}))
	plays(t, one, "client 1 0, sent 0: error 12; client 1 0, sent 0: error 11; client 1 0, sent 0: error 10; client 1 0, sent 0: error 1; client 1 0, sent 0: error 12",
		calls(1, lookup("a")), calls(1, lookup("/abcdefghijklm")), calls(1, create("/..", 7)), calls(1, api.Call{Kind: api.CallMkdir, Path: "/a", Mode: 512}), calls(1, symlink("/a", "")))
	plays(t, one, "client 1 0, sent 1; server up 0; client 1 0, sent 1; server up 1; client 1 1, sent 0: ok; client 1 1, sent 1; server up 1; "+
		"client 1 1, sent 0: names a; client 1 1, sent 0: names a; client 1 1, sent 0: error 40; 1 a dir 2 7; root whole",
		calls(1, mkdir("/a")), calmly, calls(1, readdir("/")), calmly, calls(1, readdir("/")), calls(1, lookup("/zz")), ofCache(1))
	great := one
	great.Dentries, great.Promises, great.Queue = 20, 20, 8
	plays(t, great, "client 1 0, sent 1; server up 0; client 1 0, sent 1; server up 1; client 1 1, sent 0: ok; client 1 1, sent 1; server up 2; client 1 2, sent 0: ok; "+
		"client 1 2, sent 1; server up 2; client 1 2, sent 0: error 45; client 1 2, sent 1; server up 3; client 1 3, sent 0; client 1 3, sent 0: ok; 1 a dir 2 7; 1 b dir 3 5",
		calls(1, mkdir("/a")), calmly, calls(1, api.Call{Kind: api.CallMkdir, Path: "/a/b", Mode: 5}), calmly, calls(1, rename("/a", "/a/b/c")), calmly, calls(1, rename("/a/b", "/b")), calmly, ofTree)
	plays(t, one, "client 1 0, sent 1; client 1 0, sent 0: error 80; client 1 0, sent 0: error 81; client 1 0, sent 0; client 1 0, sent 1; "+
		"server up 0; server up 0; client 1 0, sent 0; client 1 0, sent 1; server up 0; client 1 0, sent 0: ok",
		calls(1, lookup("/a")), calls(1, lookup("/a")), at(1, api.EvCancel), at(1, api.EvCrash), calls(1, sync), calmly)
}
