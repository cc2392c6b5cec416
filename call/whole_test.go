package call_test

import (
	"slices"
	"strconv"
	"strings"
	"testing"

	"vista/api"
	"vista/block"
	"vista/boot"
	"vista/call"
	"vista/serve"
)

// The document's examples of the whole, as far as they speak of clients: what each of them sends and answers, and at which version.

// stage is what the lines of a sheet drive: a server on its disk, clients, and letters between them.
type stage struct {
	conf    api.Conf
	disk    *block.Disk
	s       *serve.Server
	clients []*call.Client
	lives   []int
	kinds   []int
	letters []api.Msg
	said    []string
}

func newStage(t *testing.T, words []string) *stage {
	t.Helper()
	var n [8]int
	for i := range n {
		n[i] = number(words[i])
	}
	x := &stage{conf: api.Conf{Clients: n[0], Dentries: n[1], Negative: n[2], Links: n[3], Promises: n[4], Queue: n[5], Hold: n[6]}}
	x.disk, _ = block.New(n[7])
	boot.Format(x.disk)
	x.s, _ = boot.Start(x.disk, x.conf)
	for id := range n[0] {
		x.clients, x.lives, x.kinds = append(x.clients, nil), append(x.lives, 0), append(x.kinds, 0)
		x.crash(t, id)
	}
	x.said = append(x.said, "ok")
	return x
}

func number(word string) int {
	n, _ := strconv.Atoi(word)
	return n
}

// crash makes a client a new one.
func (x *stage) crash(t *testing.T, at int) {
	t.Helper()
	x.lives[at]++
	c, e := call.New(at+1, x.lives[at], x.conf)
	if e != api.OK {
		t.Fatal(e)
	}
	x.clients[at] = c
}

// say says what a client's step has come to.
func (x *stage) say(at int, o outcome) {
	x.letters = append(x.letters, o.out...)
	line := "client " + strconv.Itoa(at+1) + " " + strconv.Itoa(x.clients[at].Version()) + ", sent " + strconv.Itoa(len(o.out))
	switch {
	case !o.done:
	case o.answer.Err != api.OK:
		line += ": " + o.answer.Err.Error()
	case x.kinds[at] <= api.CallReadlink:
		line += ": " + told(o.answer.Node)
	case x.kinds[at] == api.CallReaddir:
		line += ": " + strings.Join(append([]string{"names"}, o.answer.Names...), " ")
	default:
		line += ": ok"
	}
	x.said = append(x.said, line)
}

// told is what is said of a node.
func told(n api.Node) string {
	line := []string{"dir", "file", "link"}[n.Kind-1] + " " + strconv.Itoa(n.ID) + " " + strconv.Itoa(n.Mode)
	if n.Kind == api.KindLink {
		line += " " + n.Target
	}
	return line
}

func (x *stage) sayServer() {
	if x.s == nil {
		x.said = append(x.said, "server down")
	} else {
		x.said = append(x.said, "server up "+strconv.Itoa(x.s.Version()))
	}
}

// deliver brings the first letter to whom it is for.
func (x *stage) deliver() {
	m := x.letters[0]
	x.letters = x.letters[1:]
	if m.Kind != api.MsgAsk {
		x.say(m.Client-1, of(x.clients[m.Client-1].Take(m)))
		return
	}
	if x.s != nil {
		out, e := x.s.Handle(m)
		x.letters = append(x.letters, out...)
		if e != api.OK {
			x.s = nil
		}
	}
	x.sayServer()
}

// event does a line that no client has to do with; tree and cache say what is there.
func (x *stage) event(words []string) {
	switch words[0] {
	case "calm":
		for i := 0; i < number(words[1]) && len(x.letters) > 0; i++ {
			x.deliver()
		}
		return
	case "tree":
		for _, e := range x.s.Tree().Dump() {
			x.said = append(x.said, strconv.Itoa(e.Key.Dir)+" "+e.Key.Name+" "+told(e.Node))
		}
		return
	case "cache":
		c := x.clients[number(words[1])-1]
		for _, e := range c.Entries() {
			x.said = append(x.said, strconv.Itoa(e.Key.Dir)+" "+e.Key.Name+" "+told(e.Node))
		}
		if c.Whole(api.Root) {
			x.said = append(x.said, "root whole")
		}
		return
	case "drop":
		x.letters = slices.Delete(x.letters, number(words[1]), number(words[1])+1)
	case "fuse":
		x.disk.Fuse(number(words[1]))
	case "boot":
		x.disk.Power()
		x.s, _ = boot.Start(x.disk, x.conf)
	}
	x.sayServer()
}

// act does a line of a client.
func (x *stage) act(t *testing.T, at int, words []string) {
	t.Helper()
	c := x.clients[at]
	switch words[0] {
	case "tick":
		x.say(at, outcome{out: c.Tick()})
		return
	case "cancel":
		done, answer := c.Cancel()
		x.say(at, outcome{done: done, answer: answer})
		return
	case "crash":
		x.crash(t, at)
		x.say(at, outcome{})
		return
	}
	kinds := []string{"lookup", "stat", "readlink", "readdir", "create", "mkdir", "symlink", "unlink", "rmdir", "rename", "setattr", "sync"}
	asked := api.Call{Kind: 1 + slices.Index(kinds, words[0])}
	if len(words) > 1 {
		asked.Path = words[1]
	}
	if len(words) > 2 {
		asked.Other, asked.Mode = strings.TrimSuffix(words[2], "%"), number(words[2])
	}
	if !c.Busy() {
		x.kinds[at] = asked.Kind
	}
	x.say(at, of(c.Start(asked)))
}

// plays does the lines of a sheet, and fails if they say anything else.
func plays(t *testing.T, sheet, want string) {
	t.Helper()
	var x *stage
	for _, line := range strings.Split(sheet, "; ") {
		words := strings.Fields(line)
		switch id := number(words[0]); {
		case words[0] == "world":
			x = newStage(t, words[1:])
		case id > 0:
			x.act(t, id-1, words[1:])
		default:
			x.event(words)
		}
	}
	if got := strings.Join(x.said, "; "); got != want {
		t.Errorf("%s says\n%s, not\n%s", sheet, got, want)
	}
}

func TestExamplesOfTheWhole(t *testing.T) {
	plays(t, "world 1 9 4 3 8 4 2 99; 1 mkdir /a 7; calm 9; 1 lookup /a; 1 lookup /b; calm 9; 1 lookup /b",
		"ok; client 1 0, sent 1; server up 0; client 1 0, sent 1; server up 1; client 1 1, sent 0: ok; client 1 1, sent 0: dir 2 7; client 1 1, sent 1; server up 1; client 1 1, sent 0: error 40; client 1 1, sent 0: error 40")
	plays(t, "world 2 9 4 3 8 4 2 99; 1 lookup /x; calm 9; 2 create /x 3; calm 9; 1 lookup /x; calm 9",
		"ok; client 1 0, sent 1; server up 0; client 1 0, sent 1; server up 0; client 1 0, sent 0: error 40; client 2 0, sent 1; server up 0; client 2 0, sent 1; server up 1; client 1 1, sent 0; client 2 1, sent 0: ok; client 1 1, sent 1; server up 1; client 1 1, sent 0: file 2 3")
	plays(t, "world 2 9 4 3 8 4 2 99; 1 lookup /x; calm 9; 2 create /x 3; calm 3; drop 0; 1 lookup /x; 1 tick; calm 9",
		"ok; client 1 0, sent 1; server up 0; client 1 0, sent 1; server up 0; client 1 0, sent 0: error 40; client 2 0, sent 1; server up 0; client 2 0, sent 1; server up 1; server up 1; client 1 0, sent 0: error 40; client 1 0, sent 1; client 2 1, sent 0: ok; server up 1; client 1 1, sent 0")
	plays(t, "world 1 9 4 3 8 4 2 99; 1 mkdir /a 7; calm 2; fuse 0; calm 9; boot -1; 1 tick; calm 9; tree",
		"ok; client 1 0, sent 1; server up 0; client 1 0, sent 1; server up 0; server down; server up 0; client 1 0, sent 2; server up 0; server up 0; client 1 0, sent 1; client 1 0, sent 1; server up 1; server up 1; client 1 1, sent 0: ok; client 1 1, sent 0; 1 a dir 2 7")
	plays(t, "world 1 20 4 2 8 4 2 99; 1 symlink /l l; calm 9; 1 lookup /l; 1 stat /l; 1 readlink /l",
		"ok; client 1 0, sent 1; server up 0; client 1 0, sent 1; server up 1; client 1 1, sent 0: ok; client 1 1, sent 0: error 49; client 1 1, sent 0: link 2 0 l; client 1 1, sent 0: link 2 0 l")
	plays(t, "world 1 9 4 3 8 4 2 99; 1 lookup a; 1 lookup /abcdefghijklm; 1 create /.. 7; 1 mkdir /a 512; 1 symlink /a %",
		"ok; client 1 0, sent 0: error 12; client 1 0, sent 0: error 11; client 1 0, sent 0: error 10; client 1 0, sent 0: error 1; client 1 0, sent 0: error 12")
	plays(t, "world 1 9 4 3 8 4 2 99; 1 mkdir /a 7; calm 9; 1 readdir /; calm 9; 1 readdir /; 1 lookup /zz; cache 1",
		"ok; client 1 0, sent 1; server up 0; client 1 0, sent 1; server up 1; client 1 1, sent 0: ok; client 1 1, sent 1; server up 1; client 1 1, sent 0: names a; client 1 1, sent 0: names a; client 1 1, sent 0: error 40; 1 a dir 2 7; root whole")
	plays(t, "world 1 20 4 3 20 8 2 99; 1 mkdir /a 7; calm 9; 1 mkdir /a/b 5; calm 9; 1 rename /a /a/b/c; calm 9; 1 rename /a/b /b; calm 9; tree",
		"ok; client 1 0, sent 1; server up 0; client 1 0, sent 1; server up 1; client 1 1, sent 0: ok; client 1 1, sent 1; server up 2; client 1 2, sent 0: ok; client 1 2, sent 1; server up 2; client 1 2, sent 0: error 45; client 1 2, sent 1; server up 3; client 1 3, sent 0; client 1 3, sent 0: ok; 1 a dir 2 7; 1 b dir 3 5")
	plays(t, "world 1 9 4 3 8 4 2 99; 1 lookup /a; 1 lookup /a; 1 cancel; 1 crash; 1 sync; calm 9",
		"ok; client 1 0, sent 1; client 1 0, sent 0: error 80; client 1 0, sent 0: error 81; client 1 0, sent 0; client 1 0, sent 1; server up 0; server up 0; client 1 0, sent 0; client 1 0, sent 1; server up 0; client 1 0, sent 0: ok")
}
