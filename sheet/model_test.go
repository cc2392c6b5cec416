package sheet_test

import (
	"fmt"
	"math/rand"
	"regexp"
	"strconv"
	"strings"
	"testing"

	"vista/api"
	"vista/audit"
	"vista/name"
	"vista/world"
)

// model is the chapter once more, by forms that a line is held against one after the other.
type model struct {
	rules []rule
	w     *world.World
	links int
	// going is what each client's call that goes on is, if one does.
	going  map[int]api.Call
	sights []api.Sight
	said   strings.Builder
}

// rule is a command: what its line looks like, and what is done with its parts.
type rule struct {
	form *regexp.Regexp
	do   func(parts []string)
}

func newModel() *model {
	m := &model{}
	for form, do := range map[string]func([]string){
		"world N N N N N N N N":              m.world,
		"N (lookup|stat|readlink|readdir) P": m.call,
		"N (unlink|rmdir) P":                 m.call,
		"N (sync)":                           m.call,
		"N (create|mkdir|setattr) P N":       m.call,
		"N (symlink|rename) P P":             m.call,
		"(deliver|drop|double|fuse|boot) N":  m.elsewhere,
		"(cut)":                              m.elsewhere,
		"N (tick|crash|cancel)":              m.atClient,
		"(calm) N":                           m.calm,
		"(tree)":                             m.tree,
		"(cache) N":                          m.cache,
		"(letters)":                          m.letters,
		"(audit)":                            m.audit,
	} {
		pattern := strings.NewReplacer("N", `(-?[0-9]{1,9})`, "P", `([^\x20]+)`).Replace(form)
		m.rules = append(m.rules, rule{regexp.MustCompile(`\A *` + strings.ReplaceAll(pattern, " ", " +") + ` *\z`), do})
	}
	return m
}

// play tells what a text says.
func (m *model) play(text string) string {
	if len(text) > 1<<15 {
		return "refused"
	}
	for len(text) > 0 {
		line, rest, _ := strings.Cut(text, "\n")
		text = rest
		was := m.said.String()
		m.line(line)
		if m.said.Len() > 1<<20 {
			return was + "too much\n"
		}
	}
	return m.said.String()
}

func (m *model) say(form string, parts ...any) { fmt.Fprintf(&m.said, form+"\n", parts...) }

func (m *model) line(line string) {
	if bare := strings.Trim(line, " "); bare == "" || bare[0] == '#' {
		return
	}
	for _, r := range m.rules {
		parts := r.form.FindStringSubmatch(line)
		if parts == nil {
			continue
		}
		if m.w == nil && len(parts) != 9 {
			m.say("error 30")
			return
		}
		r.do(parts[1:])
		return
	}
	m.say("error 90")
}

func number(word string) int {
	n, err := strconv.Atoi(word)
	if err != nil {
		panic(err)
	}
	return n
}

// raw is the path that a word means.
func raw(word string) string {
	if word == "%" {
		return ""
	}
	var bytes []byte
	for i := 0; i < len(word); i++ {
		switch {
		case word[i] == '%' && i+2 < len(word) && word[i+1] == '2' && word[i+2] == '0':
			bytes = append(bytes, 32)
			i += 2
		case word[i] == '%' && i+1 < len(word) && word[i+1] == '0':
			bytes = append(bytes, 0)
			i++
		default:
			bytes = append(bytes, word[i])
		}
	}
	return string(bytes)
}

func (m *model) world(parts []string) {
	n := func(i int) int { return number(parts[i]) }
	w, e := world.New(api.Conf{Clients: n(0), Dentries: n(1), Negative: n(2), Links: n(3), Promises: n(4), Queue: n(5), Hold: n(6)}, n(7))
	if e != api.OK {
		m.say("error %d", int(e))
		return
	}
	m.w, m.links, m.going, m.sights = w, n(3), map[int]api.Call{}, nil
	m.say("ok")
}

// kinds of calls and events, by their words.
var modelKinds = map[string]int{
	"lookup": api.CallLookup, "stat": api.CallStat, "readlink": api.CallReadlink, "readdir": api.CallReaddir, "create": api.CallCreate, "mkdir": api.CallMkdir, "symlink": api.CallSymlink,
	"unlink": api.CallUnlink, "rmdir": api.CallRmdir, "rename": api.CallRename, "setattr": api.CallSetattr, "sync": api.CallSync,
	"deliver": api.EvDeliver, "drop": api.EvDrop, "double": api.EvDouble, "tick": api.EvTick, "crash": api.EvCrash, "cancel": api.EvCancel, "fuse": api.EvFuse, "cut": api.EvCut, "boot": api.EvBoot,
}

func (m *model) call(parts []string) {
	call := api.Call{Kind: modelKinds[parts[1]]}
	if len(parts) > 2 {
		call.Path = raw(parts[2])
	}
	if parts[1] == "symlink" || parts[1] == "rename" {
		call.Other = raw(parts[3])
	} else if len(parts) > 3 {
		call.Mode = number(parts[3])
	}
	client := number(parts[0])
	if _, busy := m.going[client]; busy {
		if m.w.Do(api.Event{Kind: api.EvCall, Client: client, Call: call}).Answer.Err != api.ErrBusy {
			panic("a client that is busy is called")
		}
		m.say("client %d %d, sent 0: error 80", client, m.w.Seen(client))
		return
	}
	if m.w.Life(client) > 0 {
		m.going[client] = call
	}
	m.step(m.w.Do(api.Event{Kind: api.EvCall, Client: client, Call: call}))
}

func (m *model) elsewhere(parts []string) {
	ev := api.Event{Kind: modelKinds[parts[0]]}
	if len(parts) > 1 {
		ev.N = number(parts[1])
	}
	m.step(m.w.Do(ev))
}

func (m *model) atClient(parts []string) {
	client := number(parts[0])
	step := m.w.Do(api.Event{Kind: modelKinds[parts[1]], Client: client})
	if parts[1] == "crash" {
		delete(m.going, client)
	}
	m.step(step)
}

func (m *model) calm(parts []string) {
	for n := number(parts[1]); n > 0 && len(m.w.Letters()) > 0; n-- {
		if number(parts[1])-n == 1000 {
			return
		}
		m.step(m.w.Do(api.Event{Kind: api.EvDeliver, N: 0}))
	}
}

// step says a step; with a call that completes the client is free.
func (m *model) step(step api.Step) {
	if step.Client == 0 {
		if m.w.Up() {
			m.say("server up %d", m.w.Version())
		} else {
			m.say("server down")
		}
		return
	}
	head := fmt.Sprintf("client %d %d, sent %d", step.Client, m.w.Seen(step.Client), step.Sent)
	if !step.Done {
		m.say("%s", head)
		return
	}
	call := m.going[step.Client]
	delete(m.going, step.Client)
	m.say("%s: %s", head, m.answer(call, step.Answer))
	_, _, e := name.Split(call.Path)
	if call.Kind >= api.CallLookup && call.Kind <= api.CallReaddir && e == api.OK && step.Answer.Err != api.ErrCancelled {
		m.sights = append(m.sights, api.Sight{Client: step.Client, Life: m.w.Life(step.Client), Version: m.w.Seen(step.Client), Call: call, Answer: step.Answer})
	}
}

func (m *model) answer(call api.Call, answer api.Answer) string {
	if answer.Err != 0 {
		return fmt.Sprintf("error %d", int(answer.Err))
	}
	switch call.Kind {
	case api.CallReaddir:
		return strings.Join(append([]string{"names"}, answer.Names...), " ")
	case api.CallLookup, api.CallStat, api.CallReadlink:
		return m.node(answer.Node)
	}
	return "ok"
}

func (m *model) node(n api.Node) string {
	if n.Kind != api.KindLink {
		return fmt.Sprintf("%s %d %d", []string{1: "dir", 2: "file"}[n.Kind], n.ID, n.Mode)
	}
	return fmt.Sprintf("link %d %d %s", n.ID, n.Mode, strings.Join(strings.Split(n.Target, " "), "%20"))
}

func (m *model) tree([]string) {
	for _, e := range m.w.Tree() {
		m.say("%d %s %s", e.Key.Dir, e.Key.Name, m.node(e.Node))
	}
}

func (m *model) cache(parts []string) {
	client := number(parts[1])
	for _, e := range m.w.Entries(client) {
		what, whole := "none", ""
		if !e.Neg {
			what = m.node(e.Node)
		}
		if !e.Neg && e.Node.Kind == api.KindDir && m.w.Whole(client, e.Node.ID) {
			whole = " whole"
		}
		m.say("%d %s %s%s", e.Key.Dir, e.Key.Name, what, whole)
	}
	if m.w.Whole(client, 1) {
		m.say("root whole")
	}
}

func (m *model) letters([]string) {
	for _, l := range m.w.Letters() {
		m.say("to %d, %d bytes", l.To, len(l.Bytes))
	}
}

func (m *model) audit([]string) {
	m.say("audit %d", audit.Check(m.w.History(), m.sights, m.links))
}

// agrees fails if a text says anything else than by the model, or if other reads are seen.
func agrees(t *testing.T, text string) {
	t.Helper()
	m := newModel()
	want := m.play(text)
	if got := says(t, text); got != want {
		t.Errorf("%q says\n%s\nnot\n%s", short(text), short(got), short(want))
	}
	if got := played(text).Sights(); fmt.Sprint(got) != fmt.Sprint(m.sights) {
		t.Errorf("%q: the reads that have completed are\n%v\nnot\n%v", short(text), got, m.sights)
	}
}

func TestModelOfExamples(t *testing.T) {
	for _, x := range examples() {
		agrees(t, strings.Join(x.lines, "\n"))
	}
	agrees(t, made)
	agrees(t, "world 1 1 1 0 8 4 2 99\n1 mkdir /a 1\ncalm 9\n1 mkdir /a/b 2\ncalm 9\n1 mkdir /a/b/c 3\ncalm 99\n1 crash\n1 lookup /a/b/c\ncalm 1001\ncalm -5\ncalm 3")
	for _, form := range forms() {
		agrees(t, filled(form)+"\n"+made+filled(form)+"\n"+filled(form)+"\ncalm 9\n"+filled(form))
	}
}

func TestModelOfStorms(t *testing.T) {
	storms(t, 400, 250, func(text string) { agrees(t, text) })
	storms(t, 25, 1200, func(text string) { agrees(t, text) })
}

// Texts of few words, most of which are no sheets.
func TestModelOfAnyWords(t *testing.T) {
	words := []string{
		"1", "2", "1", "2", "-1", "0", "9", "-", "000000001", "0000000001", "7", "world", "lookup", "stat", "readdir", "readlink", "mkdir", "create", "symlink", "rename", "unlink", "rmdir", "setattr", "sync",
		"tick", "crash", "cancel", "deliver", "drop", "double", "fuse", "cut", "boot", "calm", "tree", "cache", "letters", "audit", "/a", "/", "/a/b", "%", "%20", "%0", "/%20", "/%0", "#", "x", "\t", "\xff", "é",
	}
	for seed := range 400 {
		r := rand.New(rand.NewSource(int64(seed)))
		text := ""
		if seed%4 > 0 {
			text = begin
		}
		for range 300 {
			// Half of the ends of words are as a right line has them.
			text += words[r.Intn(len(words))] + []string{" ", " ", " ", "  ", "\n", "\n", "\n ", "\n\n", "", "\r\n"}[r.Intn(10)]
		}
		agrees(t, text)
		if t.Failed() {
			t.Fatalf("at the seed %d", seed)
		}
	}
}

// Right lines, of which one byte is another one.
func TestModelOfOtherBytes(t *testing.T) {
	for seed := range 150 {
		r := rand.New(rand.NewSource(int64(seed)))
		text := []byte(newStorm(seed).sheet(60))
		for range 1 + r.Intn(20) {
			text[r.Intn(len(text))] = byte(r.Intn(256))
		}
		for range r.Intn(10) {
			text[r.Intn(len(text))] = " \n#%-/09"[r.Intn(8)]
		}
		agrees(t, string(text))
		if t.Failed() {
			t.Fatalf("at the seed %d", seed)
		}
	}
}
