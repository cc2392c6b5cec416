package sheet

import (
	"strconv"
	"strings"

	"vista/api"
	"vista/audit"
)

// tree tells the server's tree.
func (p *player) tree(int, args) string {
	var said strings.Builder
	for _, e := range p.world.Tree() {
		said.WriteString(ofKey(e.Key) + " " + ofNode(e.Node) + "\n")
	}
	return said.String()
}

// cache tells what a client has cached.
func (p *player) cache(_ int, a args) string {
	client := a.numbers[0]
	var said strings.Builder
	for _, e := range p.world.Entries(client) {
		said.WriteString(ofKey(e.Key) + " " + p.cached(client, e) + "\n")
	}
	if p.world.Whole(client, api.Root) {
		said.WriteString("root whole\n")
	}
	return said.String()
}

// cached tells what an entry of a client's cache says.
func (p *player) cached(client int, e api.Entry) string {
	switch {
	case e.Neg:
		return "none"
	case e.Node.Kind == api.KindDir && p.world.Whole(client, e.Node.ID):
		return ofNode(e.Node) + " whole"
	}
	return ofNode(e.Node)
}

// letters tells what is in flight.
func (p *player) letters(int, args) string {
	var said strings.Builder
	for _, l := range p.world.Letters() {
		said.WriteString("to " + strconv.Itoa(l.To) + ", " + strconv.Itoa(len(l.Bytes)) + " bytes\n")
	}
	return said.String()
}

// audit tells whether the world's history explains what its clients have seen.
func (p *player) audit(int, args) string {
	return "audit " + strconv.Itoa(audit.Check(p.world.History(), p.sights, p.links)) + "\n"
}

// ofStep tells a step; kind is that of the call that has completed with it, if one has.
func ofStep(step api.Step, kind int) string {
	switch {
	case step.Client == 0 && step.Up:
		return "server up " + strconv.Itoa(step.Server) + "\n"
	case step.Client == 0:
		return "server down\n"
	}
	said := "client " + strconv.Itoa(step.Client) + " " + strconv.Itoa(step.Version) + ", sent " + strconv.Itoa(step.Sent)
	if step.Done {
		said += ": " + ofAnswer(step.Answer, kind)
	}
	return said + "\n"
}

// ofAnswer tells what a call of a kind has come to.
func ofAnswer(answer api.Answer, kind int) string {
	switch {
	case answer.Err != api.OK:
		return answer.Err.Error()
	case kind == api.CallReaddir:
		return ofNames(answer.Names)
	case isRead(kind):
		return ofNode(answer.Node)
	}
	return "ok"
}

// ofNames tells the names in a directory.
func ofNames(names []string) string {
	said := "names"
	for _, name := range names {
		said += " " + name
	}
	return said
}

// ofKey tells where an entry is.
func ofKey(key api.Key) string { return strconv.Itoa(key.Dir) + " " + key.Name }

// ofNode tells a node.
func ofNode(n api.Node) string {
	said := " " + strconv.Itoa(n.ID) + " " + strconv.Itoa(n.Mode)
	switch n.Kind {
	case api.KindDir:
		return "dir" + said
	case api.KindFile:
		return "file" + said
	}
	// Told so, a target is one word, as it was on the sheet.
	return "link" + said + " " + strings.ReplaceAll(n.Target, " ", "%20")
}
