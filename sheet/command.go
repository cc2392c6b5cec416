package sheet

import (
	"slices"
	"strings"

	"vista/api"
)

// command is what a line can ask for.
type command struct {
	// form has a letter for each word beside the command's name: N for a number, P for a path.
	form string
	// kind is that of the call or the event, where there is one.
	kind int
	do   func(kind int, a args) string
}

// args are a command's numbers and paths, in their order; what its form does not ask for is zero.
type args struct {
	numbers [8]int
	paths   [2]string
}

// commands are found by their names; ahead of the name of one that is a client's stands a C, as in the document's table.
func (p *player) commands() map[string]command {
	return map[string]command{
		"world":      {"NNNNNNNN", 0, p.begin},
		"C lookup":   {"NP", api.CallLookup, p.call},
		"C stat":     {"NP", api.CallStat, p.call},
		"C readlink": {"NP", api.CallReadlink, p.call},
		"C readdir":  {"NP", api.CallReaddir, p.call},
		"C unlink":   {"NP", api.CallUnlink, p.call},
		"C rmdir":    {"NP", api.CallRmdir, p.call},
		"C sync":     {"N", api.CallSync, p.call},
		"C create":   {"NPN", api.CallCreate, p.call},
		"C mkdir":    {"NPN", api.CallMkdir, p.call},
		"C setattr":  {"NPN", api.CallSetattr, p.call},
		"C symlink":  {"NPP", api.CallSymlink, p.call},
		"C rename":   {"NPP", api.CallRename, p.call},
		"C tick":     {"N", api.EvTick, p.atClient},
		"C crash":    {"N", api.EvCrash, p.atClient},
		"C cancel":   {"N", api.EvCancel, p.atClient},
		"deliver":    {"N", api.EvDeliver, p.elsewhere},
		"drop":       {"N", api.EvDrop, p.elsewhere},
		"double":     {"N", api.EvDouble, p.elsewhere},
		"fuse":       {"N", api.EvFuse, p.elsewhere},
		"cut":        {"", api.EvCut, p.elsewhere},
		"boot":       {"N", api.EvBoot, p.elsewhere},
		"calm":       {"N", 0, p.calm},
		"tree":       {"", 0, p.tree},
		"cache":      {"N", 0, p.cache},
		"letters":    {"", 0, p.letters},
		"audit":      {"", 0, p.audit},
	}
}

// line plays a line, and tells what it says.
func (p *player) line(text string) string {
	words := strings.FieldsFunc(text, isBlank)
	if len(words) == 0 || strings.HasPrefix(words[0], "#") {
		return ""
	}
	name, rest := named(words)
	asked, is := p.known[name]
	a, fits := read(asked.form, rest)
	switch {
	case !is || !fits:
		return api.ErrSheet.Error() + "\n"
	case p.world == nil && name != "world":
		return api.ErrNone.Error() + "\n"
	}
	return asked.do(asked.kind, a)
}

// isBlank tells what words are cut by: by no other white space.
func isBlank(r rune) bool { return r == ' ' }

// named tells a command's name and the words beside it. A client stands ahead of what it does.
func named(words []string) (string, []string) {
	if _, ok := number(words[0]); ok && len(words) > 1 {
		return "C " + words[1], slices.Concat(words[:1], words[2:])
	}
	return words[0], words[1:]
}

// read takes words as a form asks for them.
func read(form string, words []string) (args, bool) {
	if len(words) != len(form) {
		return args{}, false
	}
	var a args
	numbers, paths := 0, 0
	for i, want := range form {
		if want == 'P' {
			a.paths[paths] = path(words[i])
			paths++
			continue
		}
		n, ok := number(words[i])
		if !ok {
			return args{}, false
		}
		a.numbers[numbers] = n
		numbers++
	}
	return a, true
}

// number is what a word says in digits.
func number(word string) (int, bool) {
	digits, below := strings.CutPrefix(word, "-")
	if len(digits) < 1 || len(digits) > 9 {
		return 0, false
	}
	n := 0
	for _, r := range digits {
		if r < '0' || r > '9' {
			return 0, false
		}
		n = 10*n + int(r-'0')
	}
	if below {
		n = -n
	}
	return n, true
}

// path is the raw path that a word means: a word can't be empty, nor hold a blank.
func path(word string) string {
	if word == "%" {
		return ""
	}
	var raw strings.Builder
	// What stands ahead of from is in raw. Bytes that are no text are taken from the word as they are.
	from := 0
	for i, r := range word {
		if r != '%' {
			continue
		}
		if mark, means := escape(word[i:]); mark != "" {
			raw.WriteString(word[from:i] + means)
			from = i + len(mark)
		}
	}
	raw.WriteString(word[from:])
	return raw.String()
}

// escape is how a text begins, if that means a byte that no word can hold.
func escape(text string) (mark, means string) {
	switch {
	case strings.HasPrefix(text, "%20"):
		return "%20", " "
	case strings.HasPrefix(text, "%0"):
		return "%0", "\x00"
	}
	return "", ""
}
