package sheet_test

import (
	"math/rand"
	"strconv"
	"strings"
)

// storm makes up sheets in which messages are lost, doubled and late, the power is cut, and clients crash.
type storm struct {
	r *rand.Rand
	// clients and the number beyond them are called.
	clients int
	// Of a hundred lines: how many deliver letters, how many lose or double one, and how many are trouble of another kind.
	deliver, lose, trouble int
	// odd of a hundred lines are none, or make or refuse a world.
	odd int
}

// newStorm is one of its own for each seed.
func newStorm(seed int) *storm {
	r := rand.New(rand.NewSource(int64(seed)))
	return &storm{r: r, clients: 1 + r.Intn(4), deliver: 35 + r.Intn(25), lose: r.Intn(15), trouble: r.Intn(8), odd: r.Intn(5)}
}

// sheet has that many lines, behind the one that makes a world.
func (s *storm) sheet(lines int) string {
	text := s.world() + "\n"
	for range lines {
		text += s.line() + "\n"
	}
	return text
}

// world is a line that makes a world.
func (s *storm) world() string {
	numbers := []int{s.clients, 1 + s.r.Intn(20), 1 + s.r.Intn(6), s.r.Intn(4), 1 + s.r.Intn(12), 1 + s.r.Intn(6), s.r.Intn(5), 9 + s.r.Intn(90)}
	line := "world"
	for _, n := range numbers {
		line += " " + strconv.Itoa(n)
	}
	return line
}

// one is any of some words.
func (s *storm) one(words ...string) string { return words[s.r.Intn(len(words))] }

// line is any.
func (s *storm) line() string {
	chance := s.r.Intn(100)
	for _, sort := range []struct {
		share int
		line  func() string
	}{{s.deliver, s.arrival}, {s.lose, s.loss}, {s.trouble, s.mishap}, {s.odd, s.oddity}, {4, s.question}, {4, s.start}} {
		if chance -= sort.share; chance < 0 {
			return sort.line()
		}
	}
	return s.call()
}

// arrival delivers letters, mostly the first one.
func (s *storm) arrival() string {
	return s.one("deliver 0", "deliver 0", "deliver 0", "calm 1", "calm 3", "calm 9", "deliver "+strconv.Itoa(s.r.Intn(9)-4))
}

// loss loses a letter, or doubles it.
func (s *storm) loss() string {
	return s.one("drop ", "double ", "double ") + strconv.Itoa(s.r.Intn(9)-4)
}

// client is one's number, now and then of none.
func (s *storm) client() string { return strconv.Itoa(1 + s.r.Intn(s.clients*20+1)/20) }

// mishap befalls a client or the server.
func (s *storm) mishap() string {
	return s.one(s.client()+" crash", s.client()+" cancel", s.client()+" cancel", "cut", "fuse "+strconv.Itoa(s.r.Intn(9)-1), "fuse "+strconv.Itoa(s.r.Intn(4)))
}

// start helps what has stopped.
func (s *storm) start() string {
	return s.one("boot -1", "boot -1", "boot "+strconv.Itoa(s.r.Intn(9)), s.client()+" tick", s.client()+" tick", "calm 40")
}

// question asks what there is.
func (s *storm) question() string {
	return s.one("tree", "cache "+s.client(), "cache "+s.client(), "letters", "audit")
}

// oddity is no command, or does little, or begins anew.
func (s *storm) oddity() string {
	return s.one("", "  ", "#", "# 1 lookup /a", "hop", "1", s.client()+" lookup", "tree 1", "calm", "- tick", "1 mkdir /a 0000000007", "1 create /a -1", " "+s.call()+"  ", strings.ReplaceAll(s.call(), " ", "  "),
		"world 0 1 1 1 1 1 1 9", "world 1 1 1 1 1 1 1", s.world(), "1 lookup %0", "\ttree", "tree\r", "1 stat /\xff", "calm -3", "cut 1", s.one(forms()...), filled(s.one(forms()...)))
}

// path is a raw one.
func (s *storm) path() string {
	if s.r.Intn(40) == 0 {
		return s.one("%", "%0", "a", "/..", "/abcdefghijklm", "/%0", "/a/"+strings.Repeat("b/", 47), "/%20", "/\xff%20")
	}
	path := ""
	for range 1 + s.r.Intn(3) {
		path += "/" + s.one("a", "b", "c", "d%20d", "l", "l", "..")
	}
	return path + s.one("", "", "", "/", "/.")
}

// mode is a number that may be one.
func (s *storm) mode() string { return strconv.Itoa(s.r.Intn(530)) }

// call calls a client.
func (s *storm) call() string {
	head := s.client() + " "
	if s.r.Intn(2) == 0 {
		return head + s.one("lookup ", "stat ", "readlink ", "readdir ") + s.one("/", s.path(), s.path(), s.path(), s.path())
	}
	switch s.r.Intn(8) {
	case 0:
		return head + "sync"
	case 1:
		return head + s.one("unlink ", "rmdir ") + s.path()
	case 2:
		return head + "rename " + s.path() + " " + s.path()
	case 3:
		return head + "symlink " + s.path() + " " + s.one("a", "/a", "l", "../b", "d%20d", "/l", "x%20y/", ".", "/", s.path())
	case 4:
		return head + "create " + s.path() + " " + s.mode()
	case 5:
		return head + "setattr " + s.path() + " " + s.mode()
	}
	return head + "mkdir " + s.path() + " " + s.mode()
}
