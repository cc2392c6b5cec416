package sheet_test

import (
	"strings"
	"sync"
	"testing"
)

// P18.6

// storms does something with many made-up sheets.
func storms(t *testing.T, many, lines int, do func(text string)) {
	t.Helper()
	for seed := range many {
		do(newStorm(seed).sheet(lines))
		if t.Failed() {
			t.Fatalf("at the seed %d", seed)
		}
	}
}

// What is cut behind each of its lines says the beginning, with the line's end and without it.
func TestCutBehindEachLine(t *testing.T) {
	cuts := func(text string) {
		whole, was := says(t, text), ""
		for i, b := range []byte(text) {
			if b != '\n' {
				continue
			}
			got := says(t, text[:i])
			if with := says(t, text[:i+1]); with != got || !strings.HasPrefix(whole, got) || !strings.HasPrefix(got, was) {
				t.Errorf("%q says %q, and %q with the end of its last line; the whole says %q", short(text[:i]), short(got), short(with), short(whole))
			}
			was = got
		}
		if was != whole && strings.HasSuffix(text, "\n") {
			t.Errorf("%q says more behind its last line: %q, %q", short(text), short(was), short(whole))
		}
	}
	for _, x := range examples() {
		cuts(strings.Join(x.lines, "\n") + "\n")
		cuts("\n" + strings.Join(x.lines, "\n"))
	}
	cuts(made)
	storms(t, 60, 120, cuts)
	text := upTo(t, full-5)
	for _, more := range []string{"", "hop", "hop\n", "tree\nhop\nhop\n", "tree"} {
		was, whole := says(t, text+"\n"), says(t, text+more)
		if !strings.HasPrefix(whole, was) {
			t.Errorf("%q: %q", more, short(whole))
		}
	}
}

// What is said hangs on nothing but the text: not on what was played ahead of it, nor beside it.
func TestTextAlone(t *testing.T) {
	before := ""
	storms(t, 100, 150, func(text string) {
		want := says(t, text)
		for range 3 {
			says(t, before)
			if got := says(t, text); got != want {
				t.Errorf("%q says\n%s\nnow, and\n%s\nahead of it", short(text), short(got), short(want))
			}
		}
		before = text
	})
}

func TestSheetsBesideEachOther(t *testing.T) {
	texts, want := make([]string, 16), make([]string, 16)
	for i := range texts {
		texts[i] = newStorm(i).sheet(200)
		want[i] = says(t, texts[i])
	}
	for range 4 {
		got := make([]string, len(texts))
		var all sync.WaitGroup
		for i := range texts {
			all.Go(func() { got[i] = says(t, texts[i]) })
		}
		all.Wait()
		for i := range texts {
			if got[i] != want[i] {
				t.Errorf("%q says other things beside others", short(texts[i]))
			}
		}
	}
}

// A sheet that begins with a world says the same behind the lines of another one.
func TestBehindOtherLines(t *testing.T) {
	before := "hop\ntree\n1 lookup /a\n"
	storms(t, 150, 100, func(text string) {
		if got, want := says(t, before+text), says(t, before)+says(t, text); got != want {
			t.Errorf("%q behind %q says\n%s\nnot\n%s", short(text), short(before), short(got), short(want))
		}
		before = text
	})
}

// Lines that say nothing, and lines that are none, change nothing else.
func TestLinesBetween(t *testing.T) {
	storms(t, 40, 100, func(text string) {
		lines := strings.SplitAfter(text, "\n")
		quiet := strings.Join(lines, "\n#\n  \n") + "# "
		if got, want := says(t, quiet), says(t, text); got != want {
			t.Errorf("%q with lines that say nothing says\n%s\nnot\n%s", short(text), short(got), short(want))
		}
		loud, said := "", ""
		for _, line := range lines {
			loud += line + "1 hop /a\n"
		}
		for _, line := range pieces(text) {
			said += line + "error 90\n"
		}
		if got := says(t, loud); got != said {
			t.Errorf("%q with lines that are none says\n%s\nnot\n%s", short(text), short(got), short(said))
		}
	})
}

// pieces is what each line of a text says.
func pieces(text string) []string {
	p := played("")
	var all []string
	for _, line := range strings.Split(text, "\n") {
		all = append(all, p.Line(line))
	}
	return all
}

// Whatever befalls a world, what was read in it can be explained.
func TestAuditOfStorms(t *testing.T) {
	reads, downs, counts := 0, 0, map[string]int{}
	storms(t, 200, 900, func(text string) {
		text += "audit\ncut\nboot -1\ncalm 99\naudit"
		said := says(t, text)
		for _, line := range strings.Split(said, "\n") {
			if strings.HasPrefix(line, "audit ") && line != "audit -1" {
				t.Errorf("%q says %q", short(text), line)
			}
			for _, part := range []string{": dir ", ": file ", ": link ", ": names", ": ok", "audit -1", ": error 40", ": error 80", ": error 81", " whole", " none"} {
				if strings.Contains(line, part) {
					counts[part]++
				}
			}
			downs += strings.Count(line, "server down")
		}
		reads += len(played(text).Sights())
	})
	for part, n := range counts {
		if n < 50 {
			t.Errorf("%d lines with %q", n, part)
		}
	}
	if len(counts) < 11 || reads < 5000 || downs < 500 {
		t.Errorf("%d reads, %d times down, %v", reads, downs, counts)
	}
}

// The events of one sheet, with all that may befall a world in turn.
func TestAuditOfTrouble(t *testing.T) {
	for _, links := range []string{"0", "1", "3", "8"} {
		text := "world 3 6 3 " + links + " 4 3 3 60\n"
		for i, trouble := range []string{"drop 0", "double 0\ndouble -1", "deliver -1", "deliver 1\ndeliver 1", "cut\nboot -1", "fuse 0\ncalm 9\nboot 0\nboot 1\nboot -1", "fuse 2\ncalm 20\nboot -1", "1 crash", "2 crash\n2 tick", "1 cancel", "3 crash\ndouble 0", "cut\ncalm 40\nboot -1\n1 tick\n2 tick\n3 tick"} {
			name := string('a' + rune(i))
			for _, line := range []string{"1 mkdir /" + name + " 7", "2 create /" + name + "/f 1", "3 symlink /" + name + "/l ../" + name, "1 rename /" + name + "/f /" + name + "/g", "2 readdir /" + name, "3 lookup /" + name + "/l/l/g", "1 stat /" + name + "/f", "2 unlink /" + name + "/g", "3 readdir /", "1 rename /" + name + " /z" + name} {
				text += line + "\ncalm 2\n" + trouble + "\n2 lookup /" + name + "/f\ncalm 3\naudit\n1 tick\n2 tick\n3 tick\ncalm 30\n3 lookup /" + name + "/l\ncalm 20\naudit\n"
			}
			said := says(t, text)
			if n := strings.Count(said, "audit -1\n"); n != 20*(i+1) || strings.Count(said, "audit") != n {
				t.Fatalf("behind %q, with %s links: %d of %d audits are -1", trouble, links, n, strings.Count(said, "audit"))
			}
		}
	}
}
