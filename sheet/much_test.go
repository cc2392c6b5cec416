package sheet_test

import (
	"strings"
	"testing"

	"vista/api"
	"vista/sheet"
)

// P18.5

// full is how much a sheet says at most.
const full = 1 << 20

// upTo is a text that says just n bytes, by lines that leave the world as crowded makes it.
func upTo(t *testing.T, n int) string {
	t.Helper()
	text := begin + "1 lookup /a\n" + strings.Repeat("double 0\n", api.MaxBag-1)
	left := n - len(says(t, text))
	const letters = 15 * api.MaxBag
	// The rest is said by lines of 19, 12 and 9 bytes; some of it is left for them.
	many := left/letters - 1
	text += strings.Repeat("letters\n", many)
	left -= many * letters
	for ; left%3 != 0; left -= 19 {
		text += "1 tick\n"
	}
	for ; left%9 != 0; left -= 12 {
		text += "fuse -1\n"
	}
	text += strings.Repeat("hop\n", left/9)
	if got := says(t, text); len(got) != n || strings.Contains(got, "too much") {
		t.Fatalf("%d bytes, not %d", len(got), n)
	}
	return text
}

func TestJustFull(t *testing.T) {
	text := upTo(t, full)
	was := says(t, text)
	// What says nothing may come still, and the sheet goes on behind it.
	for _, line := range []string{"", "\n\n\n", "#", " ", "tree", "cache 1", "cache -1", "calm 0", "calm -1", "tree\ncalm 0\n# tree\ncache 2"} {
		if got := says(t, text+line); got != was {
			t.Errorf("%q behind %d bytes: %s", line, full, short(got))
		}
		if got := says(t, text+line+"\nhop\nhop\ntree"); got != was+"too much\n" {
			t.Errorf("%q and more behind %d bytes: %s", line, full, short(got))
		}
	}
	for _, line := range []string{"hop", "letters", "1 tick", "deliver 0", "calm 1", "calm 9", "audit", "cut", begin, "world 0 9 4 3 8 4 2 99", "1 create / 1"} {
		for _, more := range []string{"", "\n", "\ntree\nhop\n" + begin + "letters"} {
			if got := says(t, text+line+more); got != was+"too much\n" {
				t.Errorf("%q behind %d bytes: %s", line+more, full, short(got))
			}
		}
	}
}

// limited is what the lines of a text say, each played apart, up to the one that says too much.
func limited(text string) string {
	p := sheet.NewPlayer()
	var said strings.Builder
	for _, line := range strings.Split(text, "\n") {
		says := p.Line(line)
		if said.Len()+len(says) > full {
			return said.String() + "too much\n"
		}
		said.WriteString(says)
	}
	return said.String()
}

// Near the end a line is said if it has room, wholly or not at all.
func TestNearlyFull(t *testing.T) {
	for _, room := range []int{1, 2, 3, 8, 9, 11, 12, 18, 19, 23, 24, 959, 960} {
		text := upTo(t, full-room)
		was := says(t, text)
		for line, bytes := range map[string]int{"hop": 9, "fuse -1": 12, "1 tick": 19, "calm 2": 24, "letters": 960, "audit": 9, "tree": 0, begin: 3, "cut": 12} {
			want := was + "too much\n"
			if bytes <= room {
				want = was + strings.TrimPrefix(limited(text+line), was)
			}
			got := says(t, text+line)
			if got != want || bytes <= room && len(got) != len(was)+bytes {
				t.Errorf("%q with room for %d bytes: it ends with %q, not %q", line, room, got[max(0, len(got)-40):], want[max(0, len(want)-40):])
			}
			more := text + line + "\nhop\nfuse -1\nletters\nhop\nhop"
			if got, want := says(t, more), limited(more); got != want {
				t.Errorf("%q and more with room for %d bytes: it ends with %q, not %q", line, room, got[max(0, len(got)-40):], want[max(0, len(want)-40):])
			}
		}
	}
}

// A line may say very much at once; where it says too much, none of it is said.
func TestTooMuchAtOnce(t *testing.T) {
	endless := "world 1 1 1 0 8 4 2 99\n1 mkdir /a 1\ncalm 9\n1 mkdir /a/b 2\ncalm 9\n1 mkdir /a/b/c 3\ncalm 99\n1 crash\n1 lookup /a/b/c\n"
	text := endless + strings.Repeat("calm 1000\n", 90) + "tree\nhop"
	got := says(t, text)
	if want := limited(text); got != want {
		t.Errorf("it says %d bytes, not %d: %s", len(got), len(want), short(got))
	}
	if len(got) < full-18000 || !strings.HasSuffix(got, "\ntoo much\n") {
		t.Errorf("%d bytes: %s", len(got), short(got))
	}
}
