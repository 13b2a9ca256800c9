package line_test

import (
	"errors"
	"slices"
	"strings"
	"testing"

	"furrow/api"
	"furrow/line"
)

// refused tells whether Split answers just this Fault, and no lines beside it (P4).
func refused(t *testing.T, name, s, part string, at int, inner api.Errno) {
	t.Helper()
	l, err := line.Split(s)
	if len(l) != 0 {
		t.Errorf("P4: %s: %d lines beside an error", name, len(l))
	}
	var f *api.Fault
	if !errors.As(err, &f) {
		t.Errorf("P201: %s: %v; want a Fault", name, err)
		return
	}
	if f.Part != part || f.At != at || f.Err != inner || !errors.Is(err, inner) {
		t.Errorf("P201: %s: %v; want %s %d: %v", name, err, part, at, inner)
	}
}

// taken tells whether Split answers just these lines, and Join leads back.
func taken(t *testing.T, name, s string, want []string) {
	t.Helper()
	l, err := line.Split(s)
	if err != nil || !slices.Equal(l, want) {
		t.Errorf("P201: %s: %q, %v; want %q", name, l, err, want)
	}
	if back := line.Join(l); back != s {
		t.Errorf("P201: %s: joined: %q; want %q", name, back, s)
	}
}

func TestSplit(t *testing.T) {
	for _, c := range []struct {
		s    string
		want []string
	}{
		{"", nil},
		{"\n", []string{"\n"}},
		{"\n\n", []string{"\n", "\n"}},
		{"a", []string{"a"}},
		{"a\n", []string{"a\n"}},
		{"a\nb", []string{"a\n", "b"}},
		{"\na\n\n b\n", []string{"\n", "a\n", "\n", " b\n"}},
		{"do i = 1, 9 ! all\n\tprint i\nend do\n", []string{"do i = 1, 9 ! all\n", "\tprint i\n", "end do\n"}},
		{"\t", []string{"\t"}},
	} {
		taken(t, "ordinary", c.s, c.want)
	}
}

// Each byte stands alone, within a line, and at its end: which ones may is the promise's list, byte by byte.
func TestSplitBytes(t *testing.T) {
	for n := range 256 {
		b := string([]byte{byte(n)})
		if n >= 0x20 && n <= 0x7e || n == 9 {
			taken(t, "alone", b, []string{b})
			taken(t, "within", "x\na"+b+"c\n", []string{"x\n", "a" + b + "c\n"})
			continue
		}
		if n == 0x0a {
			continue
		}
		refused(t, "alone", b, "line", 0, api.ErrWord)
		refused(t, "within", "x\na"+b+"c\n", "line", 1, api.ErrWord)
		refused(t, "last", "x\n\nc"+b, "line", 2, api.ErrWord)
		refused(t, "ahead of an end", "c"+b+"\n", "line", 0, api.ErrWord)
	}
	for _, s := range []string{"é", "\r\n", "a\r\nb", "x = “1”\n", "\ufeffa", "! größer\n"} {
		refused(t, "beyond ASCII", s, "line", 0, api.ErrWord)
	}
}

func TestSplitLongLine(t *testing.T) {
	full := strings.Repeat("x", api.MaxLine)
	taken(t, "at the bound, no end", full, []string{full})
	taken(t, "at the bound, its end too", full[1:]+"\n", []string{full[1:] + "\n"})
	taken(t, "two at the bound", full[1:]+"\n"+full, []string{full[1:] + "\n", full})
	refused(t, "one more", full+"x", "line", 0, api.ErrLong)
	refused(t, "its end is one more", full+"\n", "line", 0, api.ErrLong)
	refused(t, "the third", "a\n\n"+full+"\nb\n", "line", 2, api.ErrLong)
	refused(t, "the last", "a\n\n"+full+"x", "line", 2, api.ErrLong)
}

func TestSplitLongText(t *testing.T) {
	const each = 128
	one := strings.Repeat("x", each-1) + "\n"
	full := strings.Repeat(one, api.MaxText/each)
	taken(t, "at the bound", full, slices.Repeat([]string{one}, api.MaxText/each))
	ends := strings.Repeat("\n", api.MaxText)
	taken(t, "ends alone", ends, slices.Repeat([]string{"\n"}, api.MaxText))
	refused(t, "one more", full+"x", "text", 0, api.ErrLong)
	refused(t, "one more end", ends+"\n", "text", 0, api.ErrLong)
}

// P6: the text's length, then line by line, in each its length ahead of its bytes.
func TestSplitFirstError(t *testing.T) {
	long := strings.Repeat("x", api.MaxLine+1)
	refused(t, "text ahead of its lines", "\x00\n"+strings.Repeat("x", api.MaxText), "text", 0, api.ErrLong)
	refused(t, "one line at the text's bound", strings.Repeat("x", api.MaxText), "line", 0, api.ErrLong)
	refused(t, "long ahead of word", "a\n\x00"+long, "line", 1, api.ErrLong)
	refused(t, "long ahead of word, behind the bound", "a\n"+long+"\x00", "line", 1, api.ErrLong)
	refused(t, "word in an earlier line", "a\n\x00\n"+long, "line", 1, api.ErrWord)
	refused(t, "long in an earlier line", "a\n"+long+"\n\x00", "line", 1, api.ErrLong)
	refused(t, "the first of two words", "a\nb\x7f\n\x80\n", "line", 1, api.ErrWord)
}

func TestJoin(t *testing.T) {
	for _, c := range []struct {
		l    []string
		want string
	}{
		{nil, ""},
		{[]string{}, ""},
		{[]string{""}, ""},
		{[]string{"a"}, "a"},
		{[]string{"a\n", "b"}, "a\nb"},
		{[]string{"a", "", "b\n", "\n"}, "ab\n\n"},
		{[]string{"\x00", "\xff\n"}, "\x00\xff\n"},
	} {
		if got := line.Join(c.l); got != c.want {
			t.Errorf("P201: Join(%q): %q; want %q", c.l, got, c.want)
		}
	}
}

func TestPart(t *testing.T) {
	for _, c := range [][4]string{
		{"", "", "", ""},
		{"\n", "", "", "\n"},
		{"a", "a", "", ""},
		{"a\n", "a", "", "\n"},
		{"!", "", "!", ""},
		{"!\n", "", "!", "\n"},
		{"a!", "a", "!", ""},
		{"  x = 1 ! one ! two\n", "  x = 1 ", "! one ! two", "\n"},
		{"x!!y", "x", "!!y", ""},
		{" \t\n", " \t", "", "\n"},
		{"x  \t! \n", "x  \t", "! ", "\n"},
		{"\xff!\x00\n", "\xff", "!\x00", "\n"},
		{"a\r\n", "a\r", "", "\n"},
	} {
		body, note, end := line.Part(c[0])
		if body != c[1] || note != c[2] || end != c[3] {
			t.Errorf("P201: Part(%q): %q, %q, %q; want %q, %q, %q", c[0], body, note, end, c[1], c[2], c[3])
		}
	}
}

func TestIndent(t *testing.T) {
	for _, c := range [][2]string{
		{"", ""},
		{"\n", ""},
		{"a", ""},
		{" a", " "},
		{"\ta", "\t"},
		{"  \t a b\t\n", "  \t "},
		{" \t", " \t"},
		{" \t\n", " \t"},
		{" \n ", " "},
		{"  ! note", "  "},
		{" \r a", " "},
		{" \v\f", " "},
		{" \u00a0a", " "},
		{"\x00 ", ""},
	} {
		if got := line.Indent(c[0]); got != c[1] {
			t.Errorf("P201: Indent(%q): %q; want %q", c[0], got, c[1])
		}
	}
}

// Of every line its parts, one behind the other, are the line, and its indent begins the body.
func TestPartsAreTheLine(t *testing.T) {
	signs := []string{"", "a", " ", "\t", "!"}
	for _, a := range signs {
		for _, b := range signs {
			for _, c := range signs {
				for _, end := range []string{"", "\n"} {
					s := a + b + c + end
					body, note, tail := line.Part(s)
					if body+note+tail != s || tail != end || strings.Contains(body, "!") || note != "" && note[0] != '!' {
						t.Errorf("P201: Part(%q): %q, %q, %q", s, body, note, tail)
					}
					in := line.Indent(s)
					if !strings.HasPrefix(body, in) || strings.Trim(in, " \t") != "" || strings.TrimLeft(s[len(in):], " \t") != s[len(in):] {
						t.Errorf("P201: Indent(%q): %q", s, in)
					}
				}
			}
		}
	}
}

// P2: Join leaves its list, with the spare room, and Split answers lists that share none.
func TestMemory(t *testing.T) {
	l := []string{"a\n", "b", "spare"}
	if line.Join(l[:2]) != "a\nb" || !slices.Equal(l, []string{"a\n", "b", "spare"}) {
		t.Errorf("P2: Join changed its list: %q", l)
	}
	first, _ := line.Split("a\nb\nc")
	second, _ := line.Split("a\nb\nc")
	for i := range first {
		first[i] = "changed"
	}
	_ = append(first, "behind")
	if !slices.Equal(second, []string{"a\n", "b\n", "c"}) {
		t.Errorf("P2: two answers share memory: %q", second)
	}
}

// P3 and P5: a refused text leaves nothing behind.
func TestNothingIsKept(t *testing.T) {
	for range 3 {
		refused(t, "again", "a\n\x00", "line", 1, api.ErrWord)
		taken(t, "again", "a\nb", []string{"a\n", "b"})
	}
}
