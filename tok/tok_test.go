package tok_test

import (
	"errors"
	"math"
	"math/big"
	"regexp"
	"slices"
	"strconv"
	"strings"
	"testing"

	"furrow/api"
	"furrow/line"
	"furrow/tok"
)

const keys = "integer do end if then else read print"

func name(at int, s string) tok.Tok { return tok.Tok{Kind: tok.Name, Text: s, At: at} }
func key(at int, s string) tok.Tok  { return tok.Tok{Kind: tok.Key, Text: s, At: at} }
func sign(at int, s string) tok.Tok { return tok.Tok{Kind: tok.Sign, Text: s, At: at} }
func number(at int, s string, n int64) tok.Tok {
	return tok.Tok{Kind: tok.Number, Text: s, At: at, N: n}
}

// taken tells whether Line answers just these words, all fields of each (P4).
func taken(t *testing.T, s string, want ...tok.Tok) {
	t.Helper()
	l, err := tok.Line(s)
	if err != nil || !slices.Equal(l, want) {
		t.Errorf("P401: Line(%q): %v, %v; want %v", s, l, err, want)
	}
}

// refused tells whether Line answers just this Fault, and no words beside it (P4).
func refused(t *testing.T, s string, at int, inner api.Errno) {
	t.Helper()
	l, err := tok.Line(s)
	if len(l) != 0 {
		t.Errorf("P4: Line(%q): %v beside an error", s, l)
	}
	var f *api.Fault
	if !errors.As(err, &f) {
		t.Errorf("P401: Line(%q): %v; want a Fault", s, err)
		return
	}
	if f.Part != "word" || f.At != at || f.Err != inner || !errors.Is(err, inner) {
		t.Errorf("P401: Line(%q): %v; want word %d: %v", s, err, at, inner)
	}
}

func TestKindsAreTheFace(t *testing.T) {
	if tok.Name != 1 || tok.Number != 2 || tok.Sign != 3 || tok.Key != 4 {
		t.Error("P401: the kinds' numbers")
	}
}

func TestLine(t *testing.T) {
	taken(t, "")
	taken(t, " ")
	taken(t, "\t \t")
	taken(t, "x", name(0, "x"))
	taken(t, "x y\tz", name(0, "x"), name(2, "y"), name(4, "z"))
	taken(t, " \t x_1\t", name(3, "x_1"))
	taken(t, "a__ z9_0", name(0, "a__"), name(4, "z9_0"))
	taken(t, "a1b2", name(0, "a1b2"))
	taken(t, "do i = 1, n", key(0, "do"), name(3, "i"), sign(5, "="), number(7, "1", 1), sign(8, ","), name(10, "n"))
	taken(t, "a(i+1)=-b/2", name(0, "a"), sign(1, "("), name(2, "i"), sign(3, "+"), number(4, "1", 1), sign(5, ")"),
		sign(6, "="), sign(7, "-"), name(8, "b"), sign(9, "/"), number(10, "2", 2))
	taken(t, "if (x /= 7) then", key(0, "if"), sign(3, "("), name(4, "x"), sign(6, "/="), number(9, "7", 7), sign(10, ")"), key(12, "then"))
	taken(t, "end do", key(0, "end"), key(4, "do"))
	taken(t, "enddo", name(0, "enddo"))
	taken(t, "print(3)", key(0, "print"), sign(5, "("), number(6, "3", 3), sign(7, ")"))
}

func TestKeysInALine(t *testing.T) {
	for k := range strings.FieldsSeq(keys) {
		taken(t, " "+k, key(1, k))
		for _, more := range []string{"s", "_", "0"} {
			taken(t, k+more, name(0, k+more))
		}
		taken(t, "x"+k, name(0, "x"+k))
		refused(t, strings.ToUpper(k), 0, api.ErrWord)
	}
}

func TestSigns(t *testing.T) {
	for _, s := range strings.Fields("<= >= == /= + - * / ( ) , = < >") {
		taken(t, s, sign(0, s))
		taken(t, "\t"+s+" ", sign(1, s))
		taken(t, "a"+s+"1", name(0, "a"), sign(1, s), number(1+len(s), "1", 1))
		taken(t, "1"+s+"a", number(0, "1", 1), sign(1, s), name(1+len(s), "a"))
	}
	taken(t, "===", sign(0, "=="), sign(2, "="))
	taken(t, "====", sign(0, "=="), sign(2, "=="))
	taken(t, "<==", sign(0, "<="), sign(2, "="))
	taken(t, "=<", sign(0, "="), sign(1, "<"))
	taken(t, "<>", sign(0, "<"), sign(1, ">"))
	taken(t, "< =", sign(0, "<"), sign(2, "="))
	taken(t, "//=", sign(0, "/"), sign(1, "/="))
	taken(t, "+=", sign(0, "+"), sign(1, "="))
	taken(t, "**", sign(0, "*"), sign(1, "*"))
	taken(t, "--", sign(0, "-"), sign(1, "-"))
	taken(t, "(=", sign(0, "("), sign(1, "="))
}

func TestNumbers(t *testing.T) {
	for _, n := range []int64{0, 1, 9, 10, 99, 1 << 31, 1 << 32, 999999999999999999, math.MaxInt64 / 10, math.MaxInt64/10 + 1, math.MaxInt64 - 1, math.MaxInt64} {
		s := strconv.FormatInt(n, 10)
		taken(t, s, number(0, s, n))
		taken(t, "000"+s, number(0, "000"+s, n))
		taken(t, "-"+s, sign(0, "-"), number(1, s, n))
	}
	zeros := strings.Repeat("0", 150)
	taken(t, zeros, number(0, zeros, 0))
	taken(t, zeros+"42", number(0, zeros+"42", 42))
	taken(t, "1 2", number(0, "1", 1), number(2, "2", 2))
}

// Above 2^63 - 1: the next ones, those round each power of 2 where a word of 64 bits has gone round, and long ones.
func TestNumbersThatAreTooGreat(t *testing.T) {
	for _, p := range []uint{63, 64, 65, 66, 67, 128} {
		for d := range int64(12) {
			n := new(big.Int).Lsh(big.NewInt(1), p)
			s := n.Add(n, big.NewInt(d)).String()
			refused(t, s, 0, api.ErrOver)
			refused(t, "x = -0"+s+" ", 5, api.ErrOver)
		}
	}
	for d := range 10 {
		refused(t, "922337203685477581"+strconv.Itoa(d), 0, api.ErrOver)
	}
	refused(t, strings.Repeat("9", 199), 0, api.ErrOver)
	refused(t, "1"+strings.Repeat("0", 64), 0, api.ErrOver)
}

func TestLongNames(t *testing.T) {
	full := "a" + strings.Repeat("_", api.MaxName-3) + "9z"
	taken(t, full, name(0, full))
	taken(t, " "+full+"+"+full, name(1, full), sign(32, "+"), name(33, full))
	refused(t, full+"a", 0, api.ErrLong)
	refused(t, full+"_", 0, api.ErrLong)
	refused(t, "x = "+full+"0", 4, api.ErrLong)
	refused(t, strings.Repeat("do", 16), 0, api.ErrLong)
	refused(t, strings.Repeat("q", 5000), 0, api.ErrLong)
}

// Each byte alone, and behind a word: what begins a word is the promise's list, byte by byte.
func TestBytes(t *testing.T) {
	for n := range 256 {
		b := string([]byte{byte(n)})
		switch {
		case b == " " || b == "\t":
			taken(t, b)
			taken(t, "a"+b, name(0, "a"))
		case n >= 'a' && n <= 'z':
			taken(t, b, name(0, b))
			taken(t, "a "+b, name(0, "a"), name(2, b))
		case n >= '0' && n <= '9':
			taken(t, b, number(0, b, int64(n-'0')))
			taken(t, "a"+b, name(0, "a"+b))
		case strings.Contains("+-*/(),=<>", b):
			taken(t, b, sign(0, b))
			taken(t, "a"+b, name(0, "a"), sign(1, b))
		default:
			refused(t, b, 0, api.ErrWord)
			refused(t, "a "+b, 2, api.ErrWord)
			refused(t, "1 "+b+" a", 2, api.ErrWord)
			if b != "_" {
				refused(t, "a"+b, 1, api.ErrWord)
			}
		}
	}
	taken(t, "a_", name(0, "a_"))
	for _, s := range []string{"é", "\u00a0", "ａ", "١", "\ufeffa"} {
		refused(t, "a = "+s, 4, api.ErrWord)
	}
}

// A note and an end are no words.
func TestNoteAndEnd(t *testing.T) {
	refused(t, "!", 0, api.ErrWord)
	refused(t, "a ! b", 2, api.ErrWord)
	refused(t, "a\n", 1, api.ErrWord)
	refused(t, "\n", 0, api.ErrWord)
	refused(t, " \r\n", 1, api.ErrWord)
}

func TestRightBehindANumber(t *testing.T) {
	refused(t, "5y", 1, api.ErrWord)
	refused(t, "x = 12ab + 1", 6, api.ErrWord)
	for k := range strings.FieldsSeq(keys) {
		refused(t, "50"+k, 2, api.ErrWord)
		taken(t, "50 "+k, number(0, "50", 50), key(3, k))
	}
	refused(t, "5_", 1, api.ErrWord)
	refused(t, "1e5", 1, api.ErrWord)
	refused(t, "0x10", 1, api.ErrWord)
	taken(t, "5\ty", number(0, "5", 5), name(2, "y"))
	taken(t, "5(y", number(0, "5", 5), sign(1, "("), name(2, "y"))
	taken(t, "(5)y", sign(0, "("), number(1, "5", 5), sign(2, ")"), name(3, "y"))
	taken(t, "y5", name(0, "y5"))
}

// P6: the first word's; of one word the first one that the promise names.
func TestFirstError(t *testing.T) {
	long, great := strings.Repeat("z", api.MaxName+1), "9223372036854775808"
	refused(t, "? "+long+" "+great+" 5y", 0, api.ErrWord)
	refused(t, long+" ? "+great+" 5y", 0, api.ErrLong)
	refused(t, great+" ? "+long+" 5y", 0, api.ErrOver)
	refused(t, "5y ? "+long+" "+great, 1, api.ErrWord)
	refused(t, "a "+great+"? "+long, 2, api.ErrOver)
	refused(t, long+"?", 0, api.ErrLong)
	refused(t, great+"y", 0, api.ErrOver)
	refused(t, great+long, 0, api.ErrOver)
	refused(t, "5"+long, 1, api.ErrLong)
	refused(t, "5?", 1, api.ErrWord)
}

var (
	wordForm = regexp.MustCompile(`^(?:([a-z][a-z0-9_]*)|([0-9]+)|(<=|>=|==|/=|[-+*/(),=<>]))`)
	keyForm  = regexp.MustCompile(`^(?:integer|do|end|if|then|else|read|print)$`)
)

// byForm reads s by patterns; at is where its first fault is, -1: there is none. It knows no bounds: for short texts alone.
func byForm(s string) (l []tok.Tok, at int) {
	for i := 0; i < len(s); {
		if s[i] == ' ' || s[i] == '\t' {
			i++
			continue
		}
		m := wordForm.FindStringSubmatch(s[i:])
		switch {
		case m == nil:
			return nil, i
		case m[1] != "" && i > 0 && s[i-1] >= '0' && s[i-1] <= '9':
			return nil, i
		case keyForm.MatchString(m[1]):
			l = append(l, key(i, m[0]))
		case m[1] != "":
			l = append(l, name(i, m[0]))
		case m[2] != "":
			n, _ := strconv.ParseInt(m[0], 10, 64)
			l = append(l, number(i, m[0], n))
		default:
			l = append(l, sign(i, m[0]))
		}
		i += len(m[0])
	}
	return l, -1
}

// everyText calls f with each text of at most n pieces.
func everyText(n int, pieces []string, f func(s string)) {
	texts := []string{""}
	for range n + 1 {
		var longer []string
		for _, s := range texts {
			f(s)
			for _, p := range pieces {
				longer = append(longer, s+p)
			}
		}
		texts = longer
	}
}

func TestLineByForm(t *testing.T) {
	everyText(5, []string{"d", "o", "7", "_", " ", "<", "=", "/", "+", "?"}, func(s string) {
		if want, at := byForm(s); at < 0 {
			taken(t, s, want...)
		} else {
			refused(t, s, at, api.ErrWord)
		}
	})
}

func TestIsKey(t *testing.T) {
	for k := range strings.FieldsSeq(keys) {
		if !tok.IsKey(k) {
			t.Errorf("P401: IsKey(%q): false", k)
		}
		for _, s := range []string{k + "s", "x" + k, " " + k, k + " ", k + "\n", k[1:], k[:len(k)-1], strings.ToUpper(k), k + k} {
			if tok.IsKey(s) {
				t.Errorf("P401: IsKey(%q): true", s)
			}
		}
	}
	for _, s := range []string{"", " ", "x", "7", "=", "do i", "enddo", "while", "\x00", "\xff"} {
		if tok.IsKey(s) {
			t.Errorf("P401: IsKey(%q): true", s)
		}
	}
}

func TestIsName(t *testing.T) {
	full := strings.Repeat("z", api.MaxName)
	for _, s := range []string{"a", "z", "a0", "a_", "a__9b", "dos", "end_", "ends1", "xdo", full} {
		if !tok.IsName(s) {
			t.Errorf("P401: IsName(%q): false", s)
		}
	}
	for _, s := range []string{"", " ", "7", "7a", "_", "_a", "A", "aB", "+", " a", "a ", "\ta", "a\t", "a b", "a+", "(a)", "a!", "a ! b", "a\n", "é", "aé", "\x00", full + "z"} {
		if tok.IsName(s) {
			t.Errorf("P401: IsName(%q): true", s)
		}
	}
	for k := range strings.FieldsSeq(keys) {
		if tok.IsName(k) {
			t.Errorf("P401: IsName(%q): true", k)
		}
	}
	everyText(4, []string{"d", "o", "7", "_", " ", "+", "!", "\n"}, func(s string) {
		l, at := byForm(s)
		want := at < 0 && len(l) == 1 && l[0] == name(0, s)
		if tok.IsName(s) != want {
			t.Fatalf("P401: IsName(%q): %v", s, !want)
		}
	})
}

func TestReplace(t *testing.T) {
	for _, c := range []struct{ s, name, by, want string }{
		{"x = i", "i", "j", "x = j"},
		{"i = i*i+i", "i", "(i + 2)", "(i + 2) = (i + 2)*(i + 2)+(i + 2)"},
		{"  a(i, ii) =\ti1 ! i is i\n", "i", "k", "  a(k, ii) =\ti1 ! i is i\n"},
		{"i!i", "i", "long_name", "long_name!i"},
		{"long_name!long_name\n", "long_name", "i", "i!long_name\n"},
		{"i  \t ! i ! i", "i", "", "  \t ! i ! i"},
		{"i\n", "i", "", "\n"},
		{"! i\n", "i", "j", "! i\n"},
		{"\n", "i", "j", "\n"},
		{"", "", "j", ""},
		{"a b", "", "j", "a b"},
		{"a b", "a b", "j", "a b"},
		{"a b", "c", "j", "a b"},
		{"ab ba aab", "a", "x", "ab ba aab"},
		{"do i = 1, 12", "do", "x", "do i = 1, 12"},
		{"do i = 1, 12", "12", "x", "do i = 1, 12"},
		{"do i = 1, 12", "=", "x", "do i = 1, 12"},
		{"do d = d, do1", "d", "do", "do do = do, do1"},
		{"a = b", "a", "b", "b = b"},
		{"a = b", "b", "a ! ? \x00", "a = a ! ? \x00"},
		{"x I", "x", "y", "x I"},
	} {
		if got := tok.Replace(c.s, c.name, c.by); got != c.want {
			t.Errorf("P401: Replace(%q, %q, %q): %q; want %q", c.s, c.name, c.by, got, c.want)
		}
	}
}

func TestReplaceInNoLine(t *testing.T) {
	long := strings.Repeat("z", api.MaxName+1)
	for _, s := range []string{"i = ?", "? i", "i = 5i", "i = 5do", "i " + long, "i = 9223372036854775808 ! i\n", "i\ni", "i\n\n", "i\r\n", "i \x00", "I i", "i é"} {
		for _, by := range []string{"j", "", "?"} {
			if got := tok.Replace(s, "i", by); got != s {
				t.Errorf("P401: Replace(%q, \"i\", %q): %q; want it as it was", s, by, got)
			}
		}
	}
	if s := "i " + long; tok.Replace(s, long, "j") != s {
		t.Error("P401: Replace of a name that is too long")
	}
}

// byWords is Replace, put together again from the words that byForm tells.
func byWords(s, old, by string) string {
	body, note, end := line.Part(s)
	l, at := byForm(body)
	if at >= 0 {
		return s
	}
	for _, x := range slices.Backward(l) {
		if x.Kind == tok.Name && x.Text == old {
			body = body[:x.At] + by + body[x.At+len(x.Text):]
		}
	}
	return body + note + end
}

func TestReplaceByWords(t *testing.T) {
	everyText(5, []string{"i", "do", "7", "_", " ", "=", "!", "\n"}, func(s string) {
		for _, by := range []string{"", "i i", "k"} {
			if got, want := tok.Replace(s, "i", by), byWords(s, "i", by); got != want {
				t.Fatalf("P401: Replace(%q, \"i\", %q): %q; want %q", s, by, got, want)
			}
		}
	})
}

// P2: two answers share no memory.
func TestMemory(t *testing.T) {
	one, _ := tok.Line("a = b + 1")
	two, _ := tok.Line("a = b + 1")
	for i := range one {
		one[i] = tok.Tok{}
	}
	_ = append(one, tok.Tok{})
	if want, _ := byForm("a = b + 1"); !slices.Equal(two, want) {
		t.Errorf("P2: two answers share memory: %v", two)
	}
}

// P3 and P5: a refused line leaves nothing behind.
func TestNothingIsKept(t *testing.T) {
	for range 3 {
		refused(t, "1a", 1, api.ErrWord)
		taken(t, "a", name(0, "a"))
		refused(t, "1 99999999999999999999", 2, api.ErrOver)
		taken(t, "a 1", name(0, "a"), number(2, "1", 1))
	}
}

// P1: bodies far longer than a line may be are gone through too.
func TestLongBodies(t *testing.T) {
	for s, n := range map[string]int{"a ": 1, "1+": 2, "<=": 1, "\t ": 0, "a(1) = 5, ": 7} {
		l, err := tok.Line(strings.Repeat(s, 50000))
		if err != nil || len(l) != 50000*n {
			t.Errorf("P1: %q: %d words, %v", s, len(l), err)
		}
	}
	if s := tok.Replace(strings.Repeat("i ", 50000), "i", "ii"); s != strings.Repeat("ii ", 50000) {
		t.Error("P1: Replace of a long body")
	}
}
