package sema_test

import (
	"errors"
	"fmt"
	"math"
	"reflect"
	"runtime/debug"
	"slices"
	"strconv"
	"strings"
	"testing"

	"furrow/api"
	"furrow/expr"
	"furrow/line"
	"furrow/sema"
	"furrow/stmt"
	"furrow/tok"
	"furrow/tree"
)

// told tells a table with all its fields. No list and an empty one are told alike (P2).
func told(t sema.Table) string {
	var s strings.Builder
	for _, x := range t.Syms {
		fmt.Fprintf(&s, "%s%v@%d+%d ", x.Name, x.Dims, x.At, x.Size)
	}
	return s.String() + strconv.FormatInt(t.Cells, 10)
}

func nodes(t *testing.T, s string) []tree.Node {
	t.Helper()
	l, _, err := tree.Parse(s)
	if err != nil {
		t.Fatalf("P701: Parse(%.60q): %v", s, err)
	}
	return l
}

func taken(t *testing.T, s, want string) sema.Table {
	t.Helper()
	x, err := sema.Check(nodes(t, s))
	if err != nil || told(x) != want {
		t.Errorf("P801: Check of %.80q: %s, %v; want %s", s, told(x), err, want)
	}
	return x
}

// refused tells whether Check answers just this Fault, and nothing beside it (P4).
func refused(t *testing.T, l []tree.Node, at int, want api.Errno) {
	t.Helper()
	x, err := sema.Check(l)
	var f *api.Fault
	if !errors.As(err, &f) || f.Part != "line" || f.At != at || f.Err != want || !errors.Is(err, want) {
		t.Errorf("P801: %v; want line %d: %v", err, at, want)
	}
	if len(x.Syms) != 0 || x.Cells != 0 {
		t.Errorf("P4: %s beside an error", told(x))
	}
}

func refusedText(t *testing.T, s string, at int, want api.Errno) {
	t.Helper()
	before := t.Failed()
	refused(t, nodes(t, s), at, want)
	if t.Failed() && !before {
		t.Logf("of %.200q", s)
	}
}

const (
	decl  = "integer i, j, x, a(5), b(2, 3)\n"
	syms  = "i[]@0+1 j[]@1+1 x[]@2+1 a[5]@3+5 b[2 3]@8+6 14"
	endDo = "end do\n"
	endIf = "end if\n"
)

// wrong has each line behind decl refused for the same.
func wrong(t *testing.T, want api.Errno, lines ...string) {
	t.Helper()
	for _, s := range lines {
		refusedText(t, decl+s, 1, want)
		refusedText(t, "\n! n\n"+decl+"x = 1\n"+s, 4, want)
	}
}

// right has each text behind decl taken.
func right(t *testing.T, texts ...string) {
	t.Helper()
	for _, s := range texts {
		taken(t, decl+s, syms)
	}
}

func TestTable(t *testing.T) {
	taken(t, "", "0")
	taken(t, "! n\n\n", "0")
	taken(t, "print 5", "0")
	taken(t, "integer a", "a[]@0+1 1")
	taken(t, "integer a(7)", "a[7]@0+7 7")
	taken(t, decl, syms)
	taken(t, "integer b(2, 3, 4), a\n\ninteger d, c(1)\ninteger e(1, 2, 1, 3)\ninteger f\nf = 1", "b[2 3 4]@0+24 a[]@24+1 d[]@25+1 c[1]@26+1 e[1 2 1 3]@27+6 f[]@33+1 34")
	for _, none := range [][]tree.Node{nil, {}} {
		if x, err := sema.Check(none); err != nil || told(x) != "0" {
			t.Errorf("P801: Check of none: %s, %v", told(x), err)
		}
	}
}

func TestFind(t *testing.T) {
	x := taken(t, decl, syms)
	for _, want := range x.Syms {
		if s, ok := x.Find(want.Name); !ok || !slices.Equal(s.Dims, want.Dims) || s.Name != want.Name || s.At != want.At || s.Size != want.Size {
			t.Errorf("P801: Find(%q): %v, %v; want %v", want.Name, s, ok, want)
		}
	}
	for _, name := range []string{"", "y", "aa", "A", "a ", "integer", strings.Repeat("a", 1000), "\xff"} {
		if s, ok := x.Find(name); ok || !reflect.DeepEqual(s, sema.Sym{}) {
			t.Errorf("P801: Find(%q): %v, %v", name, s, ok)
		}
	}
	if s, ok := (sema.Table{}).Find("a"); ok || !reflect.DeepEqual(s, sema.Sym{}) {
		t.Errorf("P801: Find in none: %v, %v", s, ok)
	}
}

// P9: of several that have the name the first one is taken.
func TestFindTheFirst(t *testing.T) {
	x := sema.Table{Syms: []sema.Sym{{Name: "b", At: 1}, {Name: "a", At: 2, Dims: []int64{3}}, {Name: "a", At: 3}}}
	if s, ok := x.Find("a"); !ok || s.At != 2 || !slices.Equal(s.Dims, []int64{3}) {
		t.Errorf("P9: %v, %v", s, ok)
	}
}

func TestTwice(t *testing.T) {
	refusedText(t, "integer a, a", 0, api.ErrTwice)
	refusedText(t, "integer a(2), b, a", 0, api.ErrTwice)
	refusedText(t, "integer a\n\n! n\ninteger b, a(5)", 3, api.ErrTwice)
	refusedText(t, "integer a(2)\ninteger a(2)\ninteger a(2)", 1, api.ErrTwice)
	taken(t, "integer a, aa, a_, a1", "a[]@0+1 aa[]@1+1 a_[]@2+1 a1[]@3+1 4")
}

func TestCells(t *testing.T) {
	for _, s := range []string{"a(4096)", "a(64, 64)", "a(1, 4096, 1)", "a(8, 8, 8, 8)", "a(4095), b", "a, b(4095)", "a(4000), b(48, 2)", "a(2048), b(2, 1024)"} {
		x, err := sema.Check(nodes(t, "integer "+s))
		if err != nil || x.Cells != api.MaxCells {
			t.Errorf("P801: %s: %v, %v", s, x, err)
		}
		refusedText(t, "integer "+s+", z", 0, api.ErrLong)
		refusedText(t, "integer "+s+"\ninteger y(1)\ninteger z", 1, api.ErrLong)
	}
	for _, s := range []string{"a(4097)", "a(17, 241)", "a(64, 65)", "a(1, 1, 4097)", "a(8, 8, 8, 9)", "a(9223372036854775807)"} {
		refusedText(t, "integer "+s, 0, api.ErrLong)
	}
	for _, s := range []string{"a(4294967296, 4294967296)", "a(9223372036854775807, 2)", "a(65536, 65536, 65536, 65536)", "a(2, 2147483648, 4294967296)", "a(9223372036854775807, 9223372036854775807, 9223372036854775807, 9223372036854775807)", "a(3, 6148914691236517206)"} {
		refusedText(t, "integer z\ninteger "+s, 1, api.ErrLong) // products that are small, or below 0, in 64 bits
	}
}

func TestManyNames(t *testing.T) {
	var s strings.Builder
	for i := range api.MaxCells {
		fmt.Fprintf(&s, "integer v%d\n", i)
	}
	x, err := sema.Check(nodes(t, s.String()))
	if err != nil || len(x.Syms) != api.MaxCells || x.Cells != api.MaxCells {
		t.Fatalf("P801: %d, %v", len(x.Syms), err)
	}
	for i, y := range x.Syms {
		if y.At != i || y.Size != 1 || y.Name != "v"+strconv.Itoa(i) {
			t.Fatalf("P801: %v at %d", y, i)
		}
	}
	if y, ok := x.Find("v4095"); !ok || y.At != 4095 {
		t.Errorf("P801: %v, %v", y, ok)
	}
	refusedText(t, s.String()+"integer v", api.MaxCells, api.ErrLong)
	refusedText(t, s.String()+"integer v7", api.MaxCells, api.ErrTwice)
}

// Item by Item: an Item's ErrTwice stands ahead of its ErrLong, and both ahead of those of the next.
func TestItemsInOrder(t *testing.T) {
	refusedText(t, "integer a, a(5000)", 0, api.ErrTwice)
	refusedText(t, "integer a(5000), a", 0, api.ErrLong)
	refusedText(t, "integer a, b(5000), a", 0, api.ErrLong)
	refusedText(t, "integer a, a, b(5000)", 0, api.ErrTwice)
	refusedText(t, "integer a(5000)\ninteger b, b\nx = 1", 0, api.ErrLong)
	refusedText(t, "integer b, b\ninteger a(5000)\nx = 1", 0, api.ErrTwice)
}

func TestName(t *testing.T) {
	refusedText(t, "x = 1", 0, api.ErrName)
	wrong(t, api.ErrName, "y = 1", "x = y", "x = 1 + 2 * (3 - y)", "x = -y", "y(1) = 2", "x = y(1)", "a(y) = 1", "x = a(y)", "x = b(1, y)", "b(y, 1) = 1", "x = a(a(a(y)))", "a(a(y)) = 1", "read y", "read a(y)", "print y", "print 1 / y", "read y(1)",
		"do y = 1, 2\n"+endDo, "do i = y, 2\n"+endDo, "do i = 1, y\n"+endDo, "do i = 1, a(y)\n"+endDo, "if (y < 1) then\n"+endIf, "if (1 < y) then\n"+endIf, "if (a(y) < 1) then\n"+endIf, "if (1 < -y) then\nelse\n"+endIf)
	right(t, "x = i + j", "a(i) = b(j, x) / a(a(1))", "read x", "read a(i)", "print -x", "do i = x, a(1), 2\n"+endDo, "if (x < a(j)) then\n"+endIf)
}

func TestRank(t *testing.T) {
	wrong(t, api.ErrRank, "x(1) = 2", "x = x(1)", "x = x(1, 2)", "a = 1", "x = a", "print 2 * a", "x = -b", "a(1, 2) = 1", "b(1) = 1", "b(1, 2, 3) = 1", "x = b(1)", "x = a(1, 2, 3, 4)", "x = a(b)", "x = a(x(1))", "x = b(1, a)", "b(a, 1) = 1", "read a", "read b(1)", "read x(1)", "read a(b)", "print b",
		"do a = 1, 2\n"+endDo, "do b = 1, 2\n"+endDo, "do i = a, 2\n"+endDo, "do i = 1, b(1)\n"+endDo, "do i = 1, x(2)\n"+endDo, "if (a < 1) then\n"+endIf, "if (1 < x(1)) then\n"+endIf)
	refusedText(t, "integer a(1)\na = 1", 1, api.ErrRank)
	refusedText(t, "integer a(2, 2, 2, 2)\na(1, 1, 1) = 1", 1, api.ErrRank)
	taken(t, "integer a(2, 2, 2, 2)\na(1, 1, 1, 1) = a(9, 9, 9, -9)", "a[2 2 2 2]@0+16 16")
}

func TestIndex(t *testing.T) {
	for _, s := range []string{"i = 1\n", "read i\n", "do i = 1, 2\n" + endDo, "i = i + 1\n"} {
		refusedText(t, decl+"do i = 1, 2\n"+s+endDo, 2, api.ErrIndex)
		refusedText(t, decl+"do i = 1, 2\nx = 1\nif (1 < 2) then\n"+s+endIf+endDo, 4, api.ErrIndex)
		refusedText(t, decl+"do i = 1, 2\nif (1 < 2) then\nelse\n"+s+endIf+endDo, 4, api.ErrIndex)
		refusedText(t, decl+"do i = 1, 2\ndo j = 1, 2\n"+s+endDo+endDo, 3, api.ErrIndex)
		refusedText(t, decl+"do j = 1, 2\ndo i = 1, 2\n"+s+endDo+endDo, 3, api.ErrIndex)
		refusedText(t, decl+"do i = 1, 2\ndo j = 1, 2\n"+endDo+s+endDo, 4, api.ErrIndex)
		refusedText(t, decl+"do i = 1, 2\nif (1 < 2) then\nx = 1\n"+endIf+s+endDo, 5, api.ErrIndex)
		right(t, "do i = 1, 2\n"+endDo+s, "do j = 1, 2\n"+s+endDo, "do j = 1, 2\ndo i = 1, 2\n"+endDo+s+endDo, s+"do i = 1, 2\n"+endDo, "if (1 < 2) then\ndo i = 1, 2\n"+endDo+"else\n"+s+endIf, "do j = 1, 2\nif (1 < 2) then\ndo i = 1, 2\nx = 1\n"+endDo+endIf+s+endDo)
	}
	right(t, "do i = 1, i\n"+endDo, "do i = i, 2\n"+endDo, "do i = 1, 2\ndo j = i, i\nx = i\na(i) = b(i, j)\nprint i\nread a(i)\nif (i < j) then\n"+endIf+endDo+endDo)
}

func TestStep(t *testing.T) {
	wrong(t, api.ErrStep, "do i = 1, 2, 0\n"+endDo, "do i = 1, 2, -0\n"+endDo, "do i = 1, 2, 00\nend do")
	right(t, "do i = 1, 2, 1\n"+endDo, "do i = 1, 2, -1\n"+endDo, "do i = 1, 2, -9223372036854775807\n"+endDo, "do i = 0, 0\n"+endDo)
	refusedText(t, decl+"do i = 1, 2\nif (1 < 2) then\ndo j = 1, 2, 0\n"+endDo+endIf+endDo, 3, api.ErrStep)
}

// P6: of a statement its parts as they stand, a name ahead of its subscripts, ErrName ahead of ErrRank ahead of ErrIndex.
func TestPartsInOrder(t *testing.T) {
	wrong(t, api.ErrName, "y = a", "y(b) = 1", "y(1) = a", "x = y + a", "x = y(a)", "a(y) = a", "a(1) = a(y) + a", "x = a(y) * b(1)", "x = b(y, a)", "b(y, x(1)) = 1", "print (y - a) / b", "print -y + -a", "read y(a)",
		"do y = a, a, 0\n"+endDo, "do i = y, a, 0\n"+endDo, "do i = 1, y, 0\n"+endDo, "if (y < a) then\n"+endIf, "if (x + 1 < a(y)) then\n"+endIf)
	wrong(t, api.ErrRank, "a = y", "x(y) = 1", "x(1) = y", "x = a + y", "x = a(1, y)", "x = x(y)", "a(a) = y", "a(1) = a + a(y)", "x = b(1) * a(y)", "x = b(a, y)", "b(x(1), y) = 1", "print (a - y) / y", "print -a + -y", "read a(1, y)",
		"do a = y, y, 0\n"+endDo, "do i = a, y, 0\n"+endDo, "do i = 1, a, 0\n"+endDo, "if (a < y) then\n"+endIf)
	in := func(s string) string { return decl + "do i = 1, 2\n" + s + endDo }
	refusedText(t, in("i = y\n"), 2, api.ErrIndex)
	refusedText(t, in("i = a\n"), 2, api.ErrIndex)
	refusedText(t, in("i(1) = 1\n"), 2, api.ErrRank)
	refusedText(t, in("i(y) = 1\n"), 2, api.ErrRank)
	refusedText(t, in("read i(1)\n"), 2, api.ErrRank)
	refusedText(t, in("do i = y, 2\n"+endDo), 2, api.ErrIndex)
	refusedText(t, in("do i = 1, 2, 0\n"+endDo), 2, api.ErrIndex)
	refusedText(t, in("do y = 1, 2, 0\n"+endDo), 2, api.ErrName)
}

// P6: the first statement that is wrong is told, whatever is wrong behind it or round it.
func TestStatementsInOrder(t *testing.T) {
	refusedText(t, decl+"x = 1\nx = a\ny = 2", 2, api.ErrRank)
	refusedText(t, decl+"x = 1\ny = 2\nx = a", 2, api.ErrName)
	refusedText(t, decl+"do i = 1, 2\ni = 1\n"+endDo+"y = 1", 2, api.ErrIndex)
	refusedText(t, decl+"do i = 1, 2, 0\ni = 1\n"+endDo+"y = 1", 1, api.ErrStep)
	refusedText(t, decl+"do y = 1, 2\ny = 1\n"+endDo, 1, api.ErrName)
	refusedText(t, decl+"if (y < 1) then\nx = a\n"+endIf, 1, api.ErrName)
	refusedText(t, decl+"if (x < 1) then\nx = a\nelse\ny = 1\n"+endIf, 2, api.ErrRank)
	refusedText(t, decl+"if (x < 1) then\nx = 1\nelse\ny = 1\n"+endIf+"x = a", 4, api.ErrName)
	refusedText(t, decl+"if (x < 1) then\ndo i = 1, 2\n"+endDo+"else\ndo j = 1, 2\n\nj = 2\n"+endDo+endIf+"x = a", 7, api.ErrIndex)
	refusedText(t, "integer x, x\ny = 1", 0, api.ErrTwice)
}

// model reads the words of lines from the left, and knows no blocks and no expressions: names come as they stand.
type model struct {
	table sema.Table
	loops []string // an If's is empty
}

func (m *model) find(name string) (sema.Sym, bool) {
	at := slices.IndexFunc(m.table.Syms, func(x sema.Sym) bool { return x.Name == name })
	if at < 0 {
		return sema.Sym{}, false
	}
	return m.table.Syms[at], true
}

// subscripts counts those of the name at this place.
func subscripts(words []tok.Tok, at int) int {
	if at+1 == len(words) || words[at+1].Text != "(" {
		return 0
	}
	n, open := 1, 0
	for _, w := range words[at+1:] {
		switch w.Text {
		case "(":
			open++
		case ")":
			open--
		case ",":
			if open == 1 {
				n++
			}
		}
		if open == 0 {
			break
		}
	}
	return n
}

func (m *model) items(words []tok.Tok) error {
	for i := 1; i < len(words); i++ {
		x := sema.Sym{Name: words[i].Text, At: int(m.table.Cells), Size: 1}
		if _, there := m.find(x.Name); there {
			return api.ErrTwice
		}
		for open := false; i+1 < len(words) && (open || words[i+1].Text != ","); i++ {
			open = words[i+1].Text != ")"
			if n := words[i+1].N; n > 0 {
				x.Dims = append(x.Dims, n)
				x.Size *= n
			}
		}
		m.table.Cells += x.Size
		if m.table.Cells > api.MaxCells {
			return api.ErrLong
		}
		m.table.Syms = append(m.table.Syms, x)
		i++
	}
	return nil
}

func (m *model) line(words []tok.Tok) error {
	first := words[0].Text
	switch {
	case first == "integer":
		return m.items(words)
	case first == "end":
		m.loops = m.loops[:len(m.loops)-1]
	}
	set := map[string]int{"do": 1, "read": 1, "print": -1, "if": -1}[first] // else the first word is set
	for i, w := range words {
		if w.Kind != tok.Name {
			continue
		}
		x, there := m.find(w.Text)
		switch {
		case !there:
			return api.ErrName
		case len(x.Dims) != subscripts(words, i):
			return api.ErrRank
		case i == set && slices.Contains(m.loops, w.Text):
			return api.ErrIndex
		}
	}
	switch first {
	case "do":
		if last := words[len(words)-1]; last.Kind == tok.Number && last.N == 0 {
			return api.ErrStep // no head that the model is given has a Hi that ends so
		}
		m.loops = append(m.loops, words[1].Text)
	case "if":
		m.loops = append(m.loops, "")
	}
	return nil
}

// modelled is what the promise has Check answer: the table told, or the error's words.
func modelled(s string) string {
	var m model
	for i, x := range strings.Split(s, "\n") {
		words, _ := tok.Line(x)
		if len(words) == 0 {
			continue
		}
		if err := m.line(words); err != nil {
			return fmt.Sprintf("line %d: %v", i, err)
		}
	}
	return told(m.table)
}

// held holds Check against the model over all texts of n of these lines that are blocks, with a head ahead of them.
func held(t *testing.T, head string, of []string, n int) int {
	t.Helper()
	count := 0
	if l, _, err := tree.Parse(head); err == nil {
		count++
		x, err := sema.Check(l)
		got := told(x)
		if err != nil {
			got = err.Error()
		}
		if want := modelled(head); got != want {
			t.Fatalf("P801: Check of %q: %s; want %s", head, got, want)
		}
	}
	for i := 0; i < len(of) && n > 0; i++ {
		count += held(t, head+of[i], of, n-1)
	}
	return count
}

func TestAllShortBlocks(t *testing.T) {
	n := held(t, "integer i, j, a(3)\n", []string{"do i = 1, j\n", "do j = i, 2, -1\n", endDo, "if (i < a(j)) then\n", "else\n", endIf, "i = j\n", "read j\n"}, 6)
	if n < 3000 {
		t.Errorf("%d texts alone were held against the model", n)
	}
}

func TestAllShortDecls(t *testing.T) {
	held(t, "", []string{"integer a, b(2, 3)\n", "integer c(64, 63), d(60)\n", "integer a(4)\n", "integer e(4, 1, 1), f(4)\n", "b(a, e(1, 2, d(3))) = c(2, f)\n", "f(4) = e(1, 2, 3) * a\n"}, 5)
}

// All pairs of names with all kinds of subscripts, in every place that a statement has.
func TestAllPlaces(t *testing.T) {
	parts := []string{"i", "j", "x", "y", "a", "b", "a(i)", "a(a)", "a(y)", "a(1, 2)", "b(1, a(x))", "b(y, a)", "b(x)", "x(y)", "i(1)", "y(a)", "-a", "(y)", "5"}
	var lines []string
	for _, p := range parts {
		for _, q := range parts {
			lines = append(lines, "print "+p+" - "+q+"\n", "print "+p+" * -("+q+" + 1)\n", "if ("+p+" == "+q+") then\n"+endIf, "print b("+p+", "+q+")\n")
			for _, step := range []string{"", ", 2", ", 0", ", -0"} {
				lines = append(lines, "do i = "+p+", "+q+" + 1"+step+"\n"+endDo, "do y = "+p+", "+q+" + 1"+step+"\n"+endDo, "do b = "+p+", "+q+" + 1"+step+"\n"+endDo)
			}
			if tok.IsName(p[:1]) {
				lines = append(lines, p+" = "+q+"\n")
			}
		}
		if tok.IsName(p[:1]) {
			lines = append(lines, "read "+p+"\n")
		}
	}
	for _, round := range [][2]string{{decl, ""}, {decl + "do i = 1, 2\n", endDo}, {decl + "do j = 1, 2\nif (i < j) then\n", endIf + endDo}} {
		for _, s := range lines {
			held(t, round[0]+s+round[1], nil, 0)
		}
	}
}

// P2: an answer is new memory: neither what was handed in nor another answer changes with it.
func TestAnswersShareNothing(t *testing.T) {
	l := nodes(t, "integer a(2, 3), b(4), c\ninteger d(1, 2, 3, 4)\n")
	x, err := sema.Check(l)
	y, again := sema.Check(l)
	if err != nil || again != nil {
		t.Fatalf("P801: %v, %v", err, again)
	}
	want := told(x)
	found, _ := x.Find("a")
	other, _ := x.Find("a")
	var dims [][]int64
	for _, syms := range [][]sema.Sym{x.Syms, y.Syms, {found, other}} {
		for _, s := range syms {
			dims = append(dims, s.Dims[:cap(s.Dims)])
		}
	}
	for _, n := range l {
		for _, item := range n.Stmt.Items {
			dims = append(dims, item.Dims[:cap(item.Dims)])
		}
	}
	for i, d := range dims {
		for j := range d {
			d[j] = int64(i + 100)
		}
	}
	for i, d := range dims {
		for _, n := range d {
			if n != int64(i+100) {
				t.Fatal("P2: two lists share memory")
			}
		}
	}
	for i := range x.Syms[:cap(x.Syms)] {
		x.Syms[:cap(x.Syms)][i].Name = "changed"
	}
	if y.Syms[0].Name != "a" || want == told(x) {
		t.Error("P2: two answers share memory")
	}
}

// P2: what is handed in stays as it was, its spare room too.
func TestMemoryHandedIn(t *testing.T) {
	make := func() []tree.Node {
		dims := []int64{2, 3, 77}
		items := []stmt.Item{{Name: "a", Dims: dims[:2]}, {Name: "i", Dims: dims[3:]}, {Name: "spare", Dims: dims}}
		sub := []expr.Expr{{Kind: expr.Var, Name: "i"}, {Kind: expr.Neg, A: []expr.Expr{{Kind: expr.Num, N: 1}}}, {Kind: expr.Var, Name: "spare"}}
		elem := expr.Expr{Kind: expr.Elem, Name: "a", A: sub[:2]}
		body := []tree.Node{{Line: 2, Stmt: stmt.Stmt{Kind: stmt.Set, To: elem, E: elem}}, {Line: 77}}
		l := []tree.Node{{Line: 0, Stmt: stmt.Stmt{Kind: stmt.Decl, Items: items[:2]}}, {Line: 1, End: 3, Stmt: stmt.Stmt{Kind: stmt.Do, Name: "i", Lo: elem, Hi: elem, Step: 1}, Body: body[:1]}, {Line: 77}}
		return l[:2]
	}
	l := make()
	if x, err := sema.Check(l); err != nil || told(x) != "a[2 3]@0+6 i[]@6+1 7" {
		t.Fatalf("P801: %s, %v", told(x), err)
	}
	if !reflect.DeepEqual(l[:3], make()[:3]) {
		t.Error("P2: nodes were changed")
	}
	y := sema.Table{Syms: []sema.Sym{{Name: "a", Dims: []int64{1, 77}[:1]}, {Name: "spare"}}[:1], Cells: 5}
	s, _ := y.Find("a")
	_ = append(s.Dims, 5)
	y.Find("spare")
	if y.Syms[0].Dims[:2][1] != 77 || y.Syms[:2][1].Name != "spare" {
		t.Error("P2: a table was changed")
	}
}

// P2: the table stays as it is when the nodes change.
func TestNodesAreNotKept(t *testing.T) {
	l := nodes(t, decl)
	x, _ := sema.Check(l)
	for i := range l[0].Stmt.Items {
		l[0].Stmt.Items[i].Name = "z"
		for j := range l[0].Stmt.Items[i].Dims {
			l[0].Stmt.Items[i].Dims[j] = 99
		}
	}
	if told(x) != syms {
		t.Errorf("P2: nodes are kept: %s", told(x))
	}
}

// P3 and P5: a refused program leaves nothing behind.
func TestNothingIsKept(t *testing.T) {
	for range 3 {
		taken(t, decl, syms)
		refusedText(t, "x = 1", 0, api.ErrName)
		refusedText(t, decl+"do i = 1, 2\ni = 1\n"+endDo, 2, api.ErrIndex)
		right(t, "i = 1")
		refusedText(t, "integer a(4096), b", 0, api.ErrLong)
		taken(t, "integer a(4096)", "a[4096]@0+4096 4096")
	}
}

func one(x stmt.Stmt) []tree.Node { return []tree.Node{{Line: 7, Stmt: x}} }

func item(name string, dims ...int64) []tree.Node {
	return one(stmt.Stmt{Kind: stmt.Decl, Items: []stmt.Item{{Name: name, Dims: dims}}})
}

// Dims that stmt never makes: 0 makes the product 0; below 0 no count is taken (P9), and nothing panics (P1).
func TestDimsThatAreNone(t *testing.T) {
	for _, dims := range [][]int64{{0}, {5000, 0}, {0, math.MaxInt64}, {math.MaxInt64, math.MaxInt64, 0}} {
		x, err := sema.Check(append(item("a", dims...), item("b")...))
		if want := fmt.Sprintf("a%v@0+0 b[]@0+1 1", dims); err != nil || told(x) != want {
			t.Errorf("P801: %s, %v; want %s", told(x), err, want)
		}
	}
	for _, dims := range [][]int64{{-1}, {math.MinInt64}, {-2, -3}, {2, -1}, {-1, 0}, {0, -1}, {math.MinInt64, -1}, {-5000, 2}, {5000, -1}} {
		refused(t, item("a", dims...), 7, api.ErrArg)
	}
	refused(t, append(item("a"), item("a", -1)...), 7, api.ErrTwice)
	refused(t, item("a", 1, 1, 1, 1, 1, 1, 5000), 7, api.ErrLong)
	if x, err := sema.Check(item("a", 2, 1, 1, 1, 1, 3)); err != nil || x.Cells != 6 {
		t.Errorf("P801: %v, %v", x, err)
	}
}

// Fields that a kind does not have count for nothing, and kinds that there are not are gone through (P1).
func TestNodesThatAreNone(t *testing.T) {
	y := expr.Expr{Kind: expr.Var, Name: "y"}
	full := stmt.Stmt{To: y, E: y, Cond: expr.Cond{Op: "<", A: y, B: y}, Name: "y", Lo: y, Hi: y, Items: []stmt.Item{{Name: "x"}, {Name: "x"}}}
	for _, kind := range []int{stmt.Empty, stmt.EndDo, stmt.Else, stmt.EndIf, -1, 10, math.MaxInt, math.MinInt} {
		full.Kind = kind
		if x, err := sema.Check(one(full)); err != nil || told(x) != "0" {
			t.Errorf("P801: kind %d: %s, %v", kind, told(x), err)
		}
		n := []tree.Node{{Stmt: full, Body: one(stmt.Stmt{Kind: stmt.Print, E: y})}}
		refused(t, n, 7, api.ErrName)
	}
	for kind, want := range map[int]api.Errno{stmt.Decl: api.ErrTwice, stmt.Set: api.ErrName, stmt.Do: api.ErrName, stmt.If: api.ErrName, stmt.Read: api.ErrName, stmt.Print: api.ErrName} {
		full.Kind = kind
		refused(t, one(full), 7, want)
	}
	for _, e := range []expr.Expr{{}, {Kind: expr.Num, Name: "y", A: []expr.Expr{y}}, {Kind: expr.Neg}, {Kind: expr.Add}, {Kind: -1, Name: "y"}, {Kind: expr.Div, Name: "y"}} {
		if _, err := sema.Check(one(stmt.Stmt{Kind: stmt.Set, To: e, E: e})); err != nil {
			t.Errorf("P801: %v: %v", e, err)
		}
	}
	x := append(item("x"), one(stmt.Stmt{Kind: stmt.Print, E: expr.Expr{Kind: expr.Var, Name: "x", A: []expr.Expr{y}}})...)
	if _, err := sema.Check(x); err != nil {
		t.Errorf("P801: a Var has no subscripts: %v", err)
	}
}

// A Do alone has an index, and a Var or Elem alone a name that is set: what other kinds hold there is neither.
func TestIndicesThatAreNone(t *testing.T) {
	set := func(kind int) []tree.Node {
		return one(stmt.Stmt{Kind: stmt.Set, To: expr.Expr{Kind: kind, Name: "x"}, E: expr.Expr{Kind: expr.Num}})
	}
	in := func(kind int, body []tree.Node) []tree.Node {
		return append(item("x"), tree.Node{Stmt: stmt.Stmt{Kind: kind, Name: "x", Step: 1}, Body: body})
	}
	for _, l := range [][]tree.Node{in(stmt.If, set(expr.Var)), in(-1, set(expr.Var)), in(stmt.Do, set(expr.Num)), in(stmt.Do, set(expr.Neg))} {
		if x, err := sema.Check(l); err != nil || told(x) != "x[]@0+1 1" {
			t.Errorf("P801: %s, %v", told(x), err)
		}
	}
	refused(t, in(stmt.Do, set(expr.Var)), 7, api.ErrIndex)
}

// Nodes made by hand may have a Decl anywhere: there is no name ahead of it.
func TestDeclsAnywhere(t *testing.T) {
	use := one(stmt.Stmt{Kind: stmt.Print, E: expr.Expr{Kind: expr.Var, Name: "x"}})
	refused(t, append(use, item("x")...), 7, api.ErrName)
	within := []tree.Node{{Line: 3, Stmt: stmt.Stmt{Kind: stmt.If}, Body: item("x"), Else: use}, use[0]}
	if x, err := sema.Check(within); err != nil || told(x) != "x[]@0+1 1" {
		t.Errorf("P801: %s, %v", told(x), err)
	}
	refused(t, append(within, item("x")...), 7, api.ErrTwice)
	for _, at := range []int{-5, math.MinInt, math.MaxInt} {
		refused(t, []tree.Node{{Line: at, Stmt: use[0].Stmt}}, at, api.ErrName)
	}
}

// P1: however deep blocks and expressions are, Check ends: what it would need in calls within calls is more than is given here.
func TestDeepNodes(t *testing.T) {
	const n = 30000
	defer debug.SetMaxStack(debug.SetMaxStack(1 << 20))
	for _, inner := range []string{"x", "y"} {
		e := expr.Expr{Kind: expr.Var, Name: inner}
		l := one(stmt.Stmt{Kind: stmt.Print, E: e})
		for i := range n {
			kind := []int{expr.Neg, expr.Elem}[i%2]
			e = expr.Expr{Kind: kind, Name: "a", A: []expr.Expr{e}}
			l = []tree.Node{{Line: i, Stmt: stmt.Stmt{Kind: stmt.If}, Body: l}}
		}
		head := append(item("x"), item("a", 1)...)
		for _, deep := range [][]tree.Node{l, one(stmt.Stmt{Kind: stmt.Print, E: e})} {
			x, err := sema.Check(slices.Concat(head, deep))
			if inner == "x" && (err != nil || x.Cells != 2) {
				t.Errorf("P1: %v, %v", x, err)
			}
			if inner == "y" && fmt.Sprint(err) != "line 7: name" {
				t.Errorf("P1: %v", err)
			}
		}
	}
}

// Lines that no Split made may be long: subscripts in one another, and sums, as long as they are.
func TestLongLines(t *testing.T) {
	const n = 20000
	for s, want := range map[string]string{"x = " + strings.Repeat("a(", n) + "x" + strings.Repeat(")", n): "<nil>", "x = " + strings.Repeat("a(", n) + "y" + strings.Repeat(")", n): "line 1: name", "x = 1" + strings.Repeat(" + x", n): "<nil>", "x = 1" + strings.Repeat(" * x", n) + " - a": "line 1: rank"} {
		l, err := tree.Of([]string{decl, s})
		if err != nil {
			t.Fatal(err)
		}
		if _, err := sema.Check(l); fmt.Sprint(err) != want {
			t.Errorf("P801: %v; want %s", err, want)
		}
	}
}

// P1: the longest texts that are taken, and blocks as deep as they go.
func TestBounds(t *testing.T) {
	s := decl + strings.Repeat("x = i\n", (api.MaxText-len(decl))/6)
	taken(t, s, syms)
	lines, _ := line.Split(s)
	refusedText(t, line.Join(lines[:len(lines)-1])+"x = y\n", len(lines)-1, api.ErrName)
	names := strings.Split("c d e f g h k l", " ")
	loops := "integer x, " + strings.Join(names, ", ") + "\n"
	for _, name := range names {
		loops += "do " + name + " = x, 2\n"
	}
	ends := strings.Repeat(endDo, api.MaxDeep)
	if x, err := sema.Check(nodes(t, loops+"x = l\n"+ends+"c = 1\nl = 1")); err != nil || x.Cells != 9 {
		t.Errorf("P801: %v, %v", x, err)
	}
	for _, name := range names {
		refusedText(t, loops+name+" = 1\n"+ends, api.MaxDeep+1, api.ErrIndex)
	}
}
