package tree_test

import (
	"errors"
	"fmt"
	"math"
	"reflect"
	"runtime/debug"
	"slices"
	"strconv"
	"strings"
	"testing"

	"furrow/api"
	"furrow/expr"
	"furrow/line"
	"furrow/stmt"
	"furrow/tree"
)

// told tells nodes with all their fields, so that two lists that are told alike are alike. No list and an empty one are told alike (P2).
func told(l []tree.Node) string {
	var s strings.Builder
	for _, n := range l {
		fmt.Fprintf(&s, "%d-%d,%d %v{%s|%s} ", n.Line, n.End, n.Mid, n.Stmt, told(n.Body), told(n.Else))
	}
	return s.String()
}

// shape tells where nodes stand in one another, with the words of their statements.
func shape(l []tree.Node) string {
	var s strings.Builder
	for _, n := range l {
		fmt.Fprintf(&s, "[%d-%d,%d %s", n.Line, n.End, n.Mid, stmt.Text(n.Stmt))
		if len(n.Body)+len(n.Else) > 0 {
			s.WriteString(" {" + shape(n.Body) + "|" + shape(n.Else) + "}")
		}
		s.WriteString("]")
	}
	return s.String()
}

// whole takes a text that must be taken.
func whole(t *testing.T, s string) []tree.Node {
	t.Helper()
	l, lines, err := tree.Parse(s)
	if err != nil {
		t.Fatalf("P701: Parse(%.60q): %v", s, err)
	}
	if split, _ := line.Split(s); !slices.Equal(lines, split) || line.Join(lines) != s {
		t.Errorf("P701: Parse(%.60q): lines %q", s, lines)
	}
	return l
}

func taken(t *testing.T, s, want string) {
	t.Helper()
	if got := shape(whole(t, s)); got != want {
		t.Errorf("P701: Parse(%.60q): %s; want %s", s, got, want)
	}
}

// refused tells whether Parse and Of answer just this error, by the words of all Faults in it, and nothing beside it (P4).
func refused(t *testing.T, s, want string) {
	t.Helper()
	l, lines, err := tree.Parse(s)
	if err == nil || err.Error() != want {
		t.Errorf("P701: Parse(%.60q): %v; want %s", s, err, want)
	}
	if len(l)+len(lines) != 0 {
		t.Errorf("P4: Parse(%.60q): %v, %q beside an error", s, l, lines)
	}
	lines, err = line.Split(s)
	if err != nil {
		return
	}
	l, err = tree.Of(lines)
	if err == nil || err.Error() != want || len(l) != 0 {
		t.Errorf("P701: Of(%.60q): %v, %v; want %s", lines, l, err, want)
	}
}

const (
	do    = "do i = 1, 2\n"
	endDo = "end do\n"
	when  = "if (1 < 2) then\n"
	other = "else\n"
	endIf = "end if\n"
	set   = "x = 1\n"
	decl  = "integer x\n"
)

func TestPlain(t *testing.T) {
	taken(t, "", "")
	taken(t, "\n \n! note\n\t", "")
	taken(t, "x = 1", "[0-0,-1 x = 1]")
	taken(t, "\ninteger a ! a\n\ninteger b, c(2)\n! x = 2\nread b\n  c(1) = b\nprint c(2)\n", "[1-1,-1 integer a][3-3,-1 integer b, c(2)][5-5,-1 read b][6-6,-1 c(1) = b][7-7,-1 print c(2)]")
}

func TestDo(t *testing.T) {
	taken(t, do+endDo, "[0-1,-1 do i = 1, 2]")
	taken(t, do+"end do", "[0-1,-1 do i = 1, 2]")
	taken(t, "\n"+do+"\n"+set+"! n\nprint x\n\n"+endDo+"\n", "[1-7,-1 do i = 1, 2 {[3-3,-1 x = 1][5-5,-1 print x]|}]")
	taken(t, do+endDo+set+do+set+endDo+set, "[0-1,-1 do i = 1, 2][2-2,-1 x = 1][3-5,-1 do i = 1, 2 {[4-4,-1 x = 1]|}][6-6,-1 x = 1]")
	taken(t, do+do+set+endDo+"do j = 1, 3, -1\n"+endDo+endDo, "[0-6,-1 do i = 1, 2 {[1-3,-1 do i = 1, 2 {[2-2,-1 x = 1]|}][4-5,-1 do j = 1, 3, -1]|}]")
}

func TestIf(t *testing.T) {
	taken(t, when+endIf, "[0-1,-1 if (1 < 2) then]")
	taken(t, when+set+endIf, "[0-2,-1 if (1 < 2) then {[1-1,-1 x = 1]|}]")
	taken(t, when+other+endIf, "[0-2,1 if (1 < 2) then]")
	taken(t, when+other+set+endIf, "[0-3,1 if (1 < 2) then {|[2-2,-1 x = 1]}]")
	taken(t, when+set+other+endIf, "[0-3,2 if (1 < 2) then {[1-1,-1 x = 1]|}]")
	taken(t, set+when+"\nread x\n"+set+other+"! n\nprint x\nprint 1\n"+endIf+set, "[0-0,-1 x = 1][1-9,5 if (1 < 2) then {[3-3,-1 read x][4-4,-1 x = 1]|[7-7,-1 print x][8-8,-1 print 1]}][10-10,-1 x = 1]")
	taken(t, when+when+other+endIf+other+when+endIf+endIf, "[0-7,4 if (1 < 2) then {[1-3,2 if (1 < 2) then]|[5-6,-1 if (1 < 2) then]}]")
	taken(t, when+do+endDo+other+do+when+other+endIf+endDo+endIf, "[0-9,3 if (1 < 2) then {[1-2,-1 do i = 1, 2]|[4-8,-1 do i = 1, 2 {[5-7,6 if (1 < 2) then]|}]}]")
}

// Each statement is stmt.Parse's in all its fields, whatever its kind.
func TestStatementsAreWhole(t *testing.T) {
	lines := []string{"integer a(2, 3), b ! n\n", "a(b, 1) = -b * (b + 2)\n", "do i = b, 2 * b, -3\n", "if (a(1, 1) /= b) then\n", "read a(2, b)\n", "print a(1, 2) / 3\n", "end if\n", "end do"}
	l, err := tree.Of(lines)
	if err != nil || tree.Count(l) != 6 {
		t.Fatalf("P701: %v, %v", l, err)
	}
	tree.Walk(l, func(n tree.Node, deep int) bool {
		if want, _ := stmt.Parse(lines[n.Line]); fmt.Sprint(n.Stmt) != fmt.Sprint(want) {
			t.Errorf("P701: line %d: %v; want %v", n.Line, n.Stmt, want)
		}
		return true
	})
}

func TestEndsOfNothing(t *testing.T) {
	for _, s := range []string{endDo, endIf, other} {
		refused(t, s, "line 0: end")
		refused(t, "\n"+set+"! n\n"+s+do, "line 3: end")
		refused(t, decl+s, "line 1: end")
		refused(t, do+endDo+s, "line 2: end")
		refused(t, when+endIf+s, "line 2: end")
		refused(t, when+other+endIf+s, "line 3: end")
	}
}

func TestEndsOfTheOtherKind(t *testing.T) {
	refused(t, do+endIf, "line 1: end")
	refused(t, do+set+other, "line 2: end")
	refused(t, when+endDo, "line 1: end")
	refused(t, when+other+endDo, "line 2: end")
	refused(t, when+do+endIf+endDo, "line 2: end")
	refused(t, when+do+other+endDo+endIf, "line 2: end")
	refused(t, when+other+do+endIf, "line 3: end")
	refused(t, do+when+endDo+endIf, "line 2: end")
	refused(t, do+when+other+endDo, "line 3: end")
	refused(t, do+when+endIf+other, "line 3: end")
}

func TestSecondElse(t *testing.T) {
	refused(t, when+other+other+endIf, "line 2: end")
	refused(t, when+set+other+set+"\n"+other+endIf, "line 5: end")
	refused(t, when+other+when+other+endIf+other+endIf, "line 5: end")
	refused(t, when+when+other+other, "line 3: end")
}

func TestOpen(t *testing.T) {
	refused(t, do, "line 0: open")
	refused(t, "\n"+set+when+set+"\n", "line 2: open")
	refused(t, when+other, "line 0: open")
	refused(t, do+do+when+set, "line 2: open")
	refused(t, do+do+when+endIf+set, "line 1: open")
	refused(t, do+when+other+do+endDo, "line 1: open")
	refused(t, do+do+endDo+when+endIf, "line 0: open")
	refused(t, do+endDo+do, "line 2: open")
	refused(t, strings.Repeat(do, api.MaxDeep), "line "+strconv.Itoa(api.MaxDeep-1)+": open")
}

func TestDecl(t *testing.T) {
	taken(t, decl+"\n! n\ninteger y\n"+set, "[0-0,-1 integer x][3-3,-1 integer y][4-4,-1 x = 1]")
	for _, s := range []string{set, "read x\n", "print x\n", do + endDo, when + endIf, when + other + set + endIf} {
		at := strconv.Itoa(strings.Count(s, "\n"))
		refused(t, s+decl, "line "+at+": form")
		refused(t, s+strings.TrimSuffix(decl, "\n"), "line "+at+": form")
		refused(t, decl+"\n"+s+"\n"+decl+decl, "line "+strconv.Itoa(strings.Count(s, "\n")+3)+": form")
	}
	refused(t, do+decl+endDo, "line 1: form")
	refused(t, when+decl+endIf, "line 1: form")
	refused(t, when+other+"\n"+decl+endIf, "line 3: form")
	refused(t, decl+do+do+decl, "line 3: form")
}

// P6: the first line that is wrong is told; an open block only behind all lines.
func TestFirstError(t *testing.T) {
	refused(t, do+"?\n"+endIf, "line 1: stmt 0: word 0: word")
	refused(t, do+endIf+"?\n", "line 1: end")
	refused(t, set+decl+endDo, "line 1: form")
	refused(t, set+endDo+decl, "line 1: end")
	refused(t, do+do+decl, "line 2: form")
	refused(t, do+"integer\n", "line 1: stmt 1: form")
	refused(t, do+"integer a(0)\n", "line 1: stmt 3: arg")
	refused(t, strings.Repeat(do, api.MaxDeep)+"do 5\n", "line "+strconv.Itoa(api.MaxDeep)+": stmt 1: form")
	refused(t, strings.Repeat(do, api.MaxDeep)+do+"?\n", "line "+strconv.Itoa(api.MaxDeep)+": long")
	refused(t, "end do x\n", "line 0: stmt 2: form")
	refused(t, other+strings.Repeat("x", api.MaxLine+1), "line 1: long")
	refused(t, endDo+"\x7f", "line 1: word")
}

func TestSplitRefuses(t *testing.T) {
	refused(t, strings.Repeat("\n", api.MaxText+1), "text 0: long")
	refused(t, set+"!"+strings.Repeat("n", api.MaxLine), "line 1: long")
	refused(t, set+set+"x = 1 ! \x80\n", "line 2: word")
	if l := whole(t, strings.Repeat("\n", api.MaxText)); len(l) != 0 {
		t.Errorf("P701: %d nodes of no words", len(l))
	}
	taken(t, "x = 1!"+strings.Repeat("n", api.MaxLine-6), "[0-0,-1 x = 1]")
}

// Of has lines handed in that no Split made; it asks what stmt.Parse asks, and no more.
func TestOfAlone(t *testing.T) {
	l, err := tree.Of([]string{"do i = 1, 2", "!" + strings.Repeat("n", 2*api.MaxLine), "x = 1 ! \x00", "end do"})
	if err != nil || shape(l) != "[0-3,-1 do i = 1, 2 {[2-2,-1 x = 1]|}]" {
		t.Errorf("P701: %s, %v", shape(l), err)
	}
	for _, lines := range [][]string{nil, {}, {""}, {"", "\n", " ! "}} {
		if l, err := tree.Of(lines); len(l) != 0 || err != nil {
			t.Errorf("P701: Of(%q): %v, %v", lines, l, err)
		}
	}
	if l, err := tree.Of([]string{"", "x = 1\ny = 2\n"}); len(l) != 0 || fmt.Sprint(err) != "line 1: stmt 0: word 5: word" {
		t.Errorf("P701: two lines in one: %v, %v", l, err)
	}
}

// The Faults can be asked one by one: this one's own, and the ones within.
func TestFaultsWrap(t *testing.T) {
	for s, want := range map[string]struct {
		at    int
		parts string
		err   api.Errno
	}{set + "x = 5y": {1, "line stmt word", api.ErrWord}, "\n\nx = 1 + (": {2, "line stmt expr", api.ErrForm}, "else 5": {0, "line stmt", api.ErrForm}, set + endDo: {1, "line", api.ErrEnd}, set + do: {1, "line", api.ErrOpen}, set + decl: {1, "line", api.ErrForm}, strings.Repeat(do, 9): {8, "line", api.ErrLong}, "\x00": {0, "line", api.ErrWord}, strings.Repeat(" ", api.MaxText+1): {0, "text", api.ErrLong}} {
		_, _, err := tree.Parse(s)
		var f *api.Fault
		if !errors.As(err, &f) || f.At != want.at || !errors.Is(err, want.err) {
			t.Errorf("P701: %.40q: %v", s, err)
			continue
		}
		var parts []string
		for within := err; errors.As(within, &f); within = f.Err {
			parts = append(parts, f.Part)
		}
		if strings.Join(parts, " ") != want.parts || f.Err != want.err {
			t.Errorf("P701: %.40q: %v", s, err)
		}
	}
}

// ends gives each of these blocks its end, the innermost first.
func ends(blocks []string) string {
	s := ""
	for _, b := range slices.Backward(blocks) {
		if b == do {
			s += endDo
		} else {
			s += endIf
		}
	}
	return s
}

func TestDeepAtItsBound(t *testing.T) {
	kinds := []string{do, when, when + other}
	for mix := range 3 * 3 * 3 {
		var blocks []string
		for i := range api.MaxDeep {
			blocks = append(blocks, kinds[mix/[]int{1, 3, 9}[i%3]%3])
		}
		head := strings.Join(blocks, "")
		at := "line " + strconv.Itoa(strings.Count(head, "\n"))
		bound := whole(t, head+set+ends(blocks)+do+endDo)
		if tree.Count(bound) != api.MaxDeep+2 || len(bound) != 2 {
			t.Errorf("P701: %q: %s", head, shape(bound))
		}
		refused(t, head+do+endDo+ends(blocks), at+": long")
		refused(t, head+when, at+": long")
		refused(t, head+endIf[:3], at+": stmt 1: form")
	}
	row := strings.Repeat(do+when+endIf+endDo, 3*api.MaxDeep)
	if l := whole(t, row); len(l) != 3*api.MaxDeep {
		t.Errorf("P701: blocks that stand side by side: %d", len(l))
	}
	refused(t, row+strings.Repeat(do, api.MaxDeep+1), "line "+strconv.Itoa(13*api.MaxDeep)+": long")
}

// model reads lines as the promise has the blocks, by calls within calls; the first fault ends it, by a panic with its words.
type model struct {
	lines []string
	at    int
	code  bool
}

type fault string

func (m *model) fail(at int, err string) { panic(fault(fmt.Sprintf("line %d: %s", at, err))) }

func (m *model) next() (x stmt.Stmt) {
	x, err := stmt.Parse(m.lines[m.at])
	if err != nil {
		m.fail(m.at, err.Error())
	}
	return x
}

func (m *model) block(deep int) []tree.Node {
	var l []tree.Node
	for m.at < len(m.lines) {
		n := tree.Node{Line: m.at, End: m.at, Stmt: m.next(), Mid: -1}
		switch n.Stmt.Kind {
		case stmt.EndDo, stmt.Else, stmt.EndIf:
			return l
		case stmt.Decl:
			if m.code {
				m.fail(m.at, "form")
			}
		case stmt.Do, stmt.If:
			m.inner(&n, deep+1)
		}
		m.at++
		if n.Stmt.Kind != stmt.Empty {
			l = append(l, n)
			m.code = m.code || n.Stmt.Kind != stmt.Decl
		}
	}
	return l
}

func (m *model) inner(n *tree.Node, deep int) {
	if deep > api.MaxDeep {
		m.fail(m.at, "long")
	}
	m.code = true
	m.at++
	n.Body = m.block(deep)
	end := stmt.EndDo
	if n.Stmt.Kind == stmt.If {
		end = stmt.EndIf
		if m.at < len(m.lines) && m.next().Kind == stmt.Else {
			n.Mid = m.at
			m.at++
			n.Else = m.block(deep)
		}
	}
	if m.at == len(m.lines) {
		m.fail(n.Line, "open")
	}
	if m.next().Kind != end {
		m.fail(m.at, "end")
	}
	n.End = m.at
}

// modelled is what the promise has Of answer: the nodes told, or the error.
func modelled(lines []string) (s string) {
	defer func() {
		if f, ok := recover().(fault); ok {
			s = string(f)
		}
	}()
	m := model{lines: lines}
	l := m.block(0)
	if m.at < len(lines) {
		m.fail(m.at, "end")
	}
	return told(l)
}

// held holds Of against the model over all lists of up to n of these lines, with a head ahead of them and a tail behind.
func held(t *testing.T, head []string, of []string, n int, tail []string) {
	t.Helper()
	var grow func(lines []string, n int)
	grow = func(lines []string, n int) {
		text := slices.Concat(lines, tail)
		l, err := tree.Of(text)
		got := told(l)
		if err != nil {
			got += err.Error()
		}
		if want := modelled(text); got != want {
			t.Fatalf("P701: Of(%q): %s; want %s", text, got, want)
		}
		for i := 0; i < len(of) && n > 0; i++ {
			grow(append(slices.Clip(lines), of[i]), n-1)
		}
	}
	grow(head, n)
}

func TestAllShortTexts(t *testing.T) {
	held(t, nil, []string{decl, set, do, endDo, when, other, endIf, "! n", "?"}, 4, nil)
	held(t, nil, []string{do, endDo, when, other, endIf}, 6, nil)
	held(t, nil, []string{set, when, other, endIf}, 7, nil)
}

func TestAllShortTextsNearTheBound(t *testing.T) {
	blocks := []string{do, when, do, when, when, do, do, when}
	for deep := api.MaxDeep - 2; deep <= api.MaxDeep; deep++ {
		tail, _ := line.Split(ends(blocks[:deep]))
		held(t, blocks[:deep], []string{decl, set, do, endDo, when, other, endIf}, 4, tail)
	}
}

const program = decl + do + set + when + "read x\n" + other + do + endDo + "print x\n" + endIf + endDo + "\n" + when + endIf + "print 2"

func TestWalk(t *testing.T) {
	l := whole(t, program)
	order := []string{"0:0", "1:0", "2:1", "3:1", "4:2", "6:2", "8:2", "12:0", "14:0"}
	for last := range len(order) + 1 {
		var got []string
		all := tree.Walk(l, func(n tree.Node, deep int) bool {
			got = append(got, fmt.Sprintf("%d:%d", n.Line, deep))
			return len(got) != last
		})
		want := order
		if last > 0 {
			want = order[:last]
		}
		if all != (last == 0) || !slices.Equal(got, want) {
			t.Errorf("P701: Walk till %d: %v, %v; want %v", last, got, all, want)
		}
	}
	for _, none := range [][]tree.Node{nil, {}} {
		if !tree.Walk(none, func(n tree.Node, deep int) bool { return false }) {
			t.Error("P701: Walk over none was ended")
		}
	}
}

// What f is handed is the whole node.
func TestWalkHandsWholeNodes(t *testing.T) {
	l := whole(t, program)
	var got []tree.Node
	tree.Walk(l, func(n tree.Node, deep int) bool {
		if deep == 0 {
			got = append(got, n)
		}
		return true
	})
	if told(got) != told(l) {
		t.Errorf("P701: Walk: %s; want %s", told(got), told(l))
	}
}

func TestFind(t *testing.T) {
	l := whole(t, program)
	nodes := map[int]string{}
	tree.Walk(l, func(n tree.Node, deep int) bool {
		nodes[n.Line] = told([]tree.Node{n})
		return true
	})
	for at := -3; at < 20; at++ {
		n, ok := tree.Find(l, at)
		if want, is := nodes[at]; ok != is || ok && told([]tree.Node{n}) != want {
			t.Errorf("P701: Find(%d): %v, %v", at, n, ok)
		}
		if !ok && !reflect.DeepEqual(n, tree.Node{}) {
			t.Errorf("P4: Find(%d): %v beside false", at, n)
		}
	}
	for _, at := range []int{math.MinInt, math.MaxInt} {
		if _, ok := tree.Find(l, at); ok {
			t.Errorf("P701: Find(%d)", at)
		}
	}
	if _, ok := tree.Find(nil, 0); ok {
		t.Error("P701: Find in none")
	}
}

// P9: of several that have the Line the first one is taken, as Walk goes.
func TestFindTheFirst(t *testing.T) {
	l := []tree.Node{{Line: 1, Body: []tree.Node{{Line: 2, Mid: 10}}, Else: []tree.Node{{Line: 2, Mid: 11}, {Line: 3, Mid: 12}}}, {Line: 3, Mid: 13}, {Line: 2, Mid: 14}}
	for at, mid := range map[int]int{2: 10, 3: 12} {
		if n, ok := tree.Find(l, at); !ok || n.Mid != mid {
			t.Errorf("P9: Find(%d): %v, %v", at, n, ok)
		}
	}
}

func TestCount(t *testing.T) {
	for s, want := range map[string]int{"": 0, "\n! n\n": 0, set: 1, decl + set: 2, do + endDo: 1, when + other + endIf: 1, when + set + other + set + set + endIf: 4, program: 9} {
		if n := tree.Count(whole(t, s)); n != want {
			t.Errorf("P701: Count of %q: %d; want %d", s, n, want)
		}
	}
	if tree.Count(nil) != 0 || tree.Count([]tree.Node{}) != 0 || tree.Count(make([]tree.Node, 1000)) != 1000 {
		t.Error("P701: Count of hand-made lists")
	}
}

// full has every list that a Node can have, each with spare room behind it that is marked.
func full() []tree.Node {
	parts := func() expr.Expr {
		a := []expr.Expr{{Kind: expr.Neg, A: []expr.Expr{{Kind: expr.Num, N: 1}, {N: 77}}[:1]}, {Kind: expr.Num, N: 2}, {N: 77}}
		return expr.Expr{Kind: expr.Elem, Name: "a", A: a[:2]}
	}
	leaf := func(line int) tree.Node {
		items := []stmt.Item{{Name: "a", Dims: []int64{2, 3, 77}[:2]}, {Name: "b"}, {Name: "spare"}}
		return tree.Node{Line: line, End: line, Mid: -1, Stmt: stmt.Stmt{Kind: stmt.Set, Items: items[:2], To: parts(), E: parts(), Cond: expr.Cond{Op: "<", A: parts(), B: parts()}, Name: "n", Lo: parts(), Hi: parts(), Step: 3}}
	}
	inner := leaf(1)
	inner.Body = []tree.Node{leaf(2), leaf(3), leaf(77)}[:2]
	inner.Else = []tree.Node{leaf(4), leaf(77)}[:1]
	return []tree.Node{inner, leaf(5), leaf(77)}[:2]
}

// lists gathers all lists of nodes and of what is in them, each with its spare room.
type lists struct {
	nodes [][]tree.Node
	items [][]stmt.Item
	dims  [][]int64
	exprs [][]expr.Expr
}

func (g *lists) gather(l []tree.Node) {
	g.nodes = append(g.nodes, l[:cap(l)])
	for _, n := range l[:cap(l)] {
		x := n.Stmt
		g.items = append(g.items, x.Items[:cap(x.Items)])
		for _, y := range x.Items {
			g.dims = append(g.dims, y.Dims[:cap(y.Dims)])
		}
		for _, e := range []expr.Expr{x.To, x.E, x.Cond.A, x.Cond.B, x.Lo, x.Hi} {
			g.gatherParts(e)
		}
		g.gather(n.Body)
		g.gather(n.Else)
	}
}

func (g *lists) gatherParts(e expr.Expr) {
	g.exprs = append(g.exprs, e.A[:cap(e.A)])
	for _, x := range e.A[:cap(e.A)] {
		g.gatherParts(x)
	}
}

// marked writes each list's own mark all over it, and then asks whether it is there still.
func (g *lists) marked(t *testing.T) {
	t.Helper()
	marked(t, g.nodes, func(i int) tree.Node { return tree.Node{Line: 1000 + i} }, func(x tree.Node) int { return x.Line - 1000 })
	marked(t, g.items, func(i int) stmt.Item { return stmt.Item{Name: strconv.Itoa(i)} }, func(x stmt.Item) int { n, _ := strconv.Atoi(x.Name); return n })
	marked(t, g.dims, func(i int) int64 { return int64(i) }, func(x int64) int { return int(x) })
	marked(t, g.exprs, func(i int) expr.Expr { return expr.Expr{N: int64(i)} }, func(x expr.Expr) int { return int(x.N) })
}

func marked[T any](t *testing.T, lists [][]T, mark func(i int) T, read func(x T) int) {
	t.Helper()
	for i, l := range lists {
		for j := range l {
			l[j] = mark(i)
		}
	}
	for i, l := range lists {
		for _, x := range l {
			if read(x) != i {
				t.Fatal("P2: two lists share memory")
			}
		}
	}
}

// spared tells nodes with their spare room and all that is in it.
func spared(l []tree.Node) string {
	var g lists
	g.gather(l)
	return fmt.Sprint(g)
}

// P2: no two lists of an answer share memory, nor do those of two answers.
func TestAnswersShareNothing(t *testing.T) {
	text := "integer a(2, 3), b(4)\ninteger c\n" + strings.Repeat(do+"a(i, 1) = -b(i) + 2\n"+when+"read b(1)\nread c\nread c\n"+other+"print a(1, 2)\nprint 3\nprint 3\n"+endIf+set+endDo, 3)
	var g lists
	for range 2 {
		l, lines, err := tree.Parse(text)
		m, again := tree.Of(lines)
		n, ok := tree.Find(l, 4)
		if err != nil || again != nil || !ok {
			t.Fatalf("P701: %v, %v, %v", err, again, ok)
		}
		g.gather(l)
		g.gather(m)
		g.gather([]tree.Node{n})
	}
	g.marked(t)
}

// P2: Find's answer is new memory, down to the parts of its expressions.
func TestFindAnswersNewMemory(t *testing.T) {
	for at := 1; at <= 5; at++ {
		l := full()
		before := spared(l)
		n, ok := tree.Find(l, at)
		if !ok {
			t.Fatalf("P701: Find(%d)", at)
		}
		if m, _ := tree.Find(full(), at); told([]tree.Node{n}) != told([]tree.Node{m}) {
			t.Errorf("P3: Find(%d)", at)
		}
		var g lists
		g.gather([]tree.Node{n})
		g.marked(t)
		if spared(l) != before {
			t.Errorf("P2: what Find(%d) answers shares memory with what was handed in", at)
		}
	}
}

// P2: what is handed in stays as it was, its spare room too, whatever f does with what it is handed.
func TestMemoryHandedIn(t *testing.T) {
	l := full()
	before := spared(l)
	tree.Count(l)
	tree.Find(l, 77)
	tree.Walk(l, func(n tree.Node, deep int) bool { return n.Line != 4 })
	if spared(l) != before {
		t.Error("P2: nodes were changed")
	}
	tree.Walk(l, func(n tree.Node, deep int) bool {
		var g lists
		g.gather([]tree.Node{n})
		g.marked(t)
		return true
	})
	if spared(l) != before {
		t.Error("P2: f has changed what was handed in")
	}
	lines := []string{do, set, endDo, "spare"}
	if _, err := tree.Of(lines[:3]); err != nil || !slices.Equal(lines, []string{do, set, endDo, "spare"}) {
		t.Errorf("P2: lines were changed: %q, %v", lines, err)
	}
}

// P2: nothing that was handed in is kept: the nodes stay as they are when the lines change.
func TestLinesAreNotKept(t *testing.T) {
	lines := []string{do, set, endDo}
	l, _ := tree.Of(lines)
	before := told(l)
	lines[1] = "print 5\n"
	if told(l) != before {
		t.Error("P2: lines are kept")
	}
}

// P3 and P5: a refused text leaves nothing behind.
func TestNothingIsKept(t *testing.T) {
	for range 3 {
		refused(t, do+do, "line 1: open")
		taken(t, decl, "[0-0,-1 integer x]")
		refused(t, endDo, "line 0: end")
		refused(t, strings.Repeat(when, api.MaxDeep+1), "line 8: long")
		taken(t, do+endDo, "[0-1,-1 do i = 1, 2]")
		refused(t, set+decl, "line 1: form")
		taken(t, "", "")
	}
}

// P1, P8: nodes that are none are gone through, too.
func TestNodesThatAreNone(t *testing.T) {
	odd := []tree.Node{{}, {Line: -5, End: math.MinInt, Mid: math.MaxInt, Stmt: stmt.Stmt{Kind: -1}, Body: []tree.Node{{Line: -6, Stmt: stmt.Stmt{Kind: stmt.EndDo}}}}, {Line: 9, Stmt: stmt.Stmt{Kind: stmt.Set}, Else: []tree.Node{{Line: 9}}}}
	if tree.Count(odd) != 5 {
		t.Errorf("P701: Count: %d", tree.Count(odd))
	}
	if n, ok := tree.Find(odd, -6); !ok || n.Stmt.Kind != stmt.EndDo {
		t.Errorf("P701: Find(-6): %v, %v", n, ok)
	}
}

// P1: however deep a hand-made tree is, the calls end: what they would need in calls within calls is more than is given here.
func TestDeepTrees(t *testing.T) {
	const n = 30000
	defer debug.SetMaxStack(debug.SetMaxStack(1 << 20))
	e := expr.Expr{Kind: expr.Num, N: 1}
	var body, behind []tree.Node
	for i := range n {
		e = expr.Expr{Kind: expr.Neg, A: []expr.Expr{e}}
		body = []tree.Node{{Line: n - i, Body: body}}
		behind = []tree.Node{{Line: n - i, Else: behind}}
	}
	for _, l := range [][]tree.Node{body, behind} {
		most := 0
		all := tree.Walk(l, func(n tree.Node, deep int) bool { most = deep; return n.Line == deep+1 })
		if !all || most != n-1 || tree.Count(l) != n {
			t.Errorf("P1: a deep tree: %v, %d, %d", all, most, tree.Count(l))
		}
		if _, ok := tree.Find(l, n); !ok {
			t.Error("P1: Find in a deep tree")
		}
		if m, ok := tree.Find(l, 1); !ok || tree.Count([]tree.Node{m}) != n {
			t.Error("P1: Find answers a deep tree")
		}
	}
	m, _ := tree.Find([]tree.Node{{Stmt: stmt.Stmt{Kind: stmt.Print, E: e}}}, 0)
	if !expr.Same(m.Stmt.E, e) {
		t.Error("P1: Find answers a deep expression")
	}
}

// P1: the longest texts that are taken.
func TestLongTexts(t *testing.T) {
	rows := api.MaxText / len(set)
	if l := whole(t, strings.Repeat(set, rows)); len(l) != rows || l[rows-1].Line != rows-1 {
		t.Errorf("P701: %d nodes", len(l))
	}
	rows = api.MaxText / len(do+endDo)
	l := whole(t, strings.Repeat(do+endDo, rows))
	if len(l) != rows || l[rows-1].End != 2*rows-1 || tree.Count(l) != rows {
		t.Errorf("P701: %d loops", len(l))
	}
}
