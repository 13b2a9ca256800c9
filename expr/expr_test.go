package expr_test

import (
	"errors"
	"math"
	"reflect"
	"runtime/debug"
	"slices"
	"strconv"
	"strings"
	"testing"

	"furrow/api"
	"furrow/expr"
	"furrow/tok"
)

func num(n int64) expr.Expr         { return expr.Expr{Kind: expr.Num, N: n} }
func variable(s string) expr.Expr   { return expr.Expr{Kind: expr.Var, Name: s} }
func neg(a expr.Expr) expr.Expr     { return op(expr.Neg, a) }
func add(a, b expr.Expr) expr.Expr  { return op(expr.Add, a, b) }
func sub(a, b expr.Expr) expr.Expr  { return op(expr.Sub, a, b) }
func mul(a, b expr.Expr) expr.Expr  { return op(expr.Mul, a, b) }
func quot(a, b expr.Expr) expr.Expr { return op(expr.Div, a, b) }

func op(kind int, a ...expr.Expr) expr.Expr { return expr.Expr{Kind: kind, A: a} }

func elem(name string, a ...expr.Expr) expr.Expr {
	return expr.Expr{Kind: expr.Elem, Name: name, A: a}
}

func words(t *testing.T, s string) []tok.Tok {
	t.Helper()
	l, err := tok.Line(s)
	if err != nil {
		t.Fatalf("%q: %v", s, err)
	}
	return l
}

// alike asks all fields of both, and does not lean on expr.Same. No list and an empty one are the same (P2).
func alike(a, b expr.Expr) bool {
	return a.Kind == b.Kind && a.N == b.N && a.Name == b.Name && slices.EqualFunc(a.A, b.A, alike)
}

// taken tells whether Parse answers just this tree, all fields of each part (P4), and so many words.
func taken(t *testing.T, s string, want expr.Expr, count int) {
	t.Helper()
	e, n, err := expr.Parse(words(t, s))
	if err != nil || n != count || !alike(e, want) {
		t.Errorf("P501: Parse(%q): %v, %d, %v; want %v, %d", s, e, n, err, want, count)
	}
}

// isFault tells whether err is just this Fault.
func isFault(err error, at int, inner api.Errno) bool {
	var f *api.Fault
	return errors.As(err, &f) && f.Part == "expr" && f.At == at && f.Err == inner && errors.Is(err, inner)
}

// refusedWords tells whether Parse answers just this Fault, and nothing beside it (P4).
func refusedWords(t *testing.T, l []tok.Tok, at int, inner api.Errno) {
	t.Helper()
	e, n, err := expr.Parse(l)
	if !isFault(err, at, inner) {
		t.Errorf("P501: Parse(%v): %v; want expr %d: %v", l, err, at, inner)
	}
	if n != 0 || !alike(e, expr.Expr{}) {
		t.Errorf("P4: Parse(%v): %v, %d beside an error", l, e, n)
	}
}

func refused(t *testing.T, s string, at int, inner api.Errno) {
	t.Helper()
	refusedWords(t, words(t, s), at, inner)
}

func refusedCond(t *testing.T, s string, at int, inner api.Errno) {
	t.Helper()
	c, n, err := expr.ParseCond(words(t, s))
	if !isFault(err, at, inner) {
		t.Errorf("P501: ParseCond(%q): %v; want expr %d: %v", s, err, at, inner)
	}
	if n != 0 || c.Op != "" || !alike(c.A, expr.Expr{}) || !alike(c.B, expr.Expr{}) {
		t.Errorf("P4: ParseCond(%q): %v, %d beside an error", s, c, n)
	}
}

func TestKindsAreTheFace(t *testing.T) {
	if !slices.Equal([]int{expr.Num, expr.Var, expr.Elem, expr.Neg, expr.Add, expr.Sub, expr.Mul, expr.Div}, []int{1, 2, 3, 4, 5, 6, 7, 8}) {
		t.Error("P501: the kinds' numbers")
	}
}

func TestParse(t *testing.T) {
	a, b, c := variable("a"), variable("b"), variable("c")
	taken(t, "0", num(0), 1)
	taken(t, "007", num(7), 1)
	taken(t, "9223372036854775807", num(math.MaxInt64), 1)
	taken(t, "a", a, 1)
	taken(t, "(a)", a, 3)
	taken(t, "((5))", num(5), 5)
	taken(t, "-5", neg(num(5)), 2)
	taken(t, "---a", neg(neg(neg(a))), 4)
	taken(t, "a + b + c", add(add(a, b), c), 5)
	taken(t, "a - b + c", add(sub(a, b), c), 5)
	taken(t, "a + b - c", sub(add(a, b), c), 5)
	taken(t, "a - b - c", sub(sub(a, b), c), 5)
	taken(t, "a * b / c", quot(mul(a, b), c), 5)
	taken(t, "a / b * c", mul(quot(a, b), c), 5)
	taken(t, "a / b / c", quot(quot(a, b), c), 5)
	taken(t, "a + b * c", add(a, mul(b, c)), 5)
	taken(t, "a * b + c", add(mul(a, b), c), 5)
	taken(t, "a - b / c - 1", sub(sub(a, quot(b, c)), num(1)), 7)
	taken(t, "(a + b) * c", mul(add(a, b), c), 7)
	taken(t, "a - (b - c)", sub(a, sub(b, c)), 7)
	taken(t, "a / (b * c)", quot(a, mul(b, c)), 7)
	taken(t, "-a + b", add(neg(a), b), 4)
	taken(t, "-a * b", mul(neg(a), b), 4)
	taken(t, "-(a * b)", neg(mul(a, b)), 6)
	taken(t, "a * -b * c", mul(mul(a, neg(b)), c), 6)
	taken(t, "a - -b", sub(a, neg(b)), 4)
	taken(t, "a --- b", sub(a, neg(neg(b))), 5)
	taken(t, "a + -b / c", add(a, quot(neg(b), c)), 6)
	taken(t, "-(a)(b)", neg(a), 4)
}

func TestElems(t *testing.T) {
	a, b := variable("a"), variable("b")
	taken(t, "a(1)", elem("a", num(1)), 4)
	taken(t, "a(b)", elem("a", b), 4)
	taken(t, "a(1, b)", elem("a", num(1), b), 6)
	taken(t, "a(1, 2, 3, 4)", elem("a", num(1), num(2), num(3), num(4)), 10)
	taken(t, "a(a(a))", elem("a", elem("a", a)), 7)
	taken(t, "a(b(1, 2, 3, 4), b(1, 2, 3, 4), 3, 4)", elem("a", elem("b", num(1), num(2), num(3), num(4)), elem("b", num(1), num(2), num(3), num(4)), num(3), num(4)), 28)
	taken(t, "a(1 + b, -b, (b))", elem("a", add(num(1), b), neg(b), b), 13)
	taken(t, "-a(1) * b(2)", mul(neg(elem("a", num(1))), elem("b", num(2))), 10)
	taken(t, "a(1) - a", sub(elem("a", num(1)), a), 6)
	taken(t, "(a(1))(2)", elem("a", num(1)), 6)
	taken(t, "a (1)", elem("a", num(1)), 4)
}

// What stands behind the longest is not read.
func TestWhatStandsBehind(t *testing.T) {
	a := variable("a")
	for _, rest := range []string{"b", "5", ")", ",", "=", "<", "<=", ">", ">=", "==", "/=", "do", "then", ") (", ", 1", "= +"} {
		taken(t, "a "+rest, a, 1)
		taken(t, "a + a "+rest, add(a, a), 3)
		taken(t, "(a) "+rest, a, 3)
		taken(t, "a(1) "+rest, elem("a", num(1)), 4)
	}
	taken(t, "5 (a)", num(5), 1)
	taken(t, "5 5", num(5), 1)
	taken(t, "(a) (a)", a, 3)
	taken(t, "a(1) (1)", elem("a", num(1)), 4)
}

func TestWrongForms(t *testing.T) {
	refusedWords(t, nil, 0, api.ErrForm)
	refusedWords(t, []tok.Tok{}, 0, api.ErrForm)
	for _, s := range strings.Fields("+ * / ) , = < <= > >= == /= integer do end if then else read print") {
		refused(t, s, 0, api.ErrForm)
		refused(t, s+" a", 0, api.ErrForm)
		refused(t, "- "+s, 1, api.ErrForm)
		refused(t, "( "+s, 1, api.ErrForm)
		refused(t, "a ( "+s, 2, api.ErrForm)
		refused(t, "a ( 1 , "+s, 4, api.ErrForm)
		for _, sign := range []string{"+", "-", "*", "/"} {
			refused(t, "a "+sign+" "+s, 2, api.ErrForm)
			refused(t, "(a) "+sign+" "+s+" a", 4, api.ErrForm)
		}
		if !strings.Contains("+*/)", s) {
			refused(t, "( a "+s, 2, api.ErrForm)
			refused(t, "( a "+s+" )", 2, api.ErrForm)
		}
		if !strings.Contains("+*/),", s) {
			refused(t, "a ( 1 "+s, 3, api.ErrForm)
			refused(t, "a ( 1 , 2 "+s+" )", 5, api.ErrForm)
		}
	}
}

func TestWhatIsMissingAtTheEnd(t *testing.T) {
	for s, at := range map[string]int{"-": 1, "--": 2, "(": 1, "(-": 2, "a(": 2, "a(1": 3, "a(1,": 4, "a(1,2": 5, "a +": 2, "a -": 2, "a *": 2, "a /": 2, "(a": 2, "((a)": 4, "(a + b": 4, "a(b(1)": 6, "-(a": 3, "a + b *": 4} {
		refused(t, s, at, api.ErrForm)
	}
	refused(t, "()", 1, api.ErrForm)
	refused(t, "a()", 2, api.ErrForm)
	refused(t, "(a b)", 2, api.ErrForm)
	refused(t, "(a, b)", 2, api.ErrForm)
	refused(t, "a(1 2)", 3, api.ErrForm)
	refused(t, "a((1, 2))", 4, api.ErrForm)
	refused(t, "a(1,)", 4, api.ErrForm)
}

func TestSubscriptsTooMany(t *testing.T) {
	refused(t, "a(1, 2, 3, 4, 5)", 9, api.ErrLong)
	refused(t, "a(1, 2, 3, 4,", 9, api.ErrLong)
	refused(t, "a(1, 2, 3, 4, +", 9, api.ErrLong)
	refused(t, "a(1, b(1, 2, 3, 4, 5))", 13, api.ErrLong)
	refused(t, "a(b(1), 2, 3, 4, 5)", 12, api.ErrLong)
	refused(t, "1 + (a(1, 2, 3, 4, 5))", 12, api.ErrLong)
	refused(t, "a(1, 2, 3, 4", 9, api.ErrForm)
	refused(t, "a(1, 2, 3, 4 5)", 9, api.ErrForm)
	refused(t, "a(1, 2, 3, (4, 5))", 10, api.ErrForm)
}

// nested puts each sign of marks ahead of inner, and a bracket behind it for each one that opens one.
func nested(marks, inner string) string {
	return marks + inner + strings.Repeat(")", strings.Count(marks, "("))
}

func TestNestTooDeep(t *testing.T) {
	for _, pair := range []string{"((", "--", "-(", "(-"} {
		full := strings.Repeat(pair, api.MaxNest/2)
		for _, inner := range []string{"a", "7", "a + a(1) * 2", "b(1, 2)"} {
			if inner[1:] != "" && pair[1] == '-' {
				continue
			}
			if _, n, err := expr.Parse(words(t, nested(full, inner))); err != nil || n != len(words(t, nested(full, inner))) {
				t.Errorf("P501: %d nested: %d, %v", api.MaxNest, n, err)
			}
		}
		for _, more := range []string{"(", "-"} {
			refused(t, nested(full+more, "a"), api.MaxNest, api.ErrLong)
			refused(t, full+more, api.MaxNest, api.ErrLong)
			refused(t, full+more+"+", api.MaxNest, api.ErrLong)
			refused(t, "a*"+nested(full+more, "a"), api.MaxNest+2, api.ErrLong)
		}
	}
}

// Brackets of subscripts count for nothing, but what stands in them stands in what is round it.
func TestNestThroughSubscripts(t *testing.T) {
	deep := nested(strings.Repeat("a(", 500), "1")
	if _, n, err := expr.Parse(words(t, deep)); err != nil || n != 1501 {
		t.Errorf("P501: 500 Elems in one another: %d, %v", n, err)
	}
	full := nested(strings.Repeat("-a((", api.MaxNest/2), "b")
	if _, n, err := expr.Parse(words(t, full)); err != nil || n != len(words(t, full)) {
		t.Errorf("P501: %d through subscripts: %d, %v", api.MaxNest, n, err)
	}
	refused(t, nested(strings.Repeat("-a((", api.MaxNest/2), "-b"), 4*api.MaxNest/2, api.ErrLong)
	refused(t, nested(strings.Repeat("-a((", api.MaxNest/2)+"b((", "c"), 4*api.MaxNest/2+2, api.ErrLong)
}

// What has ended is not in one another any more.
func TestNestBesideOneAnother(t *testing.T) {
	brackets := nested(strings.Repeat("(", api.MaxNest), "a")
	signs := strings.Repeat("-", api.MaxNest) + "a"
	elems := "a(" + brackets + ", " + signs + ", " + brackets + ")"
	for _, sign := range []string{"+", "-", "*", "/"} {
		s := strings.Join([]string{brackets, signs, elems, brackets, signs}, " "+sign+" ")
		if _, n, err := expr.Parse(words(t, s)); err != nil || n != len(words(t, s)) {
			t.Errorf("P501: beside one another: %d, %v", n, err)
		}
		at := len(words(t, s)) + 1 + api.MaxNest
		refused(t, s+sign+"-"+signs, at, api.ErrLong)
		refused(t, s+sign+"("+brackets+")", at, api.ErrLong)
	}
}

// P6: from the left, the first word that is wrong.
func TestFirstError(t *testing.T) {
	deep := strings.Repeat("(", api.MaxNest+1)
	refused(t, "+ "+deep, 0, api.ErrForm)
	refused(t, "a(1,2,3,4,5) + "+deep+" +", 9, api.ErrLong)
	refused(t, "a + "+deep+" + a(1,2,3,4,5", 2+api.MaxNest, api.ErrLong)
	refused(t, "a(1 1, 2, 3, 4, 5)", 3, api.ErrForm)
	refused(t, "(a b "+deep, 2, api.ErrForm)
}

// A word is what its Kind says, whatever its text.
func TestOddWords(t *testing.T) {
	for _, kind := range []int{0, -1, 5, 99, math.MaxInt, math.MinInt, tok.Key} {
		for _, s := range []string{"", "a", "5", "(", "-", "do"} {
			w := tok.Tok{Kind: kind, Text: s, N: 5}
			refusedWords(t, []tok.Tok{w}, 0, api.ErrForm)
			refusedWords(t, []tok.Tok{{Kind: tok.Sign, Text: "-"}, w}, 1, api.ErrForm)
			e, n, err := expr.Parse([]tok.Tok{{Kind: tok.Name, Text: "a"}, w})
			if err != nil || n != 1 || !alike(e, variable("a")) {
				t.Errorf("P501: a, %v: %v, %d, %v", w, e, n, err)
			}
		}
	}
	for _, s := range []string{"", "--", "a", "5", "((", "!", "\xff"} {
		refusedWords(t, []tok.Tok{{Kind: tok.Sign, Text: s, N: 5}}, 0, api.ErrForm)
	}
	e, n, err := expr.Parse([]tok.Tok{{Kind: tok.Name, Text: "(", N: 7, At: 3}, {Kind: tok.Sign, Text: "*", N: 7, At: -3}, {Kind: tok.Number, Text: "-", N: 9, At: 4}})
	if err != nil || n != 3 || !alike(e, mul(variable("("), num(9))) {
		t.Errorf("P501: kinds ahead of texts: %v, %d, %v", e, n, err)
	}
}

func TestCond(t *testing.T) {
	for _, sign := range []string{"<", "<=", ">", ">=", "==", "/="} {
		for _, rest := range []string{"", ")", ") then", "b", "= 1", "< 1", sign + " 1"} {
			s := "-a(1) " + sign + " (b) - 2 " + rest
			c, n, err := expr.ParseCond(words(t, s))
			if err != nil || n != 11 || c.Op != sign || !alike(c.A, neg(elem("a", num(1)))) || !alike(c.B, sub(variable("b"), num(2))) {
				t.Errorf("P501: ParseCond(%q): %v, %d, %v", s, c, n, err)
			}
		}
		refusedCond(t, sign, 0, api.ErrForm)
		refusedCond(t, sign+" a", 0, api.ErrForm)
		refusedCond(t, "a "+sign, 2, api.ErrForm)
		refusedCond(t, "a "+sign+" )", 2, api.ErrForm)
		refusedCond(t, "a "+sign+" "+sign+" a", 2, api.ErrForm)
		refusedCond(t, "(a "+sign+" b)", 2, api.ErrForm)
		refusedCond(t, "a + 1 "+sign+" b(1, 2, 3, 4, 5)", 13, api.ErrLong)
		refusedCond(t, "a(1, 2, 3, 4, 5) "+sign, 9, api.ErrLong)
		refusedCond(t, "a "+sign+strings.Repeat("-", 21), 22, api.ErrLong)
		refusedCond(t, "a "+sign+" b + (c", 6, api.ErrForm)
	}
	refusedCond(t, "", 0, api.ErrForm)
	refusedCond(t, "a", 1, api.ErrForm)
	for _, s := range strings.Fields("b 5 = ) , do then") {
		refusedCond(t, "a "+s+" b", 1, api.ErrForm)
		refusedCond(t, "a + a "+s, 3, api.ErrForm)
	}
	if _, _, err := expr.ParseCond([]tok.Tok{{Kind: tok.Name, Text: "a"}, {Kind: tok.Name, Text: "<"}, {Kind: tok.Name, Text: "b"}}); !isFault(err, 1, api.ErrForm) {
		t.Errorf("P501: a Name is no sign: %v", err)
	}
	full := strings.Repeat("-", api.MaxNest) + "a"
	if _, n, err := expr.ParseCond(words(t, full+" < "+full)); err != nil || n != 2*api.MaxNest+3 {
		t.Errorf("P501: each side has its own nest: %d, %v", n, err)
	}
}

// model reads words by the grammar, a call for each of its rules; bad is the first fault. It is for few words alone.
type model struct {
	l   []tok.Tok
	at  int
	bad api.Errno
}

func (m *model) is(signs ...string) bool {
	return m.bad == 0 && m.at < len(m.l) && m.l[m.at].Kind == tok.Sign && slices.Contains(signs, m.l[m.at].Text)
}

func (m *model) chain(deep int, kinds map[string]int, part func(int) expr.Expr, signs ...string) expr.Expr {
	e := part(deep)
	for m.is(signs...) {
		kind := kinds[m.l[m.at].Text]
		m.at++
		e = op(kind, e, part(deep))
	}
	return e
}

func (m *model) sum(deep int) expr.Expr {
	return m.chain(deep, map[string]int{"+": expr.Add, "-": expr.Sub}, m.term, "+", "-")
}

func (m *model) term(deep int) expr.Expr {
	return m.chain(deep, map[string]int{"*": expr.Mul, "/": expr.Div}, m.factor, "*", "/")
}

func (m *model) fail(err api.Errno) expr.Expr {
	if m.bad == 0 {
		m.bad = err
	}
	return expr.Expr{}
}

func (m *model) factor(deep int) expr.Expr {
	switch {
	case m.bad != 0 || m.at == len(m.l):
		return m.fail(api.ErrForm)
	case m.is("-", "(") && deep == api.MaxNest:
		return m.fail(api.ErrLong)
	case m.is("-"):
		m.at++
		return neg(m.factor(deep + 1))
	case m.is("("):
		m.at++
		e := m.sum(deep + 1)
		if !m.is(")") {
			return m.fail(api.ErrForm)
		}
		m.at++
		return e
	}
	w := m.l[m.at]
	switch w.Kind {
	case tok.Number:
		m.at++
		return num(w.N)
	case tok.Name:
		m.at++
		if m.is("(") {
			return m.elem(w.Text, deep)
		}
		return variable(w.Text)
	}
	return m.fail(api.ErrForm)
}

func (m *model) elem(name string, deep int) expr.Expr {
	e := elem(name)
	for m.is("(") && len(e.A) == 0 || m.is(",") {
		if len(e.A) == api.MaxRank {
			return m.fail(api.ErrLong)
		}
		m.at++
		e.A = append(e.A, m.sum(deep))
	}
	if !m.is(")") {
		return m.fail(api.ErrForm)
	}
	m.at++
	return e
}

// everyText calls f with each list of at most n of the words.
func everyText(n int, from []tok.Tok, f func(l []tok.Tok)) {
	var more func(l []tok.Tok)
	more = func(l []tok.Tok) {
		f(l)
		if len(l) < n {
			for _, w := range from {
				more(append(slices.Clone(l), w))
			}
		}
	}
	more(nil)
}

func TestParseByTheGrammar(t *testing.T) {
	ask := func(l []tok.Tok) {
		m := model{l: l}
		want := m.sum(0)
		if m.bad != 0 {
			refusedWords(t, l, m.at, m.bad)
			return
		}
		if e, n, err := expr.Parse(l); err != nil || n != m.at || !alike(e, want) {
			t.Errorf("P501: Parse(%v): %v, %d, %v; want %v, %d", l, e, n, err, want, m.at)
		}
	}
	everyText(5, words(t, "a 1 + - * / ( ) , < do"), ask)
	everyText(8, words(t, "a - * ( )"), ask)
	everyText(8, words(t, "a ( , )"), ask)
}

// everyTree answers all trees of at most n operations and Elems over the leaves.
func everyTree(n int, leaves []expr.Expr) []expr.Expr {
	by := [][]expr.Expr{leaves}
	for k := 1; k <= n; k++ {
		var l []expr.Expr
		for _, a := range by[k-1] {
			l = append(l, neg(a), elem("f", a))
		}
		for i := range k {
			for _, a := range by[i] {
				for _, b := range by[k-1-i] {
					l = append(l, add(a, b), sub(a, b), mul(a, b), quot(a, b), elem("f", a, b))
				}
			}
		}
		by = append(by, l)
	}
	return slices.Concat(by...)
}

// byRules tells a tree as the promise has it, rule by rule, a bracket for each one that it names.
func byRules(e expr.Expr) string {
	is := func(i int, kinds ...int) bool { return slices.Contains(kinds, e.A[i].Kind) }
	part := func(i int, bracketed bool) string {
		if bracketed {
			return "(" + byRules(e.A[i]) + ")"
		}
		return byRules(e.A[i])
	}
	switch e.Kind {
	case expr.Num:
		switch {
		case e.N == math.MinInt64:
			return "(-9223372036854775807 - 1)"
		case e.N < 0:
			return "(" + strconv.FormatInt(e.N, 10) + ")"
		}
		return strconv.FormatInt(e.N, 10)
	case expr.Var:
		return e.Name
	case expr.Elem:
		var l []string
		for _, a := range e.A {
			l = append(l, byRules(a))
		}
		return e.Name + "(" + strings.Join(l, ", ") + ")"
	case expr.Neg:
		return "-" + part(0, is(0, expr.Add, expr.Sub, expr.Mul, expr.Div))
	case expr.Mul, expr.Div:
		sign := map[int]string{expr.Mul: " * ", expr.Div: " / "}[e.Kind]
		return part(0, is(0, expr.Add, expr.Sub)) + sign + part(1, is(1, expr.Add, expr.Sub, expr.Mul, expr.Div, expr.Neg))
	}
	sign := map[int]string{expr.Add: " + ", expr.Sub: " - "}[e.Kind]
	return part(0, false) + sign + part(1, is(1, expr.Add, expr.Sub, expr.Neg))
}

// readAgain is the tree with its numbers below 0 as P502 has them.
func readAgain(e expr.Expr) expr.Expr {
	switch {
	case e.Kind == expr.Num && e.N == math.MinInt64:
		return sub(neg(num(math.MaxInt64)), num(1))
	case e.Kind == expr.Num && e.N < 0:
		return neg(num(-e.N))
	}
	again := expr.Expr{Kind: e.Kind, N: e.N, Name: e.Name}
	for _, a := range e.A {
		again.A = append(again.A, readAgain(a))
	}
	return again
}

// allBrackets tells a tree with each part in brackets of its own.
func allBrackets(e expr.Expr) string {
	var l []string
	for _, a := range e.A {
		l = append(l, allBrackets(a))
	}
	switch e.Kind {
	case expr.Num:
		return strconv.FormatInt(e.N, 10)
	case expr.Var:
		return e.Name
	case expr.Elem:
		return e.Name + "(" + strings.Join(l, ",") + ")"
	case expr.Neg:
		return "(-" + l[0] + ")"
	}
	return "(" + strings.Join(l, map[int]string{expr.Add: "+", expr.Sub: "-", expr.Mul: "*", expr.Div: "/"}[e.Kind]) + ")"
}

func TestTextOfEveryTree(t *testing.T) {
	for _, e := range everyTree(3, []expr.Expr{variable("a"), num(2), num(-3)}) {
		s := expr.Text(e)
		if want := byRules(e); s != want {
			t.Fatalf("P501: Text(%v): %q; want %q", e, s, want)
		}
		again, n, err := expr.Parse(words(t, s))
		if err != nil || n != len(words(t, s)) || !alike(again, readAgain(e)) {
			t.Fatalf("P502: %q: %v, %d, %v; want %v", s, again, n, err, readAgain(e))
		}
	}
}

func TestParseOfEveryTree(t *testing.T) {
	for _, e := range everyTree(3, []expr.Expr{variable("a"), num(2)}) {
		s := allBrackets(e)
		if got, n, err := expr.Parse(words(t, s)); err != nil || n != len(words(t, s)) || !alike(got, e) {
			t.Fatalf("P501: Parse(%q): %v, %d, %v; want %v", s, got, n, err, e)
		}
	}
}

func TestText(t *testing.T) {
	a, b, c := variable("a"), variable("b_1"), variable("c")
	for _, x := range []struct {
		e    expr.Expr
		want string
	}{
		{num(0), "0"},
		{num(math.MaxInt64), "9223372036854775807"},
		{num(-1), "(-1)"},
		{num(-math.MaxInt64), "(-9223372036854775807)"},
		{num(math.MinInt64), "(-9223372036854775807 - 1)"},
		{neg(num(math.MinInt64)), "-(-9223372036854775807 - 1)"},
		{sub(num(math.MinInt64), num(math.MinInt64)), "(-9223372036854775807 - 1) - (-9223372036854775807 - 1)"},
		{neg(num(-3)), "-(-3)"},
		{neg(num(3)), "-3"},
		{mul(num(-3), num(-4)), "(-3) * (-4)"},
		{elem("x", num(-3), num(math.MinInt64)), "x((-3), (-9223372036854775807 - 1))"},
		{b, "b_1"},
		{elem("x", a), "x(a)"},
		{elem("x", add(a, b), neg(a), mul(a, c), elem("y", c)), "x(a + b_1, -a, a * c, y(c))"},
		{neg(neg(a)), "--a"},
		{neg(elem("x", neg(a))), "-x(-a)"},
		{neg(add(a, c)), "-(a + c)"},
		{neg(sub(a, c)), "-(a - c)"},
		{neg(mul(a, c)), "-(a * c)"},
		{neg(quot(a, c)), "-(a / c)"},
		{add(add(a, b), c), "a + b_1 + c"},
		{add(a, add(b, c)), "a + (b_1 + c)"},
		{sub(a, sub(b, c)), "a - (b_1 - c)"},
		{add(a, mul(b, c)), "a + b_1 * c"},
		{add(mul(a, b), c), "a * b_1 + c"},
		{mul(add(a, b), c), "(a + b_1) * c"},
		{quot(a, sub(b, c)), "a / (b_1 - c)"},
		{quot(quot(a, b), c), "a / b_1 / c"},
		{quot(a, quot(b, c)), "a / (b_1 / c)"},
		{mul(a, quot(b, c)), "a * (b_1 / c)"},
		{add(neg(a), neg(c)), "-a + (-c)"},
		{sub(neg(a), neg(c)), "-a - (-c)"},
		{mul(neg(a), neg(c)), "-a * (-c)"},
		{quot(neg(a), neg(neg(c))), "-a / (--c)"},
		{sub(a, mul(neg(b), c)), "a - -b_1 * c"},
	} {
		if s := expr.Text(x.e); s != x.want {
			t.Errorf("P501: Text(%v): %q; want %q", x.e, s, x.want)
		}
		if again, _, err := expr.Parse(words(t, x.want)); err != nil || !alike(again, readAgain(x.e)) {
			t.Errorf("P502: %q: %v, %v", x.want, again, err)
		}
	}
}

// P502 at its bound: brackets and signs of MaxNest are read again; one more is refused.
func TestTextAtTheBound(t *testing.T) {
	grow := map[string]func(e expr.Expr) expr.Expr{
		"signs":             func(e expr.Expr) expr.Expr { return neg(e) },
		"second of a sum":   func(e expr.Expr) expr.Expr { return sub(num(1), e) },
		"first of products": func(e expr.Expr) expr.Expr { return mul(add(e, num(1)), num(2)) },
	}
	for name, f := range grow {
		e := add(num(1), num(2))
		if name == "signs" {
			e = num(-1)
		}
		for deep := 1; deep <= api.MaxNest+1; deep++ {
			e = f(e)
			s := expr.Text(e)
			again, n, err := expr.Parse(words(t, s))
			limit := api.MaxNest
			if name == "signs" {
				limit -= 2 // the number's own bracket and sign
			}
			if deep <= limit && (err != nil || n != len(words(t, s)) || !alike(again, readAgain(e))) {
				t.Errorf("P502: %s, %d: %q: %v", name, deep, s, err)
			}
			if deep > limit && !errors.Is(err, api.ErrLong) {
				t.Errorf("P501: %s, %d: %q: %v", name, deep, s, err)
			}
		}
	}
}

func TestCondText(t *testing.T) {
	for _, sign := range []string{"<", "<=", ">", ">=", "==", "/="} {
		c := expr.Cond{Op: sign, A: neg(num(-1)), B: add(variable("a"), neg(elem("x", num(2))))}
		s := expr.CondText(c)
		if want := "-(-1) " + sign + " a + (-x(2))"; s != want {
			t.Errorf("P501: CondText: %q; want %q", s, want)
		}
		again, n, err := expr.ParseCond(words(t, s))
		if err != nil || n != len(words(t, s)) || again.Op != sign || !alike(again.A, readAgain(c.A)) || !alike(again.B, c.B) {
			t.Errorf("P502: %q: %v, %d, %v", s, again, n, err)
		}
	}
}

func TestSame(t *testing.T) {
	l := everyTree(2, []expr.Expr{variable("a"), variable("b"), num(2), num(-2), num(math.MinInt64)})
	for i, a := range l {
		if !expr.Same(a, a) || !expr.Same(a, copied(a)) {
			t.Errorf("P501: %v is not the same as itself", a)
		}
		for _, b := range l[max(0, i-400):i] {
			if expr.Same(a, b) || expr.Same(b, a) {
				t.Fatalf("P501: %v and %v are the same", a, b)
			}
		}
	}
	for _, b := range []expr.Expr{elem("f", num(1)), elem("f", num(1), num(2)), elem("f", num(1), num(2), num(3), num(4)), elem("f", num(1), num(2), num(4)), elem("f", num(2), num(2), num(3)), elem("g", num(1), num(2), num(3)), variable("f"), num(0)} {
		a := elem("f", num(1), num(2), num(3))
		if expr.Same(a, b) || expr.Same(b, a) || expr.Same(neg(a), neg(b)) || expr.Same(add(num(1), a), add(num(1), b)) {
			t.Errorf("P501: %v and %v are the same", a, b)
		}
	}
	none, empty := num(1), num(1)
	empty.A = []expr.Expr{}
	if !expr.Same(none, empty) || !expr.Same(empty, none) {
		t.Error("P2: no list and an empty one are the same")
	}
}

func copied(e expr.Expr) expr.Expr {
	again := e
	again.Name = strings.Clone(e.Name)
	again.A = nil
	for _, a := range e.A {
		again.A = append(again.A, copied(a))
	}
	return again
}

// listsOf collects all lists of a tree, with their spare room.
func listsOf(e expr.Expr) [][]expr.Expr {
	l := [][]expr.Expr{e.A[:cap(e.A)]}
	for _, a := range e.A {
		l = append(l, listsOf(a)...)
	}
	return l
}

// P2: no two lists of an answer, or of two answers, share memory, nor their spare room.
func TestMemoryOfAnswers(t *testing.T) {
	l := words(t, "a(1 + 2, -3 * b(c(1), 2, 3), -(-4)) - 5 + a(1, 2, 3, 4) / (6 - 7) <= a(1, 2, 3)")
	one, _, _ := expr.Parse(l)
	two, _, _ := expr.Parse(l)
	c, _, err := expr.ParseCond(l)
	if err != nil {
		t.Fatal(err)
	}
	lists := slices.Concat(listsOf(one), listsOf(two), listsOf(c.A), listsOf(c.B))
	for i, x := range lists {
		for j := range x {
			x[j] = num(int64(i))
		}
	}
	for i, x := range lists {
		for j := range x {
			if x[j].N != int64(i) {
				t.Fatal("P2: two lists share memory")
			}
		}
	}
}

// P2: what is handed in stays as it was, its spare room too.
func TestMemoryHandedIn(t *testing.T) {
	all := words(t, "a(1, 2) + 3 < -b(c) then print 5")
	l := all[:11:len(all)]
	before := slices.Clone(all)
	expr.Parse(l)
	expr.ParseCond(l)
	if !slices.Equal(all, before) {
		t.Error("P2: the words were changed")
	}
	e, _, _ := expr.Parse(l)
	for i := range all {
		all[i] = tok.Tok{}
	}
	if !alike(e, add(elem("a", num(1), num(2)), num(3))) {
		t.Error("P2: the words were kept")
	}
	room := []expr.Expr{neg(num(1)), elem("f", num(-2)), num(3), num(4)}
	x := expr.Expr{Kind: expr.Sub, A: room[:2]}
	kept := copied(expr.Expr{A: room})
	expr.Text(x)
	expr.CondText(expr.Cond{Op: "<", A: x, B: x})
	expr.Same(x, x)
	if !alike(expr.Expr{A: room}, kept) {
		t.Error("P2: a tree was changed")
	}
}

// P3 and P5: a refused list leaves nothing behind.
func TestNothingIsKept(t *testing.T) {
	for range 3 {
		refused(t, strings.Repeat("-", 21), 20, api.ErrLong)
		taken(t, "-a", neg(variable("a")), 2)
		refused(t, "a(1, 2, 3, 4, 5)", 9, api.ErrLong)
		refusedCond(t, "a < (", 3, api.ErrForm)
		taken(t, "a(1)", elem("a", num(1)), 4)
	}
}

// P1, P8: trees that are none are gone through, too.
func TestTreesThatAreNone(t *testing.T) {
	parts := [][]expr.Expr{nil, {}, {num(1)}, {num(1), neg(num(2)), op(9)}, {op(expr.Neg), op(expr.Add)}, {op(-1, num(1))}, {elem("")}}
	var l []expr.Expr
	for kind := -1; kind <= 10; kind++ {
		for _, a := range parts {
			l = append(l, expr.Expr{Kind: kind, Name: "\xff(", N: math.MinInt64, A: a})
		}
	}
	for _, kind := range []int{math.MinInt, math.MaxInt} {
		l = append(l, op(kind), op(kind, op(kind)))
	}
	for _, a := range l {
		if expr.Text(a) != expr.Text(copied(a)) {
			t.Errorf("P3: Text(%v)", a)
		}
		expr.CondText(expr.Cond{A: a, B: neg(a)})
		for _, b := range l {
			if expr.Same(a, b) != reflect.DeepEqual(copied(a), copied(b)) {
				t.Errorf("P501: Same(%v, %v)", a, b)
			}
		}
	}
}

// P1: however deep words and trees go, the calls end: what they would need in calls within calls is more than is given here.
func TestDeepWordsAndTrees(t *testing.T) {
	const n = 30000
	defer debug.SetMaxStack(debug.SetMaxStack(1 << 20))
	for _, c := range []struct{ begin, middle, end string }{
		{"", "a", " + 1"},
		{"", "a", " - b * c"},
		{"", "a", " / (-2)"},
		{"a(", "1", ")"},
		{"a(b + ", "1", ", 2)"},
		{"2 * a(1, ", "b", ")"},
	} {
		s := strings.Repeat(c.begin, n) + c.middle + strings.Repeat(c.end, n)
		l := words(t, s)
		e, count, err := expr.Parse(l)
		if err != nil || count != len(l) {
			t.Fatalf("P1: %q: %d, %v", c.begin+c.middle+c.end, count, err)
		}
		again, _, _ := expr.Parse(l)
		if expr.Text(e) != s || !expr.Same(e, again) {
			t.Errorf("P1: Text, Same of %q", c.begin+c.middle+c.end)
		}
		if _, _, err = expr.Parse(l[:len(l)-1]); err == nil && c.end == ")" {
			t.Errorf("P1: %q without its end", c.begin+c.middle+c.end)
		}
		cond, count, err := expr.ParseCond(append(append(slices.Clone(l), words(t, "<")...), l...))
		if err != nil || count != 2*len(l)+1 || expr.CondText(cond) != s+" < "+s {
			t.Errorf("P1: ParseCond of %q: %d, %v", c.begin+c.middle+c.end, count, err)
		}
	}
	e := num(1)
	for range n {
		e = neg(e)
	}
	if expr.Text(e) != strings.Repeat("-", n)+"1" || !expr.Same(e, e) {
		t.Error("P1: signs in one another")
	}
	refusedWords(t, words(t, expr.Text(e)), api.MaxNest, api.ErrLong)
}
