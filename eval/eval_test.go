package eval_test

import (
	"errors"
	"fmt"
	"math"
	"math/big"
	"reflect"
	"runtime/debug"
	"slices"
	"strconv"
	"strings"
	"testing"

	"furrow/api"
	"furrow/eval"
	"furrow/expr"
	"furrow/sema"
	"furrow/stmt"
	"furrow/tok"
	"furrow/tree"
)

const decl = "integer x, a(3), y, b(2, 3), least, c(2, 3, 2), most, d(2, 1, 3, 2), z"

func table(t *testing.T, s string) sema.Table {
	t.Helper()
	l, _, err := tree.Parse(s)
	if err != nil {
		t.Fatalf("P701: Parse(%q): %v", s, err)
	}
	x, err := sema.Check(l)
	if err != nil {
		t.Fatalf("P801: Check of %q: %v", s, err)
	}
	return x
}

// world is decl's table, and a Store whose cells tell their place, but for those scalars that hold an edge.
func world(t *testing.T) (sema.Table, eval.Store) {
	t.Helper()
	x := table(t, decl)
	s := make(eval.Store, x.Cells)
	for i := range s {
		s[i] = int64(1000 + i)
	}
	for name, n := range map[string]int64{"x": 2, "y": -7, "z": 0, "least": math.MinInt64, "most": math.MaxInt64} {
		y, ok := x.Find(name)
		if !ok {
			t.Fatalf("P801: no %s", name)
		}
		s[y.At] = n
	}
	return x, s
}

func parsed(t *testing.T, s string) expr.Expr {
	t.Helper()
	words, err := tok.Line(s)
	if err != nil {
		t.Fatalf("P401: Line(%.60q): %v", s, err)
	}
	e, n, err := expr.Parse(words)
	if err != nil || n != len(words) {
		t.Fatalf("P501: Parse(%.60q): %d words, %v", s, n, err)
	}
	return e
}

func parsedCond(t *testing.T, s string) expr.Cond {
	t.Helper()
	words, err := tok.Line(s)
	if err != nil {
		t.Fatalf("P401: Line(%.60q): %v", s, err)
	}
	c, n, err := expr.ParseCond(words)
	if err != nil || n != len(words) {
		t.Fatalf("P501: ParseCond(%.60q): %d words, %v", s, n, err)
	}
	return c
}

// comes tells whether Eval answers just n.
func comes(t *testing.T, x sema.Table, s eval.Store, e string, want int64) {
	t.Helper()
	if n, err := eval.Eval(x, s, parsed(t, e)); err != nil || n != want {
		t.Errorf("P901: Eval of %.80s: %d, %v; want %d", e, n, err, want)
	}
}

// isFault asks for the Fault by errors.As, as for the error within by errors.Is.
func isFault(err error, part string, at int, want api.Errno) bool {
	var f *api.Fault
	return errors.As(err, &f) && f.Part == part && f.At == at && f.Err == error(want) && errors.Is(err, want)
}

func traps(t *testing.T, x sema.Table, s eval.Store, text, part string, at int, want api.Errno) {
	t.Helper()
	e := parsed(t, text)
	n, err := eval.Eval(x, s, e)
	if !isFault(err, part, at, want) {
		t.Errorf("P901: Eval of %.80s: %v; want %s %d: %v", text, err, part, at, want)
	}
	if n != 0 {
		t.Errorf("P4: Eval of %.80s: %d beside an error", text, n)
	}
	if e.Kind != expr.Elem {
		return
	}
	n, err = eval.Place(x, s, e)
	if !isFault(err, part, at, want) {
		t.Errorf("P901: Place of %.80s: %v; want %s %d: %v", text, err, part, at, want)
	}
	if n != 0 {
		t.Errorf("P4: Place of %.80s: %d beside an error", text, n)
	}
}

func out(t *testing.T, x sema.Table, s eval.Store, at int, texts ...string) {
	t.Helper()
	for _, e := range texts {
		traps(t, x, s, e, "subscript", at, api.ErrBound)
	}
}

func byNought(t *testing.T, x sema.Table, s eval.Store, texts ...string) {
	t.Helper()
	for _, e := range texts {
		traps(t, x, s, e, "div", 0, api.ErrZero)
	}
}

// elements tells all elements of an array with their subscripts, the first one fastest, by counting alone.
func elements(name string, dims []int64) []string {
	if len(dims) == 0 {
		return []string{name}
	}
	subs := make([]int64, len(dims))
	for i := range subs {
		subs[i] = 1
	}
	var l []string
	for {
		texts := make([]string, len(subs))
		for i, n := range subs {
			texts[i] = strconv.FormatInt(n, 10)
		}
		l = append(l, name+"("+strings.Join(texts, ", ")+")")
		i := 0
		for i < len(subs) && subs[i] == dims[i] {
			subs[i] = 1
			i++
		}
		if i == len(subs) {
			return l
		}
		subs[i]++
	}
}

func cells(x sema.Table) []string {
	var l []string
	for _, y := range x.Syms {
		l = append(l, elements(y.Name, y.Dims)...)
	}
	return l
}

func TestPlaces(t *testing.T) {
	for _, head := range []string{decl, "integer a(1)", "integer z, a(1, 1, 1, 1), b", "integer a(2, 3, 4, 5), b(5, 4, 3, 2)", "integer a(4096)", "integer a(1, 4096)", "integer a(8, 8, 8, 8)", "integer a(4095), b"} {
		x := table(t, head)
		s := make(eval.Store, x.Cells)
		for i := range s {
			s[i] = int64(i)*7 - 50
		}
		l := cells(x)
		if len(l) != len(s) {
			t.Fatalf("P801: %s: %d cells; want %d", head, len(s), len(l))
		}
		for i, text := range l {
			e := parsed(t, text)
			if n, err := eval.Place(x, s, e); err != nil || n != int64(i) {
				t.Fatalf("P901: %s: Place of %s: %d, %v; want %d", head, text, n, err, i)
			}
			if n, err := eval.Eval(x, s, e); err != nil || n != s[i] {
				t.Fatalf("P901: %s: Eval of %s: %d, %v; want %d", head, text, n, err, s[i])
			}
		}
	}
}

// The first goes fastest, told by hand once: b's cells are behind x, a and y.
func TestPlacesByHand(t *testing.T) {
	x, s := world(t)
	for text, want := range map[string]int64{"x": 0, "a(1)": 1, "a(3)": 3, "y": 4, "b(1, 1)": 5, "b(2, 1)": 6, "b(1, 2)": 7, "b(2, 3)": 10, "least": 11, "c(1, 1, 1)": 12, "c(2, 1, 1)": 13, "c(1, 2, 1)": 14, "c(1, 1, 2)": 18, "c(2, 3, 2)": 23, "d(1, 1, 2, 1)": 27, "d(1, 1, 1, 2)": 31, "d(2, 1, 3, 2)": 36, "z": 37,
		"a(x)": 2, "a(x - 1)": 1, "b(x, x)": 8, "a(a(1) / 1000)": 1, "b(a(2) - 1000, b(1, 1) - 1003)": 8} {
		if n, err := eval.Place(x, s, parsed(t, text)); err != nil || n != want {
			t.Errorf("P901: Place of %s: %d, %v; want %d", text, n, err, want)
		}
	}
}

func TestBounds(t *testing.T) {
	x, s := world(t)
	out(t, x, s, 0, "a(0)", "a(4)", "a(-1)", "a(z)", "a(y)", "a(least)", "a(most)", "a(x + 2)", "a(x - 2)", "b(0, 1)", "b(3, 1)", "c(3, 1, 1)", "d(0, 1, 1, 1)", "d(3, 1, 1, 1)", "a(9223372036854775807)", "a(most + 1)")
	out(t, x, s, 1, "b(1, 0)", "b(2, 4)", "b(1, -1)", "b(2, most)", "b(2, least)", "c(1, 4, 2)", "d(1, 0, 1, 1)", "d(1, 2, 1, 1)")
	out(t, x, s, 2, "c(1, 2, 3)", "c(2, 3, 0)", "d(1, 1, 0, 1)", "d(1, 1, 4, 1)")
	out(t, x, s, 3, "d(2, 1, 3, 0)", "d(2, 1, 3, 3)", "d(1, 1, 1, -9223372036854775807)")
	comes(t, x, s, "a(1)", 1001)
	comes(t, x, s, "a(3)", 1003)
	comes(t, x, s, "d(2, 1, 3, 2)", 1036)
	comes(t, x, s, "a(most + least + 2)", 1001)
	comes(t, x, s, "a(most + most + 5)", 1003) // in its bounds by going round
}

// Bounds are asked of each subscript by its own Dim, not of the cell: that of b(3, 1) is b's as well.
func TestBoundsOfEach(t *testing.T) {
	x := table(t, "integer b(2, 3), c(3, 2)")
	s := make(eval.Store, x.Cells)
	out(t, x, s, 0, "b(3, 1)", "b(0, 2)", "b(3, 2)", "c(4, 1)")
	out(t, x, s, 1, "c(1, 3)", "c(3, 3)", "b(1, 4)")
	comes(t, x, s, "b(2, 3)", 0)
	comes(t, x, s, "c(3, 2)", 0)
}

// Of several that are out the first one is told, as soon as all are known: what traps within one of them is told instead.
func TestFirstOut(t *testing.T) {
	x, s := world(t)
	out(t, x, s, 0, "b(3, 4)", "b(0, 0)", "c(0, 4, 3)", "d(3, 2, 4, 3)", "d(0, 1, 1, 0)")
	out(t, x, s, 1, "c(1, 4, 3)", "d(1, 2, 4, 3)", "d(2, 0, 1, 0)")
	out(t, x, s, 2, "d(2, 1, 0, 3)")
	byNought(t, x, s, "b(9, 1 / 0)", "b(1 / 0, 9)", "c(9, 9, 1 / z)", "c(9, 1 / 0, 9)", "d(9, 9, 9, 1 / z)", "a(1 / 0)")
	out(t, x, s, 0, "b(9, a(0))", "b(1, a(9))", "c(1, 9, a(4))", "c(1, a(b(3, 9)), 9)")
	out(t, x, s, 1, "a(b(1, 9))", "a(b(2, 0))", "b(9, b(1, 9))", "b(b(1, 9), 9)", "c(9, 9, b(1, 4))")
	out(t, x, s, 0, "b(a(0), b(1, 9))", "b(a(0), 1 / 0)", "c(a(0), 1 / 0, b(1, 9))")
	out(t, x, s, 1, "b(b(1, 9), a(0))", "b(b(1, 9), 1 / 0)")
	byNought(t, x, s, "b(1 / 0, a(0))", "c(1 / z, a(0), b(1, 9))")
}

func TestFirstError(t *testing.T) {
	x, s := world(t)
	for _, op := range []string{" + ", " - ", " * ", " / "} {
		out(t, x, s, 0, "a(9)"+op+"1 / 0", "a(9)"+op+"b(1, 9)", "a(9)"+op+"(1 / 0)", "(a(9)"+op+"1)"+op+"(1 / 0)", "a(0)"+op+"z", "z"+op+"a(0)")
		out(t, x, s, 1, "b(1, 9)"+op+"a(9)", "1"+op+"b(1, 9)"+op+"a(9)", "1"+op+"(b(1, 9)"+op+"a(9))", "-b(1, 9)"+op+"-a(9)")
		byNought(t, x, s, "(1 / 0)"+op+"a(9)", "1 / 0"+op+"a(9)", "x"+op+"(1 / z)"+op+"b(1, 9)", "-(1 / 0)"+op+"a(0)")
	}
	out(t, x, s, 0, "-a(5)", "--a(5)", "-(1 + a(5))")
	byNought(t, x, s, "1 / 0", "0 / 0", "least / z", "1 / (1 - 1)", "x / (x - 2)", "1 / -z", "1 / z * z", "-1 / 0", "x / (y / 8)", "7 / 0 / 0")
	comes(t, x, s, "0 / 1", 0)
	comes(t, x, s, "z / y", 0)
	comes(t, x, s, "(x - 2) * 5 / x", 0)
}

func TestEval(t *testing.T) {
	x, s := world(t)
	for e, want := range map[string]int64{
		"0": 0, "5": 5, "9223372036854775807": math.MaxInt64, "x": 2, "y": -7, "least": math.MinInt64, "most": math.MaxInt64, "a(2)": 1002,
		"-5": -5, "-x": -2, "-y": 7, "--x": 2, "-z": 0, "-least": math.MinInt64, "-most": -math.MaxInt64, "-(x + 3)": -5,
		"x + 3": 5, "x - 5": -3, "x - 5 - 6": -9, "x - (5 - 6)": 3, "x + y * 3": -19, "(x + y) * 3": -15, "x * y": -14, "y * -x": 14, "-x * 3": -6, "2 - -3": 5,
		"7 / x": 3, "-7 / x": -3, "7 / -x": -3, "-7 / -x": 3, "y / x": -3, "1 / 2": 0, "-1 / 2": 0, "1 / -2": 0, "8 / 2 / 2": 2, "8 / (2 / 2)": 8, "8 / 2 * 2": 8, "7 / 2 * 2": 6, "2 * 7 / 2": 7, "6 / 3": 2, "-6 / 3": -2,
		"most + 1": math.MinInt64, "least - 1": math.MaxInt64, "1 - least": -math.MaxInt64, "z - least": math.MinInt64, "most + most": -2, "least + least": 0, "least - most": 1, "most - least": -1,
		"4611686018427387904 * 2": math.MinInt64, "4611686018427387904 * 4": 0, "most * most": 1, "least * least": 0, "least * -1": math.MinInt64, "most * -1": -math.MaxInt64, "most * 2": -2, "3037000500 * 3037000500": -9223372036709301616,
		"least / -1": math.MinInt64, "least / 1": math.MinInt64, "least / (least + 1)": 1, "least / least": 1, "most / least": 0, "least / most": -1, "least / 2": -4611686018427387904, "most / -1": -math.MaxInt64, "1 / least": 0,
		"a(b(1, 1) - 1004)": 1001, "a(x) + b(x, x) * c(1, x, 1)": 1002 + 1008*1014,
	} {
		comes(t, x, s, e, want)
	}
}

// round brings a number back to 64 bits as they go round.
func round(n *big.Int) int64 {
	all := new(big.Int).Lsh(big.NewInt(1), 64)
	n = new(big.Int).Mod(n, all)
	if n.Bit(63) == 1 {
		n.Sub(n, all)
	}
	return n.Int64()
}

// operated is what an operation comes to, by numbers without a bound; false: it is by 0.
func operated(kind int, a, b int64) (int64, bool) {
	x, y, n := big.NewInt(a), big.NewInt(b), new(big.Int)
	switch kind {
	case expr.Neg:
		n.Neg(x)
	case expr.Add:
		n.Add(x, y)
	case expr.Sub:
		n.Sub(x, y)
	case expr.Mul:
		n.Mul(x, y)
	case expr.Div:
		if b == 0 {
			return 0, false
		}
		n.Quo(x, y)
	}
	return round(n), true
}

func edges() []int64 {
	l := []int64{}
	for _, n := range []int64{0, 1, 2, 3, 7, 10, 64, 1 << 31, 1<<31 + 1, 3037000499, 3037000500, 1 << 32, 1 << 62, math.MaxInt64 / 3, math.MaxInt64 - 1, math.MaxInt64, math.MinInt64, math.MinInt64 + 2} {
		l = append(l, n, -n)
	}
	slices.Sort(l)
	return slices.Compact(l)
}

func number(n int64) expr.Expr { return expr.Expr{Kind: expr.Num, N: n} }

func of(kind int, l ...expr.Expr) expr.Expr { return expr.Expr{Kind: kind, A: l} }

func TestAllEdges(t *testing.T) {
	x := table(t, "integer p, q")
	p, q := parsed(t, "p"), parsed(t, "q")
	for _, a := range edges() {
		for _, b := range edges() {
			s := eval.Store{a, b}
			for kind := expr.Neg; kind <= expr.Div; kind++ {
				e, f := of(kind, p, q), of(kind, number(a), number(b))
				if kind == expr.Neg {
					e, f = of(kind, p), of(kind, number(a))
				}
				want, ok := operated(kind, a, b)
				for _, e := range []expr.Expr{e, f} {
					n, err := eval.Eval(x, s, e)
					if n != want || ok && err != nil || !ok && !isFault(err, "div", 0, api.ErrZero) {
						t.Errorf("P901: kind %d of %d, %d: %d, %v; want %d", kind, a, b, n, err, want)
					}
				}
			}
		}
	}
}

func TestHolds(t *testing.T) {
	x := table(t, "integer p, q")
	for _, a := range edges() {
		for _, b := range edges() {
			s := eval.Store{a, b}
			sign := big.NewInt(a).Cmp(big.NewInt(b))
			for op, want := range map[string]bool{"<": sign < 0, "<=": sign <= 0, ">": sign > 0, ">=": sign >= 0, "==": sign == 0, "/=": sign != 0} {
				if ok, err := eval.Holds(x, s, parsedCond(t, "p "+op+" q")); err != nil || ok != want {
					t.Errorf("P901: %d %s %d: %v, %v", a, op, b, ok, err)
				}
			}
		}
	}
}

// A comes ahead of B, and both are worked out whole, whatever the Op.
func TestHoldsErrors(t *testing.T) {
	x, s := world(t)
	type fault struct {
		part string
		at   int
		err  api.Errno
	}
	zero, first, second := fault{"div", 0, api.ErrZero}, fault{"subscript", 0, api.ErrBound}, fault{"subscript", 1, api.ErrBound}
	for _, op := range []string{"<", "<=", ">", ">=", "==", "/="} {
		for parts, want := range map[[2]string]fault{{"1 / 0", "a(9)"}: zero, {"a(9)", "1 / 0"}: first, {"b(1, 9)", "a(9)"}: second, {"a(9)", "b(1, 9)"}: first, {"1", "1 / z"}: zero, {"1 / z", "1"}: zero, {"x", "x + b(1, 9)"}: second, {"x + b(1, 9)", "x"}: second, {"1 / 0", "1 / 0"}: zero, {"a(0)", "a(0)"}: first} {
			ok, err := eval.Holds(x, s, parsedCond(t, parts[0]+" "+op+" "+parts[1]))
			if !isFault(err, want.part, want.at, want.err) {
				t.Errorf("P901: Holds of %s %s %s: %v; want %v", parts[0], op, parts[1], err, want)
			}
			if ok {
				t.Errorf("P4: Holds of %s %s %s: true beside an error", parts[0], op, parts[1])
			}
		}
	}
	for c, want := range map[string]bool{"x < a(1)": true, "x + y == -5": true, "a(1) * 0 > z": false, "b(1, 1) - b(2, 1) /= -1": false, "least < -most": true, "least - 1 > 0": true, "7 / 2 >= 3": true, "-7 / 2 <= -4": false} {
		if ok, err := eval.Holds(x, s, parsedCond(t, c)); err != nil || ok != want {
			t.Errorf("P901: Holds of %s: %v, %v; want %v", c, ok, err, want)
		}
	}
}

// model works expressions out by calls within calls, with cells that are found by the text of an element.
type model struct {
	at map[string]int
	t  sema.Table
	s  eval.Store
}

func modelOf(x sema.Table, s eval.Store) model {
	m := model{at: map[string]int{}, t: x, s: s}
	for i, text := range cells(x) {
		m.at[text] = i
	}
	return m
}

// told is the value, or the error's words.
func (m model) told(e expr.Expr) string {
	n, err := m.value(e)
	if err != "" {
		return err
	}
	return strconv.FormatInt(n, 10)
}

func (m model) value(e expr.Expr) (int64, string) {
	l := make([]int64, 2)
	for i, y := range e.A {
		n, err := m.value(y)
		if err != "" {
			return 0, err
		}
		l = append(l[:i], n, 0)
	}
	switch e.Kind {
	case expr.Num:
		return e.N, ""
	case expr.Var, expr.Elem:
		return m.cell(e, l)
	}
	n, ok := operated(e.Kind, l[0], l[1])
	if !ok {
		return 0, "div 0: zero"
	}
	return n, ""
}

func (m model) cell(e expr.Expr, l []int64) (int64, string) {
	if e.Kind == expr.Var {
		return m.s[m.at[e.Name]], ""
	}
	numbers := make([]string, len(e.A))
	for i := range numbers {
		numbers[i] = strconv.FormatInt(l[i], 10)
	}
	if at, ok := m.at[e.Name+"("+strings.Join(numbers, ", ")+")"]; ok {
		return m.s[at], ""
	}
	for i := range numbers {
		if !m.reached(e.Name, i, numbers[i]) {
			return 0, "subscript " + strconv.Itoa(i) + ": bound"
		}
	}
	return 0, "none"
}

// reached tells whether any element of the array has this subscript there.
func (m model) reached(name string, i int, number string) bool {
	for text := range m.at {
		own, subs, _ := strings.Cut(strings.TrimSuffix(text, ")"), "(")
		if own == name && strings.Split(subs, ", ")[i] == number {
			return true
		}
	}
	return false
}

// grown lays operations and elements round all pairs of l.
func grown(l []expr.Expr) []expr.Expr {
	var made []expr.Expr
	for _, p := range l {
		made = append(made, of(expr.Neg, p), expr.Expr{Kind: expr.Elem, Name: "a", A: []expr.Expr{p}})
		for _, q := range l {
			for kind := expr.Add; kind <= expr.Div; kind++ {
				made = append(made, of(kind, p, q))
			}
			made = append(made, expr.Expr{Kind: expr.Elem, Name: "b", A: []expr.Expr{p, q}})
		}
	}
	return made
}

func TestAllSmallExpressions(t *testing.T) {
	x := table(t, "integer x, a(2), b(2, 2)")
	s := eval.Store{2, 1, 0, -1, 3, 1, math.MinInt64}
	m := modelOf(x, s)
	small := []expr.Expr{parsed(t, "x"), number(-1), number(1), number(0), parsed(t, "b(2, 2)")}
	l := grown(small)
	if len(l) < 100 {
		t.Fatalf("%d expressions alone", len(l))
	}
	for _, e := range slices.Concat(small, l, grown(slices.Concat(small[:2], l))) {
		n, err := eval.Eval(x, s, e)
		got := strconv.FormatInt(n, 10)
		if err != nil {
			got = err.Error()
		}
		if want := m.told(e); got != want {
			t.Fatalf("P901: Eval of %s: %s; want %s", expr.Text(e), got, want)
		}
		if err != nil && n != 0 {
			t.Fatalf("P4: Eval of %s: %d beside an error", expr.Text(e), n)
		}
	}
}

// All elements of each rank with subscripts that are about their bounds, or trap.
func TestAllSubscripts(t *testing.T) {
	x, s := world(t)
	m := modelOf(x, s)
	about := []string{"0", "1", "x", "3", "4", "-1", "1 / z", "a(0)", "b(x, 9)"}
	lists := []string{""}
	for n := 1; n <= 4; n++ {
		var longer []string
		for _, ahead := range lists {
			for _, e := range about {
				longer = append(longer, strings.TrimPrefix(ahead+", "+e, ", "))
			}
		}
		lists = longer
		name := []string{"a", "b", "c", "d"}[n-1]
		for _, subs := range lists {
			e := parsed(t, name+"("+subs+")")
			n, err := eval.Place(x, s, e)
			got := strconv.FormatInt(n+1000, 10) // what the cell holds, as world has it
			if err != nil {
				got = err.Error()
			}
			if want := m.told(e); got != want {
				t.Fatalf("P901: Place of %s(%s): %s; want %s", name, subs, got, want)
			}
		}
	}
}

// A scalar's cell and an element's are those of the Table that is handed in, whatever was handed in ahead of it.
func TestTablesApart(t *testing.T) {
	for range 2 {
		for head, want := range map[string]int64{"integer x, a(2)": 2, "integer a(2), x": 1, "integer z(5), a(3)": 6} {
			x := table(t, head)
			s := make(eval.Store, x.Cells)
			if n, err := eval.Place(x, s, parsed(t, "a(2)")); err != nil || n != want {
				t.Errorf("P901: %s: %d, %v; want %d", head, n, err, want)
			}
		}
	}
}

// P3 and P5: what is answered hangs on what is handed in alone.
func TestNothingIsKept(t *testing.T) {
	x, s := world(t)
	for range 3 {
		comes(t, x, s, "a(x) + y", 995)
		out(t, x, s, 1, "b(1, 9)")
		comes(t, x, s, "a(x) + y", 995)
		byNought(t, x, s, "1 / 0")
		s[0] = 3
		comes(t, x, s, "a(x) + y", 996)
		s[0] = 2
	}
}

// P2: what is handed in stays as it was, its spare room too.
func TestMemoryHandedIn(t *testing.T) {
	made := func() (sema.Table, eval.Store, expr.Expr) {
		dims := []int64{2, 2, 77, 78}
		syms := []sema.Sym{{Name: "b", Dims: dims[:2], Size: 4}, {Name: "x", At: 4, Size: 1}, {Name: "spare", Dims: dims}}
		deep := []expr.Expr{number(1), number(0), number(77)}
		sum := []expr.Expr{of(expr.Neg, number(-1)), of(expr.Add, deep[:2]...), number(78)}
		elem := expr.Expr{Kind: expr.Elem, Name: "b", A: sum[:2]}
		whole := []expr.Expr{elem, of(expr.Div, expr.Expr{Kind: expr.Var, Name: "x"}, number(2)), number(79)}
		return sema.Table{Syms: syms[:2], Cells: 5}, eval.Store{10, 20, 30, 40, 50, 77, 78}[:5], of(expr.Sub, whole[:2]...)
	}
	x, s, e := made()
	c := expr.Cond{Op: "<", A: e, B: e}
	check := func(call string) {
		t.Helper()
		y, r, f := made()
		parts, like := e.A[:3], f.A[:3]
		if !reflect.DeepEqual(x.Syms[:3], y.Syms[:3]) || !slices.Equal(x.Syms[0].Dims[:4], y.Syms[0].Dims[:4]) {
			t.Errorf("P2: %s changed the table", call)
		}
		if !slices.Equal(s[:7], r[:7]) {
			t.Errorf("P2: %s changed the store", call)
		}
		if !reflect.DeepEqual(parts, like) || !reflect.DeepEqual(parts[0].A[:3], like[0].A[:3]) || !reflect.DeepEqual(parts[0].A[1].A[:3], like[0].A[1].A[:3]) {
			t.Errorf("P2: %s changed the expression", call)
		}
	}
	if n, err := eval.Eval(x, s, e); err != nil || n != 10-25 {
		t.Errorf("P901: %d, %v", n, err)
	}
	check("Eval")
	if n, err := eval.Place(x, s, e.A[0]); err != nil || n != 0 {
		t.Errorf("P901: %d, %v", n, err)
	}
	check("Place")
	if ok, err := eval.Holds(x, s, c); err != nil || ok {
		t.Errorf("P901: %v, %v", ok, err)
	}
	check("Holds")
	e.A[0].A[1].A[0].N = 3
	if _, err := eval.Eval(x, s, e); !isFault(err, "subscript", 1, api.ErrBound) {
		t.Errorf("P901: %v", err)
	}
	e.A[0].A[1].A[0].N = 1
	check("an Eval that traps")
}

// What sema.Check takes of nodes made by hand: an Elem without subscripts, a Var and a Num with parts that they do not
// have, Nums below 0, Dims of 0, and more Dims than lines have.
func TestNodesByHand(t *testing.T) {
	bad := of(expr.Div, number(1), number(0))
	item := func(name string, dims ...int64) stmt.Item { return stmt.Item{Name: name, Dims: dims} }
	elem := func(name string, l ...int64) expr.Expr {
		e := expr.Expr{Kind: expr.Elem, Name: name}
		for _, n := range l {
			e.A = append(e.A, number(n))
		}
		return e
	}
	head := tree.Node{Stmt: stmt.Stmt{Kind: stmt.Decl, Items: []stmt.Item{item("x"), item("none", 0), item("a", 2, 1, 1, 1, 1, 3), item("y")}}}
	check := func(e expr.Expr) (sema.Table, eval.Store) {
		x, err := sema.Check([]tree.Node{head, {Line: 1, Stmt: stmt.Stmt{Kind: stmt.Print, E: e}}})
		if err != nil {
			t.Fatalf("P801: %v", err)
		}
		return x, eval.Store{5, 6, 7, 8, 9, 10, 11, 12}
	}
	y := expr.Expr{Kind: expr.Var, Name: "y", N: 99, A: []expr.Expr{bad}}
	five := expr.Expr{Kind: expr.Num, N: -5, Name: "y", A: []expr.Expr{bad}}
	for _, c := range []struct {
		e    expr.Expr
		want int64
	}{{y, 12}, {five, -5}, {elem("y"), 12}, {elem("x"), 5}, {elem("a", 1, 1, 1, 1, 1, 1), 6}, {elem("a", 2, 1, 1, 1, 1, 1), 7}, {elem("a", 1, 1, 1, 1, 1, 2), 8}, {elem("a", 2, 1, 1, 1, 1, 3), 11}, {number(math.MinInt64), math.MinInt64}} {
		x, s := check(c.e)
		if n, err := eval.Eval(x, s, c.e); err != nil || n != c.want {
			t.Errorf("P901: Eval of %v: %d, %v; want %d", c.e, n, err, c.want)
		}
		if c.e.Kind == expr.Num {
			continue
		}
		if n, err := eval.Place(x, s, c.e); err != nil || s[n] != c.want {
			t.Errorf("P901: Place of %v: %d, %v", c.e, n, err)
		}
	}
	for _, n := range []int64{0, 1, -1, math.MaxInt64, math.MinInt64} {
		e := elem("none", n)
		x, s := check(e)
		if at, err := eval.Place(x, s, e); at != 0 || !isFault(err, "subscript", 0, api.ErrBound) {
			t.Errorf("P901: Place in none: %d, %v", at, err)
		}
	}
	e := elem("a", 1, 1, 1, 1, 2, 4)
	x, s := check(e)
	if _, err := eval.Eval(x, s, e); !isFault(err, "subscript", 4, api.ErrBound) {
		t.Errorf("P901: %v", err)
	}
}

// P1: whatever is handed in, nothing panics: tables, stores, expressions that do not fit each other, or are none.
func TestWhatMayNotBe(t *testing.T) {
	x, s := world(t)
	tables := []sema.Table{{}, x, {Cells: -1}, {Cells: math.MaxInt64, Syms: []sema.Sym{{Name: "x", At: math.MaxInt}, {Name: "a", At: math.MinInt, Dims: []int64{3}}, {Name: "b", At: -1, Dims: []int64{math.MaxInt64, math.MaxInt64}}}},
		{Syms: []sema.Sym{{Name: "x", Dims: []int64{-1}}, {Name: "a"}, {Name: "b", Dims: []int64{math.MinInt64}, Size: -5}, {Name: ""}}}, {Syms: []sema.Sym{{Name: "b", Dims: []int64{1 << 40, 1 << 40, 1 << 40}, At: math.MaxInt}, {Name: "x", At: 38}, {Name: "a", At: 37, Dims: []int64{3}}}}}
	l := []expr.Expr{{}, {Kind: expr.Var}, {Kind: expr.Elem}, {Kind: expr.Var, Name: "nobody"}, {Kind: expr.Var, Name: "a"}, {Kind: expr.Elem, Name: "x"}, {Kind: -1, Name: "x"}, {Kind: 9}, {Kind: math.MaxInt}, {Kind: math.MinInt}, number(5), number(1 << 40), number(math.MaxInt64), number(math.MinInt64)}
	for kind := range 11 {
		for n := range 7 {
			for _, name := range []string{"", "x", "a", "b", "nobody"} {
				l = append(l, expr.Expr{Kind: kind - 1, Name: name, A: slices.Repeat(l[10:11], n)}, expr.Expr{Kind: kind - 1, Name: name, A: slices.Repeat([]expr.Expr{number(2), number(1 << 40), {}}, n)})
			}
		}
	}
	for _, x := range tables {
		for _, s := range []eval.Store{nil, {}, {1}, s, s[:5], append(slices.Clone(s), 1, 2, 3)} {
			for _, e := range l {
				if n, err := eval.Place(x, s, e); err != nil && n != 0 {
					t.Errorf("P4: %d, %v", n, err)
				}
				if n, err := eval.Eval(x, s, e); err != nil && n != 0 {
					t.Errorf("P4: %d, %v", n, err)
				}
				for _, op := range []string{"", "=", "<", "==", "!=", "<<", "\xff"} {
					if ok, err := eval.Holds(x, s, expr.Cond{Op: op, A: e, B: e}); err != nil && ok {
						t.Errorf("P4: true beside %v", err)
					}
				}
			}
		}
	}
}

// Errors are wrapped: a Fault of api, with nothing but Part, At and the Errno.
func TestErrorsWrap(t *testing.T) {
	x, s := world(t)
	for text, want := range map[string]api.Fault{"b(1, 7)": {Part: "subscript", At: 1, Err: api.ErrBound}, "-(1 / z)": {Part: "div", Err: api.ErrZero}, "c(1, a(b(1, 7)), 1 / 0)": {Part: "subscript", At: 1, Err: api.ErrBound}} {
		_, err := eval.Eval(x, s, parsed(t, text))
		var f *api.Fault
		if !errors.As(err, &f) || *f != want || errors.Unwrap(err) != want.Err || err.Error() != want.Error() {
			t.Errorf("P901: %s: %v; want %v", text, err, want)
		}
		if errors.Is(err, api.ErrArg) {
			t.Errorf("P901: %s: %v is ErrArg too", text, err)
		}
	}
	_, err := eval.Eval(x, s, parsed(t, "a(0)"))
	_, again := eval.Eval(x, s, parsed(t, "a(0)"))
	if fmt.Sprintf("%p", err) == fmt.Sprintf("%p", again) {
		t.Error("P7: two calls answer one Fault")
	}
}

// P1: however deep expressions are, all calls end: what they would need in calls within calls is more than is given here.
func TestDeepExpressions(t *testing.T) {
	const n = 100000
	defer debug.SetMaxStack(debug.SetMaxStack(1 << 20))
	x, s := table(t, "integer x, a(2)"), eval.Store{1, 1, 2}
	for name, want := range map[string]string{"x": "<nil>", "1 / 0": "div 0: zero", "a(x + 2)": "subscript 0: bound"} {
		e := parsed(t, name)
		for i := range n {
			switch i % 4 {
			case 0:
				e = expr.Expr{Kind: expr.Elem, Name: "a", A: []expr.Expr{e}}
			case 1:
				e = of(expr.Neg, e)
			case 2:
				e = of(expr.Add, number(1), e)
			case 3:
				e = of(expr.Sub, e, number(-1)) // x stays 1 all along
			}
		}
		got, err := eval.Eval(x, s, e)
		if fmt.Sprint(err) != want || err == nil && got != 1 || err != nil && got != 0 {
			t.Errorf("P1: %d, %v; want %s", got, err, want)
		}
		at, err := eval.Place(x, s, expr.Expr{Kind: expr.Elem, Name: "a", A: []expr.Expr{e}})
		if fmt.Sprint(err) != want || err == nil && at != 1 {
			t.Errorf("P1: %d, %v; want %s", at, err, want)
		}
		ok, err := eval.Holds(x, s, expr.Cond{Op: "==", A: number(1), B: e})
		if fmt.Sprint(err) != want || ok != (err == nil) {
			t.Errorf("P1: %v, %v; want %s", ok, err, want)
		}
	}
}

// Sums, products and subscripts as long as a line that no Split made may be.
func TestLongLines(t *testing.T) {
	const n = 20000
	x, s := table(t, "integer x, a(2), y"), eval.Store{2, 1, 2, 3}
	comes(t, x, s, "1"+strings.Repeat(" + x", n), 1+2*n)
	comes(t, x, s, "1"+strings.Repeat(" - y", n), 1-3*n)
	comes(t, x, s, "1"+strings.Repeat(" * x", 63), math.MinInt64)
	comes(t, x, s, "1"+strings.Repeat(" * x", 64), 0)
	comes(t, x, s, strings.Repeat("a(", n)+"x"+strings.Repeat(")", n), 2)
	byNought(t, x, s, "1"+strings.Repeat(" + x", n)+" / (y - 3)")
	out(t, x, s, 0, strings.Repeat("a(", n)+"y"+strings.Repeat(")", n), "1"+strings.Repeat(" + x", n)+" + a(y)")
	odd := int64(1)
	for range 41 {
		odd *= 3 // goes round
	}
	comes(t, x, s, "1"+strings.Repeat(" * y", 41), odd)
}

// The last of as many names as there can be has the last cell.
func TestManyNames(t *testing.T) {
	var head strings.Builder
	for i := range api.MaxCells {
		fmt.Fprintf(&head, "integer v%d\n", i)
	}
	x := table(t, head.String())
	s := make(eval.Store, x.Cells)
	for i := range s {
		s[i] = int64(-i)
	}
	for _, i := range []int64{0, 1, 9, 10, 100, 4094, 4095} {
		name := "v" + strconv.FormatInt(i, 10)
		comes(t, x, s, name, -i)
		if n, err := eval.Place(x, s, parsed(t, name)); err != nil || n != i {
			t.Errorf("P901: Place of %s: %d, %v", name, n, err)
		}
	}
}
