package run_test

import (
	"errors"
	"fmt"
	"math"
	"reflect"
	"runtime/debug"
	"slices"
	"strings"
	"testing"

	"furrow/api"
	"furrow/eval"
	"furrow/expr"
	"furrow/run"
	"furrow/sema"
	"furrow/stmt"
	"furrow/tree"
)

const busy = "integer i, x, a(3)\ndo i = 1, 3\nread x\nif (x > 1) then\na(i) = x\nelse\nprint a(i) - x\nend if\nprint i\nend do\n"

// P2: an answer is new memory: neither what was handed in nor another answer changes with it.
func TestAnswersShareNothing(t *testing.T) {
	l, x := parsed(t, busy)
	in := []int64{5, 1, 6, 77}
	a, b := run.Run(l, x, in[:3], 99), run.Run(l, x, in[:3], 99)
	want := told(b)
	for _, list := range [][]int64{a.Out[:cap(a.Out)], a.Store[:cap(a.Store)]} {
		for i := range list {
			list[i] = 99
		}
	}
	if told(b) != want || told(a) == want || fmt.Sprint(in) != "[5 1 6 77]" {
		t.Errorf("P2: %s, %v", told(b), in)
	}
	a = run.Run(l, x, in[:3], 99)
	for i := range a.Store[:cap(a.Store)] {
		a.Store[:cap(a.Store)][i] = 98
	}
	if fmt.Sprint(a.Out) != fmt.Sprint(b.Out) {
		t.Errorf("P2: two lists of one answer share memory: %v", a.Out)
	}
	for _, s := range []string{"print 1 / 0", "integer x\nread x", "integer a(1)\na(2) = 1", busy} {
		first, second := ran(t, s, nil, 3), ran(t, s, nil, 3)
		var f, g *api.Fault
		if !errors.As(first.Err, &f) || !errors.As(second.Err, &g) || f == g {
			t.Errorf("P7: two calls answer one Fault for %q", s)
		}
	}
}

// P2: what is handed in stays as it was, its spare room too.
func TestMemoryHandedIn(t *testing.T) {
	made := func() ([]tree.Node, sema.Table, []int64) {
		sub := []expr.Expr{{Kind: expr.Var, Name: "i"}, {Kind: expr.Num, N: 77}}
		elem := expr.Expr{Kind: expr.Elem, Name: "a", A: sub[:1]}
		sum := expr.Expr{Kind: expr.Add, A: []expr.Expr{elem, {Kind: expr.Num, N: 3}, {Kind: expr.Num, N: 78}}[:2]}
		body := []tree.Node{{Line: 2, Stmt: stmt.Stmt{Kind: stmt.Set, To: elem, E: sum}}, {Line: 3, Stmt: stmt.Stmt{Kind: stmt.Read, To: elem}}, {Line: 4, Stmt: stmt.Stmt{Kind: stmt.Print, E: sum}}, {Line: 77}}
		choice := []tree.Node{{Line: 5, Stmt: stmt.Stmt{Kind: stmt.If, Cond: expr.Cond{Op: "<", A: elem, B: sum}}, Body: body[2:3], Else: body[:1]}, {Line: 78}}
		loop := stmt.Stmt{Kind: stmt.Do, Name: "i", Lo: expr.Expr{Kind: expr.Num, N: 1}, Hi: expr.Expr{Kind: expr.Num, N: 2}, Step: 1}
		l := []tree.Node{{Line: 1, Stmt: loop, Body: body[:3]}, {Line: 6, Stmt: loop, Body: choice[:1]}, {Line: 79}}
		dims := []int64{2, 77}
		syms := []sema.Sym{{Name: "a", Dims: dims[:1], Size: 2}, {Name: "i", At: 2, Size: 1}, {Name: "spare", Dims: dims}}
		return l[:2], sema.Table{Syms: syms[:2], Cells: 3}, []int64{10, 20, 30, 40}[:3]
	}
	l, x, in := made()
	r := run.Run(l, x, in, 99)
	if got := told(r); got != "[13 23 13 23] <nil> -1 16 2 [10 20 2]" {
		t.Errorf("P1001: %s", got)
	}
	check := func(call string) {
		t.Helper()
		m, y, like := made()
		if !reflect.DeepEqual(l[:3], m[:3]) || !reflect.DeepEqual(l[0].Body[:4], m[0].Body[:4]) || !reflect.DeepEqual(l[1].Body[:2], m[1].Body[:2]) || !reflect.DeepEqual(l[0].Body[0].Stmt.E.A[:3], m[0].Body[0].Stmt.E.A[:3]) || !reflect.DeepEqual(l[0].Body[0].Stmt.To.A[:2], m[0].Body[0].Stmt.To.A[:2]) {
			t.Errorf("P2: %s changed the nodes", call)
		}
		if !reflect.DeepEqual(x.Syms[:3], y.Syms[:3]) || !slices.Equal(x.Syms[0].Dims[:2], y.Syms[0].Dims[:2]) || !slices.Equal(in[:4], like[:4]) {
			t.Errorf("P2: %s changed the table or what is read", call)
		}
	}
	check("Run")
	a := run.Result{Out: []int64{1, 2, 77}[:2], Line: -1, Store: eval.Store{1, 2, 3, 77}[:3]}
	b := run.Result{Out: []int64{1, 2, 78}[:2], Line: -1, Store: eval.Store{1, 2, 3, 78}[:3]}
	names := []string{"a", "i", "spare"}[:2]
	if !run.Same(a, b, names, x, x) {
		t.Error("P1001: Same is false")
	}
	check("Same")
	if fmt.Sprint(a.Out[:3], b.Out[:3], a.Store[:4], b.Store[:4], names[:3]) != "[1 2 77] [1 2 78] [1 2 3 77] [1 2 3 78] [a i spare]" {
		t.Error("P2: Same changed what it was handed")
	}
}

// P2: an answer stays as it is when what was handed in changes.
func TestNothingHandedInIsKept(t *testing.T) {
	l, x := parsed(t, busy)
	in := []int64{5, 1, 6}
	r := run.Run(l, x, in, 99)
	want := told(r)
	for i := range in {
		in[i] = 99
	}
	x.Syms[0].Name = "z"
	l[1].Body[0].Line = 99
	if told(r) != want {
		t.Errorf("P2: %s; want %s", told(r), want)
	}
}

// P3 and P5: what is answered hangs on what is handed in alone: each run begins with cells of 0.
func TestNothingIsKept(t *testing.T) {
	for range 3 {
		ends(t, busy, []int64{5, 1, 6}, 99, "[1 -1 2 3] <nil> -1 16 3 [3 6 5 0 6]")
		ends(t, busy, []int64{5}, 99, "[1] line 2: read 1: input 2 8 1 [2 5 5 0 0]")
		ends(t, busy, []int64{5}, 4, "[] fuel 4: fuel 4 4 1 [1 5 0 0 0]")
		ends(t, "integer x\nprint x\nx = 7", nil, 9, "[0] <nil> -1 2 0 [7]")
	}
}

func number(n int64) expr.Expr { return expr.Expr{Kind: expr.Num, N: n} }

func name(s string) expr.Expr { return expr.Expr{Kind: expr.Var, Name: s} }

func loop(index string, lo, hi, step int64, body ...tree.Node) tree.Node {
	return tree.Node{Line: 5, Stmt: stmt.Stmt{Kind: stmt.Do, Name: index, Lo: number(lo), Hi: number(hi), Step: step}, Body: body}
}

func set(s string, e expr.Expr) tree.Node {
	return tree.Node{Line: 6, Stmt: stmt.Stmt{Kind: stmt.Set, To: name(s), E: e}}
}

func show(e expr.Expr) tree.Node {
	return tree.Node{Line: 7, Stmt: stmt.Stmt{Kind: stmt.Print, E: e}}
}

// What nodes made by hand hold beside what their Kind has counts for nothing.
func TestNodesByHand(t *testing.T) {
	x := table(t, "integer i, x")
	five := []tree.Node{show(number(5))}
	full := stmt.Stmt{Items: []stmt.Item{{Name: "y"}}, To: name("x"), E: number(8), Cond: expr.Cond{Op: "<", A: number(1), B: number(2)}, Name: "i", Lo: number(1), Hi: number(1), Step: 1}
	for kind, want := range map[int]string{
		stmt.Decl: "[] <nil> -1 0 0 [0 0]", stmt.Set: "[] <nil> -1 1 0 [0 8]", stmt.Do: "[5] <nil> -1 3 0 [1 0]", stmt.If: "[5] <nil> -1 2 0 [0 0]", stmt.Read: "[] <nil> -1 1 1 [0 9]", stmt.Print: "[8] <nil> -1 1 0 [0 0]",
		stmt.Empty: "[] <nil> -1 1 0 [0 0]", stmt.EndDo: "[] <nil> -1 1 0 [0 0]", stmt.Else: "[] <nil> -1 1 0 [0 0]", stmt.EndIf: "[] <nil> -1 1 0 [0 0]", 10: "[] <nil> -1 1 0 [0 0]", -1: "[] <nil> -1 1 0 [0 0]", math.MaxInt: "[] <nil> -1 1 0 [0 0]",
	} {
		full.Kind = kind
		l := []tree.Node{{Line: 4, Mid: 3, Stmt: full, Body: five, Else: []tree.Node{show(number(6))}}}
		if got := told(run.Run(l, x, []int64{9}, 99)); got != want {
			t.Errorf("P1001: kind %d: %s; want %s", kind, got, want)
		}
	}
	for _, at := range []int{-5, math.MinInt, math.MaxInt} {
		n := show(expr.Expr{Kind: expr.Div, A: []expr.Expr{number(1), number(0)}})
		n.Line = at
		for fuel, want := range []string{fmt.Sprint("fuel ", at, ": fuel"), fmt.Sprint("line ", at, ": div 0: zero")} {
			if r := run.Run([]tree.Node{n}, x, nil, fuel); fmt.Sprint(r.Err) != want || r.Line != at {
				t.Errorf("P1001: %s; want %s", told(r), want)
			}
		}
	}
}

// Steps that no line has; and an index that the Body sets, which sema.Check takes from nobody: the turns are the head's.
func TestLoopsByHand(t *testing.T) {
	x := table(t, "integer i, x")
	inc := set("i", expr.Expr{Kind: expr.Add, A: []expr.Expr{name("i"), number(5)}})
	for _, c := range []struct {
		n    tree.Node
		want string
	}{
		{loop("i", 4, 9, 0, show(name("i"))), "[] <nil> -1 1 0 [4 0]"},
		{loop("i", math.MaxInt64, math.MinInt64, math.MinInt64, show(name("i"))), "[9223372036854775807 -1] <nil> -1 5 0 [-1 0]"},
		{loop("i", 0, math.MinInt64, math.MinInt64, show(name("i"))), "[0 -9223372036854775808] <nil> -1 5 0 [-9223372036854775808 0]"},
		{loop("i", 1, 3, 1, show(name("i")), inc), "[1 2 3] <nil> -1 10 0 [8 0]"},
		{loop("i", 1, 2, 1, loop("i", 7, 8, 1), show(name("i"))), "[8 8] <nil> -1 11 0 [8 0]"},
		{loop("i", 1, 1<<62, 1, loop("x", 1, 1<<62, 1)), "[] fuel 5: fuel 5 99 0 [1 96]"},
	} {
		if got := told(run.Run([]tree.Node{c.n}, x, nil, 99)); got != c.want {
			t.Errorf("P1001: %s; want %s", got, c.want)
		}
	}
}

// Cells that no sema.Check answers are refused (P9), and nothing is begun.
func TestCellsThatAreNone(t *testing.T) {
	l := []tree.Node{show(number(1))}
	for cells, want := range map[int64]api.Errno{-1: api.ErrArg, math.MinInt64: api.ErrArg, api.MaxCells + 1: api.ErrLong, math.MaxInt64: api.ErrLong} {
		r := run.Run(l, sema.Table{Cells: cells}, []int64{1}, 9)
		if !errors.Is(r.Err, want) || !reflect.DeepEqual(r, run.Result{Err: r.Err, Line: -1}) {
			t.Errorf("P9: %d cells: %s; want %v", cells, told(r), want)
		}
	}
	for _, cells := range []int64{0, 1, api.MaxCells} {
		if r := run.Run(l, sema.Table{Cells: cells}, nil, 9); r.Err != nil || int64(len(r.Store)) != cells {
			t.Errorf("P1001: %d cells: %s", cells, told(r))
		}
	}
}

// P1: whatever is handed in, nothing panics: tables and nodes that do not fit each other, or are none.
func TestWhatMayNotBe(t *testing.T) {
	tables := []sema.Table{{}, {Cells: 1}, {Cells: 3, Syms: []sema.Sym{{Name: "x", At: math.MaxInt}, {Name: "a", At: math.MinInt, Dims: []int64{3}}, {Name: "i", At: -1}}}, {Cells: 2, Syms: []sema.Sym{{Name: "x", At: 2}, {Name: "i", Dims: []int64{-1}}, {Name: "a", Dims: []int64{math.MaxInt64, math.MaxInt64}, Size: -5}}}, {Cells: 4, Syms: []sema.Sym{{Name: "a", At: 3, Dims: []int64{9}, Size: 9}, {Name: "", At: 4}}}}
	exprs := []expr.Expr{{}, {Kind: -1}, {Kind: 9}, number(5), number(math.MinInt64), name("x"), name("i"), name("nobody"), name("a"), {Kind: expr.Elem, Name: "a"}, {Kind: expr.Elem, Name: "a", A: []expr.Expr{number(1)}}, {Kind: expr.Elem, Name: "a", A: []expr.Expr{number(5), number(7), {}}}, {Kind: expr.Div}, {Kind: expr.Neg}}
	for _, x := range tables {
		for _, e := range exprs {
			for _, f := range exprs {
				for kind := -1; kind <= 10; kind++ {
					y := stmt.Stmt{Kind: kind, To: e, E: f, Cond: expr.Cond{Op: "<", A: e, B: f}, Name: e.Name, Lo: e, Hi: f, Step: f.N}
					n := tree.Node{Line: 3, Stmt: y, Body: []tree.Node{show(e)}, Else: []tree.Node{{Stmt: y}}}
					r := run.Run([]tree.Node{n, n}, x, []int64{1, 2, 3}, 20)
					if int64(len(r.Store)) != x.Cells || r.Steps > 20 || (r.Err == nil) != (r.Line == -1) {
						t.Errorf("P1: %s", told(r))
					}
				}
			}
		}
	}
}

// P1: however deep blocks are, Run ends: what it would need in calls within calls is more than is given here.
func TestDeepNodes(t *testing.T) {
	const n = 100000
	defer debug.SetMaxStack(debug.SetMaxStack(1 << 20))
	x := table(t, "integer i, x")
	for _, inner := range []tree.Node{show(name("i")), set("x", expr.Expr{Kind: expr.Div, A: []expr.Expr{number(1), number(0)}})} {
		l := []tree.Node{inner}
		for i := range n {
			switch i % 3 {
			case 0:
				l = []tree.Node{loop("i", 3, 3, 1, l...)}
			case 1:
				l = []tree.Node{{Line: i, Stmt: stmt.Stmt{Kind: stmt.If, Cond: expr.Cond{Op: "==", A: number(1), B: number(1)}}, Body: l}}
			case 2:
				l = []tree.Node{{Line: i, Stmt: stmt.Stmt{Kind: stmt.If, Cond: expr.Cond{Op: "<", A: number(1), B: number(1)}}, Else: l}}
			}
		}
		r := run.Run(l, x, nil, 2*n)
		if inner.Stmt.Kind == stmt.Print && (r.Err != nil || fmt.Sprint(r.Out) != "[3]") || inner.Stmt.Kind == stmt.Set && fmt.Sprint(r.Err) != "line 6: div 0: zero" {
			t.Errorf("P1: %s", told(r))
		}
		if want := n + (n+2)/3 + 1; r.Steps != want {
			t.Errorf("P1001: %d steps; want %d", r.Steps, want)
		}
	}
}

// P1: the longest texts, blocks as deep as they go, and many steps.
func TestBounds(t *testing.T) {
	head := "integer x\n"
	s := head + strings.Repeat("x=x+1\n", (api.MaxText-len(head))/6)
	count := strings.Count(s, "=")
	if r := ran(t, s, nil, count); r.Err != nil || r.Store[0] != int64(count) || r.Steps != count {
		t.Errorf("P1001: %s", told(r))
	}
	if r := ran(t, s, nil, count-1); fmt.Sprint(r.Err) != fmt.Sprintf("fuel %d: fuel", count) || r.Store[0] != int64(count-1) {
		t.Errorf("P1001: %s", told(r))
	}
	names := strings.Split("c d e f g h k l", " ")
	loops := "integer x, " + strings.Join(names, ", ") + "\n"
	for _, index := range names {
		loops += "do " + index + " = 1, 3\n"
	}
	loops += "x = x + c * d * e * f * g * h * k * l\n" + strings.Repeat("end do\n", api.MaxDeep) + "print x"
	if r := ran(t, loops, nil, plenty); r.Err != nil || fmt.Sprint(r.Out) != "[1679616]" || r.Steps != 2+6561+2*(3+9+27+81+243+729+2187)+6561 {
		t.Errorf("P1001: %v, %v, %d steps", r.Out, r.Err, r.Steps)
	}
	prints(t, "integer i\ndo i = 1, 40000\nprint i\nend do\n", nil, numbers(40000)...)
	many := numbers(30000)
	prints(t, "integer i, x\ndo i = 1, 30000\nread x\nprint x\nend do\n", many, many...)
}

func numbers(n int64) []int64 {
	var l []int64
	for i := range n {
		l = append(l, i+1)
	}
	return l
}
