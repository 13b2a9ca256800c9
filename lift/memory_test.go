package lift_test

import (
	"math"
	"runtime/debug"
	"slices"
	"strconv"
	"strings"
	"testing"

	"furrow/expr"
	"furrow/lift"
)

func alike(a, b expr.Expr) bool {
	return a.Kind == b.Kind && a.N == b.N && a.Name == b.Name && slices.EqualFunc(a.A, b.A, alike)
}

func copied(e expr.Expr) expr.Expr {
	again := e
	again.A = nil
	for _, a := range e.A {
		again.A = append(again.A, copied(a))
	}
	return again
}

// listsOf collects all lists of a tree, with their spare room.
func listsOf(e expr.Expr) [][]expr.Expr {
	l := [][]expr.Expr{e.A[:cap(e.A)]}
	for _, a := range e.A {
		l = append(l, listsOf(a)...)
	}
	return l
}

// spare makes lists that have room behind their ends, in which -77 stands.
func spare(e expr.Expr) expr.Expr {
	l := []expr.Expr{}
	for _, a := range e.A {
		l = append(l, spare(a))
	}
	e.A = append(l, number(-77))[:len(l)]
	return e
}

// P2: what is handed in stays as it was, its spare room too.
func TestMemoryHandedIn(t *testing.T) {
	names := []string{"i", "j", "spare"}
	by := spare(parsed(t, "b(i + 2) - 1"))
	for _, s := range []string{"i", "2 * (i - 3 * j) + -4 * i - 5", "a(i, 2 * i + 1) / 3 - i * j", "k + 1", "9223372036854775807 + 1 - i"} {
		e := spare(parsed(t, s))
		for range 2 {
			lift.Of(e, names[:2])
			lift.Value(e)
			lift.Names(e)
			lift.Subst(e, "i", by)
		}
		if !alike(e, parsed(t, s)) || !alike(by, parsed(t, "b(i + 2) - 1")) || !slices.Equal(names, []string{"i", "j", "spare"}) {
			t.Fatalf("P2: %s: what was handed in is changed", s)
		}
		for _, l := range append(listsOf(e), listsOf(by)...) {
			if len(l) == 0 || !slices.ContainsFunc(l, func(x expr.Expr) bool { return alike(x, number(-77)) }) {
				t.Fatalf("P2: %s: spare room is changed: %v", s, l)
			}
		}
	}
}

// P2: no two lists of an answer, or of two answers, share memory, nor with what was handed in; nor their spare room.
func TestAnswersShareNothing(t *testing.T) {
	e, by := spare(parsed(t, "a(i, i) + i * -i / f(2, k) - i")), spare(parsed(t, "b(j, 1) + i"))
	lists := slices.Concat(listsOf(e), listsOf(by))
	for range 2 {
		lists = append(lists, listsOf(lift.Subst(e, "i", by))...)
		lists = append(lists, listsOf(lift.Subst(e, "x", by))...)
		lists = append(lists, listsOf(lift.Subst(variable("i"), "i", by))...)
	}
	for i, x := range lists {
		for j := range x {
			x[j] = number(int64(i))
		}
	}
	for i, x := range lists {
		for j := range x {
			if x[j].N != int64(i) {
				t.Fatal("P2: two lists share memory")
			}
		}
	}
}

func TestFormsAndNamesAreNew(t *testing.T) {
	names := []string{"i", "j"}
	for _, s := range []string{"5", "i", "-i", "i + 0", "i * 1", "1 * i", "i - 0", "j - i"} {
		e := parsed(t, s)
		one, _ := lift.Of(e, names)
		two, _ := lift.Of(e, names)
		want := slices.Clone(two.C)
		room := one.C[:cap(one.C)]
		for i := range room {
			room[i] = 99
		}
		if again, _ := lift.Of(e, names); !slices.Equal(two.C, want) || !slices.Equal(again.C, want) {
			t.Errorf("P2: %s: two Forms share memory", s)
		}
	}
	e := parsed(t, "a(i) + j")
	one, two := lift.Names(e), lift.Names(e)
	clear(one[:cap(one)])
	if want := []string{"a", "i", "j"}; !slices.Equal(two, want) || !slices.Equal(lift.Names(e), want) || !alike(e, parsed(t, "a(i) + j")) {
		t.Errorf("P2: two lists of Names share memory")
	}
}

// P3 and P5: what is answered hangs on what is handed in alone.
func TestNothingIsKept(t *testing.T) {
	names := []string{"i", "j"}
	for range 3 {
		for _, c := range [][2]string{{"2 * i + k", "lift 0: name"}, {"2 * i + j", "[2 1] 0 <nil>"}, {"2 * (i * j)", "lift 0: form"}, {"j", "[0 1] 0 <nil>"}, {"9223372036854775807 * 2", "lift 0: form 0: over"}, {"7", "[0 0] 7 <nil>"}} {
			if got := told(lift.Of(parsed(t, c[0]), names)); got != c[1] {
				t.Errorf("P3: Of(%s): %s; want %s", c[0], got, c[1])
			}
		}
		names = slices.Clone(names)
	}
}

// P1, P8: trees that are none are gone through, too; none of them has a Form.
func TestTreesThatAreNone(t *testing.T) {
	parts := [][]expr.Expr{nil, {}, {number(1)}, {number(1), op(expr.Neg)}, {number(1), variable("i")}, {op(-1, number(1))}, {elem("")}, {number(1), number(2), number(3)}}
	whole := map[int]int{expr.Num: 0, expr.Var: 0, expr.Neg: 1, expr.Add: 2, expr.Sub: 2, expr.Mul: 2}
	for _, kind := range []int{math.MinInt, -1, 0, 1, 2, 3, 4, 5, 6, 7, 8, 9, 10, math.MaxInt} {
		for _, a := range parts {
			e := expr.Expr{Kind: kind, Name: "i", N: least, A: a}
			got := told(lift.Of(e, []string{"i"}))
			if n, ok := whole[kind]; (!ok || n != len(a)) && got != "lift 0: form" {
				t.Errorf("P1201: Of(%v): %s", e, got)
			}
			lift.Value(e)
			if s := lift.Names(op(expr.Neg, e, e)); !slices.Equal(s, lift.Names(e)) {
				t.Errorf("P3: Names(%v): %q", e, s)
			}
			if s := lift.Subst(e, "k", number(1)); !alike(s, copied(e)) {
				t.Errorf("P1201: Subst(%v): %v", e, s)
			}
			lift.Subst(e, "i", e)
		}
	}
	if got := told(lift.Of(expr.Expr{}, nil)); got != "lift 0: form" {
		t.Errorf("P1201: Of of nothing: %s", got)
	}
}

// P1: however deep trees go, the calls end: what they would need in calls within calls is more than is given here.
func TestDeepTrees(t *testing.T) {
	const n = 30000
	defer debug.SetMaxStack(debug.SetMaxStack(1 << 20))
	names := []string{"i", "j"}
	signs, left, right, subs := variable("i"), variable("i"), variable("i"), variable("i")
	for range n {
		signs, subs = op(expr.Neg, signs), elem("a", subs)
		left, right = op(expr.Add, left, number(1)), op(expr.Sub, number(1), right)
	}
	for i, c := range []struct {
		e    expr.Expr
		want string
	}{
		{signs, "[1 0] 0 <nil>"}, {left, "[1 0] 30000 <nil>"}, {right, "[1 0] 0 <nil>"}, {subs, "lift 0: form"},
	} {
		if got := told(lift.Of(c.e, names)); got != c.want {
			t.Errorf("P1: %d: Of: %s; want %s", i, got, c.want)
		}
		lift.Value(c.e)
		if s := lift.Names(c.e); s[len(s)-1] != "i" {
			t.Errorf("P1: %d: Names: %q", i, s)
		}
		s := lift.Subst(c.e, "i", number(5))
		if want := strings.ReplaceAll(expr.Text(c.e), "i", "5"); expr.Text(s) != want {
			t.Errorf("P1: %d: Subst", i)
		}
		if s = lift.Subst(number(1), "i", c.e); !expr.Same(s, number(1)) {
			t.Errorf("P1: %d: Subst of nothing", i)
		}
		if s = lift.Subst(variable("i"), "i", c.e); !expr.Same(s, c.e) {
			t.Errorf("P1: %d: Subst of all", i)
		}
	}
}

// P1201: of many names each one is told once, in the order in which they come first; and found among many.
func TestManyNames(t *testing.T) {
	const n = 2000
	var names []string
	e := number(0)
	for i := range 2 * n {
		name := "x" + strconv.Itoa(i%n)
		e = op(expr.Add, e, variable(name))
		if i < n {
			names = append(names, name)
		}
	}
	if got := lift.Names(e); !slices.Equal(got, names) {
		t.Errorf("P1201: %d names", len(got))
	}
	f, err := lift.Of(e, names)
	if err != nil || !slices.Equal(f.C, slices.Repeat([]int64{2}, n)) || f.K != 0 {
		t.Errorf("P1201: %d variables, %v", len(f.C), err)
	}
}
