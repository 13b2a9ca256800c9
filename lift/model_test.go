package lift_test

import (
	"fmt"
	"math/big"
	"slices"
	"strings"
	"testing"

	"furrow/eval"
	"furrow/expr"
	"furrow/lift"
	"furrow/lin"
	"furrow/sema"
	"furrow/tok"
	"furrow/tree"
)

// everyTree calls f with each tree of leaves with at most two operations in one another (one of them at most in its second part too).
func everyTree(leaves []expr.Expr, f func(e expr.Expr)) {
	small := slices.Clone(leaves)
	for _, a := range leaves {
		small = append(small, op(expr.Neg, a), elem("a", a))
		for _, b := range leaves {
			for kind := expr.Add; kind <= expr.Div; kind++ {
				small = append(small, op(kind, a, b))
			}
		}
	}
	for _, a := range small {
		f(a)
		f(op(expr.Neg, a))
		f(elem("a", a))
		for _, b := range small {
			for kind := expr.Add; kind <= expr.Div; kind++ {
				f(op(kind, a, b))
			}
			f(elem("i", a, b))
		}
	}
}

// byRules tells the Form of e over i and j as the promise has it, rule by rule, in numbers without a bound; K is the last one.
func byRules(e expr.Expr) ([3]big.Int, string) {
	var f [3]big.Int
	var a [2][3]big.Int
	if e.Kind == expr.Elem || e.Kind == expr.Div {
		return f, "lift 0: form"
	}
	for i, x := range e.A {
		var why string
		if a[i], why = byRules(x); why != "" {
			return f, why
		}
	}
	isConst := func(i int) bool { return a[i][0].Sign() == 0 && a[i][1].Sign() == 0 }
	switch {
	case e.Kind == expr.Num:
		f[2].SetInt64(e.N)
	case e.Kind == expr.Var && e.Name != "i" && e.Name != "j":
		return f, "lift 0: name"
	case e.Kind == expr.Var:
		f[e.Name[0]-'i'].SetInt64(1)
	case e.Kind == expr.Mul && !isConst(0) && !isConst(1):
		return f, "lift 0: form"
	}
	for i := range f {
		switch e.Kind {
		case expr.Neg:
			f[i].Neg(&a[0][i])
		case expr.Add:
			f[i].Add(&a[0][i], &a[1][i])
		case expr.Sub:
			f[i].Sub(&a[0][i], &a[1][i])
		case expr.Mul:
			if isConst(0) {
				f[i].Mul(&a[1][i], &a[0][2])
			} else {
				f[i].Mul(&a[0][i], &a[1][2])
			}
		}
		if !f[i].IsInt64() {
			return f, "lift 0: form 0: over"
		}
	}
	return f, ""
}

func TestEveryForm(t *testing.T) {
	leaves := []expr.Expr{number(0), number(1), number(-2), number(half), number(most), number(least), variable("i"), variable("j"), variable("k")}
	everyTree(leaves, func(e expr.Expr) {
		f, why := byRules(e)
		want := fmt.Sprint([]*big.Int{&f[0], &f[1]}, &f[2], error(nil))
		if why != "" {
			want = why
		}
		if got := told(lift.Of(e, []string{"i", "j"})); got != want {
			t.Errorf("P1201: Of(%s): %s; want %s", expr.Text(e), got, want)
		}
	})
}

// A Form comes to what its expression comes to; that of what has by in place of i, to what it comes to with i as by is.
func TestFormsComeToWhatTheirExpressionsDo(t *testing.T) {
	nodes, _, err := tree.Parse("integer i, j\n")
	if err != nil {
		t.Fatal(err)
	}
	table, err := sema.Check(nodes)
	if err != nil {
		t.Fatal(err)
	}
	names := []string{"i", "j"}
	value := func(e expr.Expr, i, j int64) int64 {
		n, err := eval.Eval(table, eval.Store{i, j}, e)
		if err != nil {
			t.Fatal(err)
		}
		return n
	}
	by := parsed(t, "3 - 2 * j + i")
	everyTree([]expr.Expr{number(3), number(-2), variable("i"), variable("j")}, func(e expr.Expr) {
		f, err := lift.Of(e, names)
		g, err2 := lift.Of(lift.Subst(e, "i", by), names)
		for x := int64(-2); x <= 2 && err == nil; x++ {
			n, _ := lin.At(f, []int64{x, 7 - x})
			if n != value(e, x, 7-x) {
				t.Errorf("P1201: %s at %d: %d", expr.Text(e), x, n)
			}
			n, _ = lin.At(g, []int64{x, 7 - x})
			if err2 != nil || n != value(e, value(by, x, 7-x), 7-x) {
				t.Errorf("P1201: %s with %s in place of i at %d: %d, %v", expr.Text(e), expr.Text(by), x, n, err2)
			}
		}
	})
}

// namesOf tells the names of a text word by word: a Name is a Var or an Elem.
func namesOf(t *testing.T, text string) []string {
	words, err := tok.Line(text)
	if err != nil {
		t.Fatal(err)
	}
	var l []string
	for _, w := range words {
		if w.Kind == tok.Name && !slices.Contains(l, w.Text) {
			l = append(l, w.Text)
		}
	}
	return l
}

// Names, and what stands in place of a Var, held against what the words of the text are.
func TestEveryNameByItsWords(t *testing.T) {
	by := elem("b", op(expr.Sub, variable("i"), number(1)))
	everyTree([]expr.Expr{number(3), variable("i"), variable("j"), elem("c", variable("i"))}, func(e expr.Expr) {
		text := expr.Text(e)
		if got, want := lift.Names(e), namesOf(t, text); !slices.Equal(got, want) {
			t.Errorf("P1201: Names(%s): %q; want %q", text, got, want)
		}
		want := tok.Replace(strings.ReplaceAll(text, "i(", "q("), "i", "b(i - 1)")
		if got := strings.ReplaceAll(expr.Text(lift.Subst(e, "i", by)), "i(", "q("); got != want {
			t.Errorf("P1201: Subst(%s): %s; want %s", text, got, want)
		}
	})
}
