package lift_test

import (
	"errors"
	"fmt"
	"math"
	"slices"
	"testing"

	"furrow/api"
	"furrow/expr"
	"furrow/lift"
	"furrow/lin"
	"furrow/tok"
)

const (
	least = math.MinInt64
	most  = math.MaxInt64
	half  = 1 << 62
)

func number(n int64) expr.Expr    { return expr.Expr{Kind: expr.Num, N: n} }
func variable(s string) expr.Expr { return expr.Expr{Kind: expr.Var, Name: s} }

func op(kind int, a ...expr.Expr) expr.Expr { return expr.Expr{Kind: kind, A: a} }

func elem(name string, a ...expr.Expr) expr.Expr {
	return expr.Expr{Kind: expr.Elem, Name: name, A: a}
}

func parsed(t *testing.T, s string) expr.Expr {
	t.Helper()
	l, err := tok.Line(s)
	if err != nil {
		t.Fatalf("%q: %v", s, err)
	}
	e, n, err := expr.Parse(l)
	if err != nil || n != len(l) {
		t.Fatalf("%q: %d, %v", s, n, err)
	}
	return e
}

// told tells a Form in one line, or the error, and that nothing stands beside it.
func told(f lin.Form, err error) string {
	if err != nil && f.C == nil && f.K == 0 {
		return err.Error()
	}
	return fmt.Sprint(f.C, f.K, err)
}

func TestOf(t *testing.T) {
	for _, c := range [][2]string{
		{"0", "[0 0] 0 <nil>"}, {"9223372036854775807", "[0 0] 9223372036854775807 <nil>"}, {"i", "[1 0] 0 <nil>"}, {"j", "[0 1] 0 <nil>"},
		{"-i", "[-1 0] 0 <nil>"}, {"-5", "[0 0] -5 <nil>"}, {"--j", "[0 1] 0 <nil>"}, {"i + j", "[1 1] 0 <nil>"}, {"i + i", "[2 0] 0 <nil>"}, {"i - j", "[1 -1] 0 <nil>"}, {"3 - i", "[-1 0] 3 <nil>"}, {"i - 3", "[1 0] -3 <nil>"},
		{"2 * i", "[2 0] 0 <nil>"}, {"i * 2", "[2 0] 0 <nil>"}, {"2 * 3", "[0 0] 6 <nil>"}, {"(i + 2 * j - 3) * -4", "[-4 -8] 12 <nil>"}, {"-(i - j + 1)", "[-1 1] -1 <nil>"}, {"2 * i * 3", "[6 0] 0 <nil>"}, {"i - (j - (i - 1))", "[2 -1] -1 <nil>"},
		// What is constant is so by its Form, not by its words.
		{"(i - i) * j", "[0 0] 0 <nil>"}, {"j * (i - i + 3)", "[0 3] 0 <nil>"}, {"(2 * i - i - i) * (j + i)", "[0 0] 0 <nil>"}, {"(i - i) * (j - j)", "[0 0] 0 <nil>"}, {"0 * i * j", "[0 0] 0 <nil>"},
		{"a(i)", "lift 0: form"}, {"i(1)", "lift 0: form"}, {"i / 2", "lift 0: form"}, {"4 / 2", "lift 0: form"}, {"0 * a(1)", "lift 0: form"}, {"0 * (1 / 1)", "lift 0: form"},
		{"i * j", "lift 0: form"}, {"i * i", "lift 0: form"}, {"(i + 1) * (i + 1)", "lift 0: form"}, {"i * 2 * j", "lift 0: form"}, {"1 + -(i * j)", "lift 0: form"}, {"i * j * 0", "lift 0: form"}, {"i * j - i * j", "lift 0: form"}, {"(i - j) * i", "lift 0: form"},
		{"k", "lift 0: name"}, {"0 * k", "lift 0: name"}, {"k - k", "lift 0: name"}, {"-k", "lift 0: name"}, {"ii", "lift 0: name"},
		// Whatever is in an Elem, in a Div: it alone is told.
		{"a(k)", "lift 0: form"}, {"a(9223372036854775807 + 1)", "lift 0: form"}, {"k / 1", "lift 0: form"}, {"1 / k", "lift 0: form"}, {"(9223372036854775807 + 1) / 2", "lift 0: form"}, {"1 / 0", "lift 0: form"},
	} {
		if got := told(lift.Of(parsed(t, c[0]), []string{"i", "j"})); got != c[1] {
			t.Errorf("P1201: Of(%s): %s; want %s", c[0], got, c[1])
		}
	}
}

// Numbers are let in just to where 64 bits end: of each sum and product, of C and of K.
func TestOver(t *testing.T) {
	for _, c := range [][2]string{
		{"9223372036854775806 + 1", "[0 0] 9223372036854775807 <nil>"}, {"9223372036854775807 + 1", "lift 0: form 0: over"}, {"9223372036854775806 * i + i", "[9223372036854775807 0] 0 <nil>"}, {"9223372036854775807 * i + i", "lift 0: form 0: over"}, {"9223372036854775807 * j + j", "lift 0: form 0: over"},
		{"9223372036854775807 + 1 - 1", "lift 0: form 0: over"}, {"9223372036854775807 + (1 - 1)", "[0 0] 9223372036854775807 <nil>"}, {"9223372036854775807 - 1 + 1", "[0 0] 9223372036854775807 <nil>"},
		{"-9223372036854775807 - 1", "[0 0] -9223372036854775808 <nil>"}, {"-9223372036854775807 - 2", "lift 0: form 0: over"}, {"9223372036854775807 - -1", "lift 0: form 0: over"}, {"-9223372036854775807 * i - i", "[-9223372036854775808 0] 0 <nil>"}, {"-9223372036854775807 * i - 2 * i", "lift 0: form 0: over"}, {"-9223372036854775807 * j - 2 * j", "lift 0: form 0: over"},
		// The least is taken away, though it has no other side.
		{"-1 - (-9223372036854775807 - 1)", "[0 0] 9223372036854775807 <nil>"}, {"0 - (-9223372036854775807 - 1)", "lift 0: form 0: over"}, {"i - (-9223372036854775807 - 1)", "lift 0: form 0: over"}, {"-(-9223372036854775807 - 1)", "lift 0: form 0: over"}, {"-i - (-9223372036854775807 * i - i)", "[9223372036854775807 0] 0 <nil>"}, {"-(-9223372036854775807 * i - i)", "lift 0: form 0: over"},
		{"4611686018427387904 * 2", "lift 0: form 0: over"}, {"-4611686018427387904 * 2", "[0 0] -9223372036854775808 <nil>"}, {"4611686018427387904 * i * -2", "[-9223372036854775808 0] 0 <nil>"}, {"2 * (4611686018427387904 * j)", "lift 0: form 0: over"}, {"2 * (i + 4611686018427387904)", "lift 0: form 0: over"}, {"0 * (4611686018427387904 * 2)", "lift 0: form 0: over"},
	} {
		if got := told(lift.Of(parsed(t, c[0]), []string{"i", "j"})); got != c[1] {
			t.Errorf("P1201: Of(%s): %s; want %s", c[0], got, c[1])
		}
	}
	for n, want := range map[int64]string{least: "lift 0: form 0: over", least + 1: "[0] 9223372036854775807 <nil>", -5: "[0] 5 <nil>"} {
		if got := told(lift.Of(op(expr.Neg, number(n)), []string{"i"})); got != want {
			t.Errorf("P1201: Of(-(%d)): %s; want %s", n, got, want)
		}
	}
}

// P6: from the left, inside first.
func TestWhichErrorComesFirst(t *testing.T) {
	for _, c := range [][2]string{
		{"k + i * j", "lift 0: name"}, {"i * j + k", "lift 0: form"}, {"k + 1 / 2", "lift 0: name"}, {"1 / 2 + k", "lift 0: form"}, {"a(1) - k", "lift 0: form"}, {"k - a(1)", "lift 0: name"},
		{"k + (9223372036854775807 + 1)", "lift 0: name"}, {"9223372036854775807 + 1 + k", "lift 0: form 0: over"}, {"9223372036854775807 * 2 * a(1)", "lift 0: form 0: over"}, {"a(1) * (9223372036854775807 * 2)", "lift 0: form"},
		{"k * k", "lift 0: name"}, {"i * k", "lift 0: name"}, {"i * (9223372036854775807 * i * 2)", "lift 0: form 0: over"}, {"i * (j / 2 + k)", "lift 0: form"}, {"i * j * k", "lift 0: form"}, {"k * (i * j)", "lift 0: name"},
		{"-(k + 1 / 2)", "lift 0: name"}, {"9223372036854775807 + 1 - 1 / 2", "lift 0: form 0: over"}, {"1 / 2 - (9223372036854775807 + 1)", "lift 0: form"}, {"9223372036854775807 + (1 + i * j)", "lift 0: form"}, {"9223372036854775807 + (1 + k)", "lift 0: name"},
	} {
		if got := told(lift.Of(parsed(t, c[0]), []string{"i", "j"})); got != c[1] {
			t.Errorf("P6: Of(%s): %s; want %s", c[0], got, c[1])
		}
	}
}

func TestNamesOfForms(t *testing.T) {
	for _, c := range []struct {
		e     string
		names []string
		want  string
	}{
		{"i", nil, "lift 0: name"}, {"7", nil, "[] 7 <nil>"}, {"7", []string{"i"}, "[0] 7 <nil>"}, {"i", []string{"i"}, "[1] 0 <nil>"}, {"j - 2 * i + 1", []string{"k", "j", "l", "i"}, "[0 1 0 -2] 1 <nil>"},
		// Of two names that are alike the first one is taken (P9).
		{"i", []string{"i", "i"}, "[1 0] 0 <nil>"}, {"i - j", []string{"j", "i", "j", "i"}, "[-1 1 0 0] 0 <nil>"},
	} {
		if got := told(lift.Of(parsed(t, c.e), c.names)); got != c.want {
			t.Errorf("P1201: Of(%s, %q): %s; want %s", c.e, c.names, got, c.want)
		}
	}
}

func TestValue(t *testing.T) {
	for _, c := range [][2]string{
		{"5", "5 <nil>"}, {"-5", "-5 <nil>"}, {"2 * (3 - 5) + 1", "-3 <nil>"}, {"-9223372036854775807 - 1", "-9223372036854775808 <nil>"}, {"0 * 7", "0 <nil>"},
		{"i", "0 lift 0: name"}, {"5 + i", "0 lift 0: name"}, {"i - i", "0 lift 0: name"}, {"7 / 7", "0 lift 0: form"}, {"5 + a(1)", "0 lift 0: form"}, {"i / j", "0 lift 0: form"}, {"5 + 9223372036854775807", "0 lift 0: form 0: over"}, {"i + 1 / 2", "0 lift 0: name"},
	} {
		n, err := lift.Value(parsed(t, c[0]))
		if got := fmt.Sprint(n, err); got != c[1] {
			t.Errorf("P1201: Value(%s): %s; want %s", c[0], got, c[1])
		}
	}
}

func TestNames(t *testing.T) {
	for _, c := range []struct {
		e    string
		want []string
	}{
		{"5", nil}, {"i", []string{"i"}}, {"-i", []string{"i"}}, {"b + a", []string{"b", "a"}}, {"a - b * c / d", []string{"a", "b", "c", "d"}}, {"x - x", []string{"x"}}, {"x + y - x + y", []string{"x", "y"}},
		{"a(1)", []string{"a"}}, {"a(a(i))", []string{"a", "i"}}, {"a(i, b(j), i) * -a(k) / j", []string{"a", "i", "b", "j", "k"}}, {"i + a(i)", []string{"i", "a"}}, {"f(2) + f", []string{"f"}}, {"f(4, 3, y, x) + (x - 2) * (z + f)", []string{"f", "y", "x", "z"}},
	} {
		if got := lift.Names(parsed(t, c.e)); !slices.Equal(got, c.want) {
			t.Errorf("P1201: Names(%s): %q; want %q", c.e, got, c.want)
		}
	}
}

func TestSubst(t *testing.T) {
	for _, c := range [][4]string{
		{"i", "i", "j + 1", "j + 1"}, {"j", "i", "5", "j"}, {"5", "i", "j", "5"}, {"2 * i - a(i, k)", "i", "j + 1", "2 * (j + 1) - a(j + 1, k)"}, {"-i / i", "i", "i - 2", "-(i - 2) / (i - 2)"}, {"i + j", "j", "i", "i + i"},
		// An Elem of that name stays, its subscripts do not.
		{"i(1) + i", "i", "5", "i(1) + 5"}, {"i(i, j(i))", "i", "i(i)", "i(i(i), j(i(i)))"}, {"ii + i", "i", "2", "ii + 2"},
		// What is put in place is not gone over again.
		{"i + 1", "i", "i + i", "i + i + 1"}, {"-i", "i", "-i", "-(-i)"},
	} {
		e := parsed(t, c[0])
		if got := lift.Subst(e, c[1], parsed(t, c[2])); !expr.Same(got, parsed(t, c[3])) || !expr.Same(e, parsed(t, c[0])) {
			t.Errorf("P1201: Subst(%s, %s, %s): %s; want %s", c[0], c[1], c[2], expr.Text(got), c[3])
		}
	}
}

// Errors are Faults that wrap an Errno, or lin's Fault; P7: each one is new.
func TestErrors(t *testing.T) {
	for s, why := range map[string]api.Errno{"a(1)": api.ErrForm, "1 / 2": api.ErrForm, "i * i": api.ErrForm, "k": api.ErrName, "9223372036854775807 + 1": api.ErrOver, "-9223372036854775807 - 2": api.ErrOver, "9223372036854775807 * 2": api.ErrOver} {
		_, err := lift.Of(parsed(t, s), []string{"i"})
		_, again := lift.Of(parsed(t, s), []string{"i"})
		var f, g *api.Fault
		if !errors.As(err, &f) || f.Part != "lift" || f.At != 0 || !errors.Is(err, why) {
			t.Errorf("P1201: %s: %v", s, err)
			continue
		}
		if !errors.As(again, &g) || f == g {
			t.Errorf("P7: %s: two calls answer one Fault", s)
		}
		var inner, other *api.Fault
		if errors.As(f.Err, &inner) != (why == api.ErrOver) || why != api.ErrOver && f.Err != why {
			t.Errorf("P1201: %s: %v within the Fault", s, f.Err)
		}
		if inner != nil && (inner.Part != "form" || inner.At != 0 || inner.Err != why || errors.As(g.Err, &other) && inner == other) {
			t.Errorf("P1201: %s: %v within the Fault", s, f.Err)
		}
	}
}
