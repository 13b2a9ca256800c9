package lin_test

import (
	"errors"
	"fmt"
	"math"
	"reflect"
	"testing"

	"furrow/api"
	"furrow/lin"
)

const (
	least = math.MinInt64
	most  = math.MaxInt64
	half  = 1 << 62
)

func form(k int64, c ...int64) lin.Form { return lin.Form{C: c, K: k} }

func list(l ...int64) []int64 { return l }

// told tells an answer in one line, a list of none and no list alike.
func told(l ...any) string { return fmt.Sprint(l...) }

func is(t *testing.T, call string, want string, answer ...any) {
	t.Helper()
	if got := told(answer...); got != want {
		t.Errorf("P1101: %s: %s; want %s", call, got, want)
	}
}

func TestConst(t *testing.T) {
	for _, c := range []struct {
		n    int
		k    int64
		want string
	}{
		{0, 0, "{[] 0}"}, {0, -1, "{[] -1}"}, {1, 7, "{[0] 7}"}, {2, 5, "{[0 0] 5}"}, {17, least, "{[0 0 0 0 0 0 0 0 0 0 0 0 0 0 0 0 0] -9223372036854775808}"},
		{-1, 7, "{[] 7}"}, {-3, most, "{[] 9223372036854775807}"}, {math.MinInt, 3, "{[] 3}"},
	} {
		is(t, told("Const", c.n, c.k), c.want, lin.Const(c.n, c.k))
	}
}

func TestIndex(t *testing.T) {
	for _, c := range []struct {
		n, i int
		want string
	}{
		{1, 0, "{[1] 0}"}, {3, 0, "{[1 0 0] 0}"}, {3, 1, "{[0 1 0] 0}"}, {3, 2, "{[0 0 1] 0}"},
		{3, 3, "{[0 0 0] 0}"}, {3, -1, "{[0 0 0] 0}"}, {3, math.MaxInt, "{[0 0 0] 0}"}, {3, math.MinInt, "{[0 0 0] 0}"},
		{0, 0, "{[] 0}"}, {0, -1, "{[] 0}"}, {-1, 0, "{[] 0}"}, {-1, -1, "{[] 0}"}, {-3, -2, "{[] 0}"}, {math.MinInt, 0, "{[] 0}"},
	} {
		is(t, told("Index", c.n, c.i), c.want, lin.Index(c.n, c.i))
	}
}

func TestAdd(t *testing.T) {
	for _, c := range []struct {
		a, b lin.Form
		want string
	}{
		{form(1, 2, 3), form(-5, 4, -3), "{[6 0] -4} <nil>"}, {form(1), form(2), "{[] 3} <nil>"}, {form(0, 0), form(0, 0), "{[0] 0} <nil>"},
		{form(least, most, least), form(0, 0, 0), "{[9223372036854775807 -9223372036854775808] -9223372036854775808} <nil>"},
		{form(most, least, 1), form(least, most, most-1), "{[-1 9223372036854775807] -1} <nil>"},
		{form(0, most), form(0, 1), "{[] 0} form 0: over"}, {form(0, 1, least), form(0, 1, -1), "{[] 0} form 0: over"}, {form(least, 1), form(-1, 1), "{[] 0} form 0: over"},
		{form(1, 2), form(1), "{[] 0} form 0: arg"}, {form(1), form(1, 0), "{[] 0} form 0: arg"}, {form(1, 2, 3), form(1, 2, 3, 0), "{[] 0} form 0: arg"},
		{form(most, most), form(most), "{[] 0} form 0: arg"}, {form(least, least), form(least, least, least), "{[] 0} form 0: arg"},
	} {
		f, err := lin.Add(c.a, c.b)
		is(t, told("Add", c.a, c.b), c.want, f, err)
		f, err = lin.Add(c.b, c.a)
		is(t, told("Add", c.b, c.a), c.want, f, err)
	}
}

func TestScale(t *testing.T) {
	for _, c := range []struct {
		a    lin.Form
		k    int64
		want string
	}{
		{form(1, 2, -3), -2, "{[-4 6] -2} <nil>"}, {form(1, 2, 3), 1, "{[2 3] 1} <nil>"}, {form(least, most), 0, "{[0] 0} <nil>"}, {form(4), 5, "{[] 20} <nil>"},
		{form(least, least), 1, "{[-9223372036854775808] -9223372036854775808} <nil>"}, {form(most, most), -1, "{[-9223372036854775807] -9223372036854775807} <nil>"},
		{form(0, -1), least, "{[] 0} form 0: over"}, {form(-half, 0), 2, "{[0] -9223372036854775808} <nil>"},
		{form(0, least), -1, "{[] 0} form 0: over"}, {form(least, 0), -1, "{[] 0} form 0: over"}, {form(0, 1), least, "{[-9223372036854775808] 0} <nil>"},
		{form(half), 2, "{[] 0} form 0: over"}, {form(1, half, 1), 2, "{[] 0} form 0: over"}, {form(1, 1, half), -3, "{[] 0} form 0: over"}, {form(1, 1, -half), -2, "{[] 0} form 0: over"},
	} {
		f, err := lin.Scale(c.a, c.k)
		is(t, told("Scale", c.a, c.k), c.want, f, err)
	}
}

func TestAt(t *testing.T) {
	for _, c := range []struct {
		a    lin.Form
		x    []int64
		want string
	}{
		{form(5, 2, -3), list(10, 4), "13 <nil>"}, {form(5), nil, "5 <nil>"}, {form(5), list(), "5 <nil>"}, {form(0, 0), list(least), "0 <nil>"}, {form(7, most), list(0), "7 <nil>"},
		{form(0, 1), list(least), "-9223372036854775808 <nil>"}, {form(least, 1), list(most), "-1 <nil>"}, {form(0, -1), list(most), "-9223372036854775807 <nil>"},
		{form(0, 2), list(most), "0 form 0: over"}, {form(0, -1), list(least), "0 form 0: over"}, {form(0, 1, 1), list(least, -1), "0 form 0: over"}, {form(1, 1), list(most), "0 form 0: over"}, {form(-1, 1), list(least), "0 form 0: over"},
		// One after the other: what comes behind does not lead back.
		{form(0, 1, 1, -1), list(most, 1, 1), "0 form 0: over"}, {form(0, 1, -1, 1), list(most, 1, 1), "9223372036854775807 <nil>"}, {form(-1, 1, 1), list(most, 1), "0 form 0: over"}, {form(-2, 1, -1, 1), list(most, 1, 1), "9223372036854775805 <nil>"},
		{form(0, 2, -2), list(half, half), "0 form 0: over"}, {form(0, -2, 2), list(half, half), "0 form 0: over"}, {form(0, -2, 1, 1), list(half, half, half), "0 <nil>"},
		{form(5, 1), nil, "0 form 0: arg"}, {form(5), list(0), "0 form 0: arg"}, {form(5, 1, 2), list(1), "0 form 0: arg"}, {form(5, 1), list(1, 2), "0 form 0: arg"},
		{form(most, most, 1), list(most), "0 form 0: arg"}, {form(most, most), list(most, most), "0 form 0: arg"},
	} {
		v, err := lin.At(c.a, c.x)
		is(t, told("At", c.a, c.x), c.want, v, err)
	}
}

func TestSame(t *testing.T) {
	for _, c := range []struct {
		a, b lin.Form
		want bool
	}{
		{form(1), form(1), true}, {form(1), form(2), false}, {form(1, 2), form(1, 2), true}, {form(1, 2), form(2, 2), false}, {form(1, 2), form(1, 3), false}, {form(1, 2), form(1, -2), false},
		{form(1, 0), form(1), true}, {form(1, 0, 0), form(1), true}, {form(1, 0, 5), form(1), false}, {form(1, 0, 0), form(2), false}, {form(1, 2), form(1, 2, 0), true}, {form(1, 2), form(1, 2, 3), false}, {form(1, 2), form(1, 3, 0), false},
		{form(1, 2, 3), form(1, 3, 2), false}, {form(least, most), form(least, most, 0, 0), true}, {form(least), form(most), false}, {form(0, least), form(0), false}, {lin.Form{C: list()}, lin.Form{}, true},
	} {
		if lin.Same(c.a, c.b) != c.want || lin.Same(c.b, c.a) != c.want {
			t.Errorf("P1101: Same(%v, %v): %v", c.a, c.b, !c.want)
		}
	}
}

func TestText(t *testing.T) {
	l := []string{"i", "j"}
	for _, c := range []struct {
		f     lin.Form
		names []string
		want  string
	}{
		{form(0), l, "0"}, {form(0, 0, 0), l, "0"}, {form(5), l, "5"}, {form(-5, 0), l, "-5"}, {form(1), nil, "1"}, {form(-1), nil, "-1"}, {form(most), l, "9223372036854775807"}, {form(least, 0, 0), l, "-9223372036854775808"},
		{form(0, 1), l, "i"}, {form(0, -1), l, "-i"}, {form(0, 2), l, "2*i"}, {form(0, -2), l, "-2*i"}, {form(0, 10), l, "10*i"}, {form(0, -10), l, "-10*i"}, {form(0, 0, 1), l, "j"}, {form(0, 0, -1), l, "-j"},
		{form(-5, 2), l, "2*i - 5"}, {form(5, -2), l, "-2*i + 5"}, {form(1, 1), l, "i + 1"}, {form(-1, -1), l, "-i - 1"}, {form(1, 0, 1), l, "j + 1"},
		{form(0, -2, 1), l, "-2*i + j"}, {form(1, 1, -1), l, "i - j + 1"}, {form(0, 1, 2), l, "i + 2*j"}, {form(0, 1, -2), l, "i - 2*j"}, {form(0, 1, 1), l, "i + j"},
		{form(least, least), l, "-9223372036854775808*i - 9223372036854775808"}, {form(0, 1, least), l, "i - 9223372036854775808*j"}, {form(most, most, most), l, "9223372036854775807*i + 9223372036854775807*j + 9223372036854775807"},
		// A variable without a name, for there are too few, or for it is empty; and names without a variable.
		{form(0, 1, 0, 3), l, "i + 3*x2"}, {form(-7, 0, 1, 0, -1), l, "j - x3 - 7"}, {form(0, 1, 1), nil, "x0 + x1"}, {form(1, 2, 3), []string{"", "k"}, "2*x0 + 3*k + 1"}, {form(0, 0, 0, 0, 0, 0, 0, 0, 0, 0, 0, 0, -1), nil, "-x11"},
		{form(2, 1), []string{"i", "j", "k"}, "i + 2"}, {form(3), []string{"i"}, "3"}, {form(0, 2, 1), []string{"x1", "x1"}, "2*x1 + x1"},
	} {
		if s := lin.Text(c.f, c.names); s != c.want {
			t.Errorf("P1101: Text(%v, %q): %q; want %q", c.f, c.names, s, c.want)
		}
	}
}

func TestRange(t *testing.T) {
	for _, c := range []struct {
		f      lin.Form
		lo, hi []int64
		want   string
	}{
		{form(5), nil, nil, "5 5 <nil>"}, {form(1, 2, -3), list(0, 1), list(10, 4), "-11 18 <nil>"}, {form(0, 0), list(-5), list(5), "0 0 <nil>"}, {form(7, 1), list(3), list(3), "10 10 <nil>"}, {form(7, -1), list(3), list(3), "4 4 <nil>"},
		{form(0, -1), list(-2), list(5), "-5 2 <nil>"}, {form(0, -2), list(-5), list(-3), "6 10 <nil>"}, {form(0, 2), list(-5), list(-3), "-10 -6 <nil>"},
		{form(0, 0, 1), list(least, 1), list(most, 2), "1 2 <nil>"}, {form(0, 1), list(least), list(most), "-9223372036854775808 9223372036854775807 <nil>"}, {form(-1, -1), list(-most), list(most), "-9223372036854775808 9223372036854775806 <nil>"},
		{form(most, 1), list(-1), list(0), "9223372036854775806 9223372036854775807 <nil>"}, {form(least, 1), list(0), list(1), "-9223372036854775808 -9223372036854775807 <nil>"},
		// The least alone, the greatest alone: product, sum, K.
		{form(0, 2), list(0), list(most), "0 0 form 0: over"}, {form(0, 2), list(least), list(0), "0 0 form 0: over"}, {form(0, -1), list(least), list(0), "0 0 form 0: over"}, {form(0, -2), list(0), list(most), "0 0 form 0: over"},
		{form(0, 1, 1), list(0, 0), list(most, 1), "0 0 form 0: over"}, {form(0, 1, 1), list(least, -1), list(0, 0), "0 0 form 0: over"}, {form(most, 1), list(-1), list(1), "0 0 form 0: over"}, {form(least, 1), list(-1), list(1), "0 0 form 0: over"},
		// From the left: what comes behind does not lead back.
		{form(-1, 1, 1), list(0, 0), list(most, 1), "0 0 form 0: over"}, {form(1, 1, 1), list(least, -1), list(0, 0), "0 0 form 0: over"}, {form(0, 1, 1, 1), list(0, 0, -1), list(most, 1, -1), "0 0 form 0: over"},
		{form(0, 1, 1, 1), list(0, -1, 0), list(most, -1, 1), "-1 9223372036854775807 <nil>"}, {form(0, 2, 2), list(half, -half), list(half, -half), "0 0 form 0: over"}, {form(0, 2, 2), list(-half, half-1), list(-half, half-1), "-2 -2 <nil>"},
		{form(0, 1), list(3), list(2), "0 0 form 0: arg"}, {form(0, 0), list(3), list(2), "0 0 form 0: arg"}, {form(0, 1, 1), list(1, 3), list(1, 2), "0 0 form 0: arg"}, {form(0, 1), list(most), list(least), "0 0 form 0: arg"},
		{form(0, 1), nil, nil, "0 0 form 0: arg"}, {form(0, 1), list(1), nil, "0 0 form 0: arg"}, {form(0, 1), nil, list(1), "0 0 form 0: arg"}, {form(0, 1), list(1), list(1, 2), "0 0 form 0: arg"}, {form(0, 1), list(1, 2), list(1), "0 0 form 0: arg"},
		{form(0, 1), list(1, 2), list(1, 2), "0 0 form 0: arg"}, {form(0), list(1), list(1), "0 0 form 0: arg"}, {form(0), nil, list(1), "0 0 form 0: arg"}, {form(0), list(1), nil, "0 0 form 0: arg"},
	} {
		a, b, err := lin.Range(c.f, c.lo, c.hi)
		is(t, told("Range", c.f, c.lo, c.hi), c.want, a, b, err)
	}
}

// P6: what is told first is told, whichever comes first in the lists.
func TestWhichErrorComesFirst(t *testing.T) {
	_, _, err := lin.Range(form(most, most, 1), list(most, 2), list(most, 1))
	is(t, "Range of a box that is none, with a product too great ahead", "form 0: arg", err)
	_, _, err = lin.Range(form(most, most, 1), list(most, 2), list(most))
	is(t, "Range with a bound too few, and a product too great", "form 0: arg", err)
	_, err = lin.At(form(most, most, 1), list(most))
	is(t, "At with a number too few, and a product too great", "form 0: arg", err)
	_, err = lin.Add(form(most, most, 1), form(most, most))
	is(t, "Add with a variable too few, and a sum too great", "form 0: arg", err)
}

// Errors are Faults that wrap an Errno; P4: beside them is nothing; P7: each one is new.
func TestErrors(t *testing.T) {
	for i, c := range []struct {
		call func() (any, error)
		zero any
		why  error
	}{
		{func() (any, error) { f, err := lin.Add(form(7, 8), form(7)); return f, err }, lin.Form{}, api.ErrArg},
		{func() (any, error) { f, err := lin.Add(form(7, 8, most), form(7, 8, most)); return f, err }, lin.Form{}, api.ErrOver},
		{func() (any, error) { f, err := lin.Scale(form(7, 8, most), 2); return f, err }, lin.Form{}, api.ErrOver},
		{func() (any, error) { n, err := lin.At(form(7, 8), nil); return n, err }, int64(0), api.ErrArg},
		{func() (any, error) { n, err := lin.At(form(7, 8, 2), list(1, most)); return n, err }, int64(0), api.ErrOver},
		{func() (any, error) { n, m, err := lin.Range(form(7, 8), list(2), list(1)); return [2]int64{n, m}, err }, [2]int64{}, api.ErrArg},
		{func() (any, error) {
			n, m, err := lin.Range(form(7, 8), list(1), list(most))
			return [2]int64{n, m}, err
		}, [2]int64{}, api.ErrOver},
	} {
		v, err := c.call()
		_, again := c.call()
		if !reflect.DeepEqual(v, c.zero) {
			t.Errorf("P4: %d: %v beside an error", i, v)
		}
		var f, g *api.Fault
		if !errors.Is(err, c.why) || !errors.As(err, &f) || f.Part != "form" || f.At != 0 || f.Err != c.why {
			t.Errorf("P1101: %d: %v", i, err)
		}
		if !errors.As(again, &g) || f == g {
			t.Errorf("P7: %d: two calls answer one Fault", i)
		}
	}
}
