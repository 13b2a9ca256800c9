package lin_test

import (
	"fmt"
	"math/big"
	"slices"
	"strings"
	"testing"

	"furrow/lin"
)

// numbers are of each sign, small ones and those at which 64 bits end or half of them is.
func numbers() []int64 { return list(0, 1, -1, 3, -2, half, -half, most, least) }

// forms calls f with each Form of up to two variables whose numbers are of l.
func forms(l []int64, f func(a lin.Form)) {
	for n := range 3 {
		tuples(l, n+1, func(x []int64) { f(lin.Form{C: slices.Clone(x[:n]), K: x[n]}) })
	}
}

// tuples calls f with each n numbers of l, in a list that it keeps.
func tuples(l []int64, n int, f func(x []int64)) {
	at, x := make([]int, n), make([]int64, n)
	for {
		for i := range x {
			x[i] = l[at[i]]
		}
		f(x)
		i := n - 1
		for ; i >= 0; i-- {
			if at[i]++; at[i] < len(l) {
				break
			}
			at[i] = 0
		}
		if i < 0 {
			return
		}
	}
}

// exact keeps numbers without a bound, and whether one of them was beyond 64 bits.
type exact struct{ over bool }

func (e *exact) kept(n *big.Int) *big.Int {
	e.over = e.over || !n.IsInt64()
	return n
}

func (e *exact) add(a, b *big.Int) *big.Int { return e.kept(new(big.Int).Add(a, b)) }

func (e *exact) mul(a, b int64) *big.Int {
	return e.kept(new(big.Int).Mul(big.NewInt(a), big.NewInt(b)))
}

// answer tells what the model answers: numbers, or that one was beyond 64 bits.
func (e *exact) answer(l ...*big.Int) string {
	if e.over {
		return "form 0: over"
	}
	return fmt.Sprint(l) + " <nil>"
}

// got tells what a call answered, as answer does.
func got(err error, l ...int64) string {
	if err != nil {
		return err.Error()
	}
	return fmt.Sprint(l) + " <nil>"
}

func flat(f lin.Form) []int64 { return append(slices.Clone(f.C), f.K) }

func TestAddAsReckoned(t *testing.T) {
	l := list(0, 1, -1, half, -half, most, least)
	forms(l, func(a lin.Form) {
		forms(l, func(b lin.Form) {
			want := "form 0: arg"
			if len(a.C) == len(b.C) {
				var e exact
				var sums []*big.Int
				for i, n := range flat(a) {
					sums = append(sums, e.add(big.NewInt(n), big.NewInt(flat(b)[i])))
				}
				want = e.answer(sums...)
			}
			f, err := lin.Add(a, b)
			if s := got(err, flat(f)...); s != want {
				t.Fatalf("P1101: Add(%v, %v): %s; want %s", a, b, s, want)
			}
		})
	})
}

func TestScaleAsReckoned(t *testing.T) {
	forms(numbers(), func(a lin.Form) {
		for _, k := range append(numbers(), 2, most/3, least/3) {
			var e exact
			var products []*big.Int
			for _, n := range flat(a) {
				products = append(products, e.mul(n, k))
			}
			f, err := lin.Scale(a, k)
			if s, want := got(err, flat(f)...), e.answer(products...); s != want {
				t.Fatalf("P1101: Scale(%v, %d): %s; want %s", a, k, s, want)
			}
		}
	})
}

// valued is At, one after the other.
func valued(a lin.Form, x []int64) string {
	var e exact
	sum := new(big.Int)
	for i, c := range a.C {
		sum = e.add(sum, e.mul(c, x[i]))
	}
	sum = e.add(sum, big.NewInt(a.K))
	return e.answer(sum)
}

func TestAtAsReckoned(t *testing.T) {
	check := func(a lin.Form, x []int64) {
		n, err := lin.At(a, x)
		if s, want := got(err, n), valued(a, x); s != want {
			t.Fatalf("P1101: At(%v, %v): %s; want %s", a, x, s, want)
		}
	}
	forms(numbers(), func(a lin.Form) {
		tuples(numbers(), len(a.C), func(x []int64) { check(a, x) })
	})
	few := list(1, -1, 2, half, -half)
	tuples(few, 4, func(c []int64) {
		tuples(few[:4], 3, func(x []int64) { check(lin.Form{C: c[:3], K: c[3]}, x) })
	})
}

// spanned is Range without a look at signs: at each step the lesser and the greater of what either bound comes to.
func spanned(a lin.Form, lo, hi []int64) string {
	var e exact
	below, above := new(big.Int), new(big.Int)
	for i, c := range a.C {
		l := []*big.Int{e.mul(c, lo[i]), e.mul(c, hi[i])}
		slices.SortFunc(l, (*big.Int).Cmp)
		below, above = e.add(below, l[0]), e.add(above, l[1])
	}
	below, above = e.add(below, big.NewInt(a.K)), e.add(above, big.NewInt(a.K))
	return e.answer(below, above)
}

func TestRangeAsReckoned(t *testing.T) {
	check := func(a lin.Form, lo, hi []int64) {
		want := "form 0: arg"
		if isBox(lo, hi) {
			want = spanned(a, lo, hi)
		}
		n, m, err := lin.Range(a, lo, hi)
		if s := got(err, n, m); s != want {
			t.Fatalf("P1101: Range(%v, %v, %v): %s; want %s", a, lo, hi, s, want)
		}
	}
	few := list(0, 1, -2, half, most, least)
	forms(few, func(a lin.Form) {
		tuples(few, len(a.C), func(x []int64) {
			lo := slices.Clone(x)
			tuples(few, len(a.C), func(hi []int64) { check(a, lo, hi) })
		})
	})
}

// isBox is told by what the bounds are once the lesser of each two comes first.
func isBox(lo, hi []int64) bool {
	for i := range lo {
		if min(lo[i], hi[i]) != lo[i] {
			return false
		}
	}
	return true
}

// walked asks each x of a small box what the Form comes to there.
func walked(t *testing.T, a lin.Form, lo, hi []int64) string {
	x := slices.Clone(lo)
	var l []int64
	for {
		n, err := lin.At(a, x)
		if err != nil {
			t.Fatal(err)
		}
		l = append(l, n)
		i := 0
		for ; i < len(x); i++ {
			if x[i]++; x[i] <= hi[i] {
				break
			}
			x[i] = lo[i]
		}
		if i == len(x) {
			return fmt.Sprint([]int64{slices.Min(l), slices.Max(l)}) + " <nil>"
		}
	}
}

func TestRangeAsWalked(t *testing.T) {
	few := list(-3, 0, 2)
	tuples(list(-2, 0, 1, 3), 3, func(c []int64) {
		for _, k := range list(-7, 0, 5) {
			a := lin.Form{C: c, K: k}
			tuples(few, 3, func(lo []int64) {
				tuples(list(0, 1, 3), 3, func(more []int64) {
					hi := slices.Clone(lo)
					for i := range hi {
						hi[i] += more[i]
					}
					n, m, err := lin.Range(a, lo, hi)
					if s, want := got(err, n, m), walked(t, a, lo, hi); s != want {
						t.Fatalf("P1101: Range(%v, %v, %v): %s; want %s", a, lo, hi, s, want)
					}
				})
			})
		}
	})
}

// written is Text by way of texts alone: each term is told with its sign, and then joined.
func written(a lin.Form, names ...string) string {
	var l []string
	for i, c := range a.C {
		switch s := fmt.Sprintf("%d*%s", c, names[i]); {
		case c == 0:
		case c == 1 || c == -1:
			l = append(l, strings.Replace(s, "1*", "", 1))
		default:
			l = append(l, s)
		}
	}
	if a.K != 0 || l == nil {
		l = append(l, fmt.Sprint(a.K))
	}
	s := "\n" + strings.Join(l, "\n")
	s = strings.ReplaceAll(s[1:], "\n-", " - ")
	return strings.ReplaceAll(s, "\n", " + ")
}

func TestTextAsWritten(t *testing.T) {
	l := append(numbers(), 10, -10, 1000000)
	tuples(l, 4, func(x []int64) {
		a := lin.Form{C: x[:3], K: x[3]}
		if s, want := lin.Text(a, []string{"i", "j", "k"}), written(a, "i", "j", "k"); s != want {
			t.Fatalf("P1101: Text(%v): %q; want %q", a, s, want)
		}
		if s, want := lin.Text(a, []string{"", "j"}), written(a, "x0", "j", "x2"); s != want {
			t.Fatalf("P1101: Text(%v) of few names: %q; want %q", a, s, want)
		}
	})
}

// TestSameAsText leans on Text: two Forms are the same just where they are told alike.
func TestSameAsText(t *testing.T) {
	l := list(0, 1, -1, most, least)
	forms(l, func(a lin.Form) {
		s := lin.Text(a, nil)
		forms(l, func(b lin.Form) {
			if same := s == lin.Text(b, nil); lin.Same(a, b) != same {
				t.Fatalf("P1101: Same(%v, %v): %v", a, b, !same)
			}
		})
	})
}

// Each call of a Form of many variables goes as that of few ones.
func TestManyVariables(t *testing.T) {
	const n = 1000
	x, y := make([]int64, n), make([]int64, n)
	sum := lin.Const(n, 4)
	for i := range n {
		f, err := lin.Scale(lin.Index(n, i), int64(i%3-1))
		if err != nil {
			t.Fatal(err)
		}
		if sum, err = lin.Add(sum, f); err != nil {
			t.Fatal(err)
		}
		x[i], y[i] = int64(i), int64(i+2)
	}
	// Those of 2, 5, .. to 998 less those of 0, 3, .. to 996 are 333 times 2; then 999 is taken away.
	if v, err := lin.At(sum, x); v != 4+2*333-999 || err != nil {
		t.Errorf("P1101: At: %d, %v", v, err)
	}
	a, b, err := lin.Range(sum, x, y)
	if a != 4+2*333-999-2*334 || b != 4+2*333-999+2*333 || err != nil {
		t.Errorf("P1101: Range: %d, %d, %v", a, b, err)
	}
	if s := lin.Text(sum, nil); !strings.HasPrefix(s, "-x0 + x2 - x3 + x5 - x6") || !strings.HasSuffix(s, "- x996 + x998 - x999 + 4") {
		t.Errorf("P1101: Text: %q", s)
	}
}
