package eval

import (
	"furrow/api"
	"furrow/expr"
	"furrow/sema"
)

// task is an expression that is still to be worked out; known: the last values are those of its parts.
type task struct {
	e     *expr.Expr
	known bool
}

// values works out a list from the left, up to the first error. It keeps a list of what is left, the next one last,
// and makes no calls within calls: sums and subscripts may go deeper than calls can.
func values(t sema.Table, s Store, l []expr.Expr) ([]int64, error) {
	left := ahead(make([]task, 0, 16), l)
	done := make([]int64, 0, len(l)+1)
	for len(left) > 0 {
		last := len(left) - 1
		x := left[last]
		within := parts(x.e)
		if !x.known && len(within) > 0 {
			left[last].known = true
			left = ahead(left, within)
			continue
		}
		left = left[:last]
		whole := len(done) - len(within)
		n, err := value(t, s, x.e, done[whole:])
		if err != nil {
			return nil, err
		}
		done = append(done[:whole], n)
	}
	return done, nil
}

// ahead lays a list to what is left so that its first one is the next.
func ahead(left []task, l []expr.Expr) []task {
	for i := len(l) - 1; i >= 0; i-- {
		left = append(left, task{e: &l[i]})
	}
	return left
}

// parts tells by the Kind what is to be worked out ahead of e: a Num and a Var have nothing, whatever a hand-made one
// holds, and neither has a kind that there is not.
func parts(e *expr.Expr) []expr.Expr {
	switch e.Kind {
	case expr.Elem, expr.Neg, expr.Add, expr.Sub, expr.Mul, expr.Div:
		return e.A
	}
	return nil
}

// value tells what e comes to, of the values of its parts. Each of Neg, Sub and Add comes down to the next one, as
// numbers go round: so does the least one's opposite.
func value(t sema.Table, s Store, e *expr.Expr, l []int64) (int64, error) {
	a, b := firstTwo(l)
	switch e.Kind {
	case expr.Num:
		return e.N, nil
	case expr.Var, expr.Elem:
		return held(t, s, e.Name, l)
	case expr.Neg:
		a, b = 0, a
		fallthrough
	case expr.Sub:
		b = -b
		fallthrough
	case expr.Add:
		return a + b, nil
	case expr.Mul:
		return a * b, nil
	case expr.Div:
		return quotient(a, b)
	}
	return 0, nil
}

// firstTwo takes a part that is missing for 0, since nodes made by hand may have any number of them.
func firstTwo(l []int64) (a, b int64) {
	if len(l) > 0 {
		a = l[0]
	}
	if len(l) > 1 {
		b = l[1]
	}
	return a, b
}

// quotient leaves the least number by -1 to Go, where it goes round to itself and does not panic.
func quotient(a, b int64) (int64, error) {
	if b == 0 {
		return 0, &api.Fault{Part: "div", Err: api.ErrZero}
	}
	return a / b, nil
}

// held answers 0 of a cell that s has not: a Store and a Table made by hand need not fit each other.
func held(t sema.Table, s Store, name string, subs []int64) (int64, error) {
	at, err := cell(t, name, subs)
	if err != nil || at < 0 || at >= int64(len(s)) {
		return 0, err
	}
	return s[at], nil
}

// cell goes no further than there are both subscripts and Dims: sema has held their numbers against each other, but
// a Table made by hand need not have been the one that it answered. A name that it has not is of no Dims, and at 0.
func cell(t sema.Table, name string, subs []int64) (int64, error) {
	x, _ := t.Find(name)
	at, apart := int64(x.At), int64(1)
	for i := range min(len(subs), len(x.Dims)) {
		if subs[i] < 1 || subs[i] > x.Dims[i] {
			return 0, &api.Fault{Part: "subscript", At: i, Err: api.ErrBound}
		}
		at += (subs[i] - 1) * apart
		apart *= x.Dims[i]
	}
	return at, nil
}
