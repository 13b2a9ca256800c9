package lift

import (
	"slices"

	"furrow/api"
	"furrow/expr"
	"furrow/lin"
	"furrow/num"
)

// lifter makes Forms from the left, inside first. What has begun and not yet ended stands in open, the outermost first,
// and not in calls within calls: expressions may go deeper than these.
type lifter struct {
	names []string
	open  []begun
	made  []lin.Form // of the parts that have ended, and belong to what is open
}

// begun is an expression, and how many of its parts have begun.
type begun struct {
	e    *expr.Expr
	next int
}

func form(e *expr.Expr, names []string) (lin.Form, error) {
	l := lifter{names: names}
	err := l.begin(e)
	for err == nil && len(l.open) > 0 {
		top := &l.open[len(l.open)-1]
		if top.next < len(top.e.A) {
			top.next++
			err = l.begin(&top.e.A[top.next-1])
		} else {
			err = l.end(top.e)
		}
	}
	if err != nil {
		return lin.Form{}, err
	}
	return l.made[0], nil
}

// begin refuses what has no Form, whatever is in it: that is not looked at any more.
func (l *lifter) begin(e *expr.Expr) error {
	if n, ok := parts(e.Kind); !ok || n != len(e.A) {
		return api.ErrForm
	}
	l.open = append(l.open, begun{e: e})
	return nil
}

// parts tells how many parts a kind has that may have a Form.
func parts(kind int) (n int, ok bool) {
	switch kind {
	case expr.Add, expr.Sub, expr.Mul:
		n++
		fallthrough
	case expr.Neg:
		n++
		fallthrough
	case expr.Num, expr.Var:
		return n, true
	}
	return 0, false
}

// end takes off the innermost that is open, and lays its Form in place of those of its parts.
func (l *lifter) end(e *expr.Expr) error {
	l.open = l.open[:len(l.open)-1]
	ahead := len(l.made) - len(e.A)
	f, err := l.whole(e, l.made[ahead:])
	l.made = append(l.made[:ahead], f)
	return err
}

func (l *lifter) whole(e *expr.Expr, a []lin.Form) (lin.Form, error) {
	switch e.Kind {
	case expr.Var:
		i := slices.Index(l.names, e.Name)
		if i < 0 {
			return lin.Form{}, api.ErrName
		}
		return lin.Index(len(l.names), i), nil
	case expr.Neg:
		return lin.Scale(a[0], -1)
	case expr.Add:
		return lin.Add(a[0], a[1])
	case expr.Sub:
		return sub(a[0], a[1])
	case expr.Mul:
		return mul(a[0], a[1])
	}
	return lin.Const(len(l.names), e.N), nil
}

// sub takes away number by number: to add what is turned round would refuse the least number, which has no other side.
// Its Fault is the one that lin would answer.
func sub(a, b lin.Form) (lin.Form, error) {
	f := lin.Const(len(a.C), 0)
	k, ok := num.Sub(a.K, b.K)
	f.K = k
	for i := range f.C {
		c, fits := num.Sub(a.C[i], b.C[i])
		f.C[i] = c
		ok = ok && fits
	}
	if !ok {
		return lin.Form{}, &api.Fault{Part: "form", Err: api.ErrOver}
	}
	return f, nil
}

func mul(a, b lin.Form) (lin.Form, error) {
	switch {
	case isConst(b):
		a, b = b, a
		fallthrough
	case isConst(a):
		return lin.Scale(b, a.K)
	}
	return lin.Form{}, api.ErrForm
}

// isConst asks the Form, not the words: i - i is constant.
func isConst(f lin.Form) bool {
	return lin.Same(f, lin.Const(0, f.K))
}
