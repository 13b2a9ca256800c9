package tree

import (
	"furrow/expr"
	"furrow/stmt"
)

// rest is what of a list has not been gone over yet.
type rest struct {
	l    []Node
	deep int
}

// walk keeps lists of what is left, and makes no calls within calls: a tree that Of has not made may be of any depth.
func walk(l []Node, f func(n Node, deep int) bool) bool {
	left := []rest{{l: l}}
	for len(left) > 0 {
		last := len(left) - 1
		if len(left[last].l) == 0 {
			left = left[:last]
			continue
		}
		n, deep := left[last].l[0], left[last].deep
		left[last].l = left[last].l[1:]
		if !f(n, deep) {
			return false
		}
		left = append(left, rest{n.Else, deep + 1}, rest{n.Body, deep + 1}) // the Body's turn comes first
	}
	return true
}

// copied gives all lists within memory of their own; as walk, it makes no calls within calls.
func copied(l []Node) []Node {
	left := []*[]Node{&l}
	for len(left) > 0 {
		list := left[len(left)-1]
		left = left[:len(left)-1]
		*list = own(*list)
		for i := range *list {
			n := &(*list)[i]
			ownStmt(&n.Stmt)
			left = append(left, &n.Body, &n.Else)
		}
	}
	return l
}

func ownStmt(x *stmt.Stmt) {
	x.Items = own(x.Items)
	for i := range x.Items {
		x.Items[i].Dims = own(x.Items[i].Dims)
	}
	ownParts(&x.To.A, &x.E.A, &x.Cond.A.A, &x.Cond.B.A, &x.Lo.A, &x.Hi.A)
}

func ownParts(left ...*[]expr.Expr) {
	for len(left) > 0 {
		list := left[len(left)-1]
		left = left[:len(left)-1]
		*list = own(*list)
		for i := range *list {
			left = append(left, &(*list)[i].A)
		}
	}
}

func own[T any](l []T) []T {
	return append([]T(nil), l...)
}
