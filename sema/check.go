package sema

import (
	"slices"

	"furrow/api"
	"furrow/expr"
	"furrow/stmt"
	"furrow/tree"
)

// checker goes over statements as they stand. The first fault stays in err, so that what is asked behind it needs no
// question of its own: nothing is answered beside it.
type checker struct {
	table  Table
	places map[string]int // of each name its place in the table's Syms
	round  []loop         // round the statement that is gone over, the outermost first
	line   int            // that statement's
	err    error
}

// loop is one round a statement; deep tells when it is left.
type loop struct {
	index string
	deep  int
}

// take enters a loop only behind its head: its own index is not that of a loop round it.
func (c *checker) take(n tree.Node, deep int) bool {
	c.line = n.Line
	c.leave(deep)
	c.statement(n.Stmt)
	if n.Stmt.Kind == stmt.Do {
		c.round = append(c.round, loop{index: n.Stmt.Name, deep: deep})
	}
	return c.err == nil
}

func (c *checker) leave(deep int) {
	last := len(c.round) - 1
	for last >= 0 && c.round[last].deep >= deep {
		last--
	}
	c.round = c.round[:last+1]
}

// statement tells by the Kind alone which fields count, as stmt fills them by it.
func (c *checker) statement(x stmt.Stmt) {
	switch x.Kind {
	case stmt.Decl:
		for _, y := range x.Items {
			c.declare(y)
		}
	case stmt.Set:
		c.target(x.To)
		c.expression(x.E)
	case stmt.Do:
		c.head(x)
	case stmt.If:
		c.expression(x.Cond.A)
		c.expression(x.Cond.B)
	case stmt.Read:
		c.target(x.To)
	case stmt.Print:
		c.expression(x.E)
	}
}

// declare refuses a Dim below 0 as a count that may not be: stmt makes none, but nodes may be made by hand.
func (c *checker) declare(x stmt.Item) {
	_, there := c.places[x.Name]
	size := product(x.Dims)
	switch {
	case there:
		c.fail(api.ErrTwice)
	case slices.ContainsFunc(x.Dims, func(n int64) bool { return n < 0 }):
		c.fail(api.ErrArg)
	case c.table.Cells+size > api.MaxCells:
		c.fail(api.ErrLong)
	default:
		c.places[x.Name] = len(c.table.Syms)
		c.table.Syms = append(c.table.Syms, Sym{Name: x.Name, Dims: own(x.Dims), At: int(c.table.Cells), Size: size})
		c.table.Cells += size
	}
}

// product goes no further than one above MaxCells: how much more it is nobody asks, and it may be beyond 64 bits.
func product(dims []int64) int64 {
	size := int64(1)
	for _, n := range dims {
		switch {
		case n == 0:
			return 0
		case size > api.MaxCells/n:
			size = api.MaxCells + 1
		default:
			size *= n
		}
	}
	return size
}

// head asks for the index as for a Var that is set: it must be a scalar, and no loop's round it.
func (c *checker) head(x stmt.Stmt) {
	c.target(expr.Expr{Kind: expr.Var, Name: x.Name})
	c.expression(x.Lo)
	c.expression(x.Hi)
	if x.Step == 0 {
		c.fail(api.ErrStep)
	}
}

// target asks for the index behind all of e: no subscript can be wrong ahead of it, since an index is a scalar.
func (c *checker) target(e expr.Expr) {
	c.expression(e)
	if hasName(e) && slices.ContainsFunc(c.round, func(x loop) bool { return x.index == e.Name }) {
		c.fail(api.ErrIndex)
	}
}

// expression keeps a list of what is left, the next one last, and makes no calls within calls: subscripts may be in
// one another without a bound.
func (c *checker) expression(e expr.Expr) {
	left := []expr.Expr{e}
	for len(left) > 0 && c.err == nil {
		last := len(left) - 1
		e = left[last]
		left = left[:last]
		c.name(e)
		for _, x := range slices.Backward(parts(e)) {
			left = append(left, x)
		}
	}
}

func (c *checker) name(e expr.Expr) {
	if !hasName(e) {
		return
	}
	place, there := c.places[e.Name]
	switch {
	case !there:
		c.fail(api.ErrName)
	case len(parts(e)) != len(c.table.Syms[place].Dims):
		c.fail(api.ErrRank)
	}
}

func hasName(e expr.Expr) bool {
	return e.Kind == expr.Var || e.Kind == expr.Elem
}

// parts tells by the Kind what is within: a Num and a Var have nothing, whatever a hand-made one holds.
func parts(e expr.Expr) []expr.Expr {
	if e.Kind == expr.Num || e.Kind == expr.Var {
		return nil
	}
	return e.A
}

// fail keeps the first fault.
func (c *checker) fail(why api.Errno) {
	if c.err == nil {
		c.err = &api.Fault{Part: "line", At: c.line, Err: why}
	}
}
