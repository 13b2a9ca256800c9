package run

import (
	"errors"

	"furrow/api"
	"furrow/eval"
	"furrow/expr"
	"furrow/num"
	"furrow/sema"
	"furrow/stmt"
	"furrow/tree"
)

// machine goes over a program. It keeps a list of the blocks that it is in, and makes no calls within calls: nodes made
// by hand may be of any depth.
type machine struct {
	table sema.Table
	in    []int64
	fuel  int
	open  []block // the innermost last
	done  Result
}

// block is what is left of a list of statements; of a loop's Body also what turns are left. The index is kept here and
// not read from its cell, so that the turns are as many as num.Times said, whatever the Body sets.
type block struct {
	left  []tree.Node
	turns uint64
	body  []tree.Node
	line  int
	cell  int64
	index int64 // of the next turn
	step  int64
}

func (m *machine) run(l []tree.Node) {
	m.open = []block{{left: l}}
	for len(m.open) > 0 && m.done.Err == nil {
		last := len(m.open) - 1
		b := &m.open[last]
		switch {
		case len(b.left) > 0:
			n := &b.left[0]
			b.left = b.left[1:]
			m.end(n.Line, m.statement(n))
		case b.turns > 0:
			m.end(b.line, m.turn(b))
		default:
			m.open = m.open[:last]
		}
	}
}

// end ends the run, if there is an error. Want of fuel tells its line itself.
func (m *machine) end(line int, err error) {
	if err == nil {
		return
	}
	if !errors.Is(err, api.ErrFuel) {
		err = &api.Fault{Part: "line", At: line, Err: err}
	}
	m.done.Err, m.done.Line = err, line
}

func (m *machine) burn(line int) error {
	if m.done.Steps >= m.fuel {
		return &api.Fault{Part: "fuel", At: line, Err: api.ErrFuel}
	}
	m.done.Steps++
	return nil
}

// statement tells by the Kind alone which fields count, as stmt fills them by it.
func (m *machine) statement(n *tree.Node) error {
	x := &n.Stmt
	if x.Kind == stmt.Decl {
		return nil
	}
	if err := m.burn(n.Line); err != nil {
		return err
	}
	switch x.Kind {
	case stmt.Set:
		return m.set(x)
	case stmt.Do:
		return m.loop(n)
	case stmt.If:
		return m.choose(n)
	case stmt.Read:
		return m.read(x)
	case stmt.Print:
		return m.show(x)
	}
	return nil
}

func (m *machine) set(x *stmt.Stmt) error {
	n, err := m.value(x.E)
	if err != nil {
		return err
	}
	cell, err := m.place(x.To)
	if err != nil {
		return err
	}
	m.put(cell, n)
	return nil
}

// loop sets the index ahead of the first turn, since there may be none; Hi is worked out ahead of that.
func (m *machine) loop(n *tree.Node) error {
	x := &n.Stmt
	lo, err := m.value(x.Lo)
	if err != nil {
		return err
	}
	hi, err := m.value(x.Hi)
	if err != nil {
		return err
	}
	cell, err := m.place(expr.Expr{Kind: expr.Var, Name: x.Name})
	if err != nil {
		return err
	}
	m.put(cell, lo)
	m.open = append(m.open, block{turns: num.Times(lo, hi, x.Step), body: n.Body, line: n.Line, cell: cell, index: lo, step: x.Step})
	return nil
}

// turn lets the index go round behind the last turn: that one is never set.
func (m *machine) turn(b *block) error {
	if err := m.burn(b.line); err != nil {
		return err
	}
	m.put(b.cell, b.index)
	b.index += b.step
	b.turns--
	b.left = b.body
	return nil
}

func (m *machine) choose(n *tree.Node) error {
	ok, err := eval.Holds(m.table, m.done.Store, n.Stmt.Cond)
	if err != nil {
		return err
	}
	if ok {
		m.open = append(m.open, block{left: n.Body})
	} else {
		m.open = append(m.open, block{left: n.Else})
	}
	return nil
}

// read asks for the place first: a number that has none is not taken.
func (m *machine) read(x *stmt.Stmt) error {
	cell, err := m.place(x.To)
	if err != nil {
		return err
	}
	if m.done.Read == len(m.in) {
		return &api.Fault{Part: "read", At: m.done.Read, Err: api.ErrInput}
	}
	m.put(cell, m.in[m.done.Read])
	m.done.Read++
	return nil
}

func (m *machine) show(x *stmt.Stmt) error {
	n, err := m.value(x.E)
	if err != nil {
		return err
	}
	m.done.Out = append(m.done.Out, n)
	return nil
}

func (m *machine) value(e expr.Expr) (int64, error) {
	return eval.Eval(m.table, m.done.Store, e)
}

func (m *machine) place(e expr.Expr) (int64, error) {
	return eval.Place(m.table, m.done.Store, e)
}

// put lets a cell be that the Store has not: a Table made by hand need not fit its own Cells.
func (m *machine) put(cell, n int64) {
	if cell >= 0 && cell < int64(len(m.done.Store)) {
		m.done.Store[cell] = n
	}
}
