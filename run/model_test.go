package run_test

import (
	"errors"
	"fmt"
	"math"
	"math/rand/v2"
	"strings"
	"testing"

	"furrow/api"
	"furrow/eval"
	"furrow/expr"
	"furrow/run"
	"furrow/sema"
	"furrow/stmt"
	"furrow/tree"
)

// model runs lines and knows no blocks: it jumps from line to line, and looks for ends by counting.
type model struct {
	stmts []stmt.Stmt
	at    int
	loops []modelLoop
	in    []int64
	fuel  int
	table sema.Table
	store eval.Store
	out   []int64
	steps int
	read  int
}

type modelLoop struct {
	head int
	l    []int64 // the indices that are left
}

func modelOf(s string, x sema.Table, in []int64, fuel int) *model {
	m := model{in: in, fuel: fuel, table: x, store: make(eval.Store, x.Cells)}
	for _, line := range strings.Split(s, "\n") {
		y, _ := stmt.Parse(line)
		m.stmts = append(m.stmts, y)
	}
	return &m
}

// told runs all lines; what it panics with is why it goes no further.
func (m *model) told() (s string) {
	why, line := "<nil>", -1
	defer func() {
		if p := recover(); p != nil {
			why, line = fmt.Sprint("line ", m.at, ": ", p), m.at
			if p == "fuel" {
				why = fmt.Sprint("fuel ", m.at, ": fuel")
			}
		}
		s = fmt.Sprint(m.out, " ", why, " ", line, " ", m.steps, " ", m.read, " ", []int64(m.store))
	}()
	for m.at < len(m.stmts) {
		m.line(m.stmts[m.at])
	}
	return ""
}

func (m *model) step() {
	if m.steps == m.fuel {
		panic("fuel")
	}
	m.steps++
}

func (m *model) value(e expr.Expr) int64 {
	n, err := eval.Eval(m.table, m.store, e)
	if err != nil {
		panic(err.Error())
	}
	return n
}

func (m *model) cell(e expr.Expr) *int64 {
	n, err := eval.Place(m.table, m.store, e)
	if err != nil {
		panic(err.Error())
	}
	return &m.store[n]
}

func (m *model) line(x stmt.Stmt) {
	switch x.Kind {
	case stmt.Set:
		m.step()
		n := m.value(x.E)
		*m.cell(x.To) = n
	case stmt.Read:
		m.step()
		c := m.cell(x.To)
		if m.read == len(m.in) {
			panic(fmt.Sprintf("read %d: input", m.read))
		}
		*c = m.in[m.read]
		m.read++
	case stmt.Print:
		m.step()
		m.out = append(m.out, m.value(x.E))
	case stmt.If:
		m.step()
		if ok, err := eval.Holds(m.table, m.store, x.Cond); err != nil {
			panic(err.Error())
		} else if !ok {
			m.skip(true)
		}
	case stmt.Else:
		m.skip(false)
	case stmt.Do:
		m.step()
		m.begin(x)
		return
	case stmt.EndDo:
		m.turn()
		return
	}
	m.at++
}

// skip goes to the end of the block that the line at hand is of, or to its else.
func (m *model) skip(toElse bool) {
	for deep := 1; deep > 0; {
		m.at++
		switch m.stmts[m.at].Kind {
		case stmt.Do, stmt.If:
			deep++
		case stmt.EndDo, stmt.EndIf:
			deep--
		case stmt.Else:
			if toElse && deep == 1 {
				return
			}
		}
	}
}

// begin lists the indices, as long as they do not go round; more than there is fuel for are not asked for.
func (m *model) begin(x stmt.Stmt) {
	lo, hi := m.value(x.Lo), m.value(x.Hi)
	*m.cell(expr.Expr{Kind: expr.Var, Name: x.Name}) = lo
	var l []int64
	for n := lo; len(l) <= m.fuel && (x.Step > 0 && n <= hi || x.Step < 0 && n >= hi); n += x.Step {
		l = append(l, n)
		if x.Step > 0 && n > math.MaxInt64-x.Step || x.Step < 0 && n < math.MinInt64-x.Step {
			break
		}
	}
	m.loops = append(m.loops, modelLoop{m.at, l})
	m.turn()
}

func (m *model) turn() {
	last := len(m.loops) - 1
	loop := &m.loops[last]
	m.at = loop.head
	if len(loop.l) == 0 {
		m.loops = m.loops[:last]
		m.skip(false)
		m.at++
		return
	}
	m.step()
	*m.cell(expr.Expr{Kind: expr.Var, Name: m.stmts[m.at].Name}) = loop.l[0]
	loop.l = loop.l[1:]
	m.at++
}

// held holds Run against the model, if s is a program.
func held(t *testing.T, s string, ins [][]int64, fuels []int) bool {
	t.Helper()
	l, _, err := tree.Parse(s)
	if err != nil {
		return false
	}
	x, err := sema.Check(l)
	if err != nil {
		return false
	}
	for _, in := range ins {
		for _, fuel := range fuels {
			got := told(run.Run(l, x, in, fuel))
			if want := modelOf(s, x, in, fuel).told(); got != want {
				t.Fatalf("P1001: Run of %q with %v, fuel %d: %s; want %s", s, in, fuel, got, want)
			}
		}
	}
	return true
}

// heldAll holds all programs that are up to n of these lines behind a head against the model.
func heldAll(t *testing.T, head string, of []string, n int, ins [][]int64, fuels []int) int {
	t.Helper()
	_, _, err := tree.Parse(head)
	if err != nil && !errors.Is(err, api.ErrOpen) {
		return 0
	}
	count := 0
	if held(t, head, ins, fuels) {
		count++
	}
	for i := 0; i < len(of) && n > 0; i++ {
		count += heldAll(t, head+of[i], of, n-1, ins, fuels)
	}
	return count
}

func TestAllShortPrograms(t *testing.T) {
	head := "integer i, j, a(2)\n"
	ins := [][]int64{{2}, {3, 1}}
	fuels := []int{0, 1, 3, 8, 40}
	blocks := []string{"do i = j, 2\n", "do j = 2, i, -1\n", "end do\n", "if (i < j) then\n", "else\n", "end if\n", "read j\n", "print i - 2 / j\n"}
	if n := heldAll(t, head, blocks, 6, ins, fuels); n < 1500 {
		t.Errorf("%d programs of blocks alone were held against the model", n)
	}
	plain := []string{"do i = 1, 2\n", "end do\n", "read i\n", "read a(i)\n", "a(i + 1) = a(j) - i\n", "j = 2 / (i - 1)\n", "print a(i)\n"}
	if n := heldAll(t, head, plain, 5, ins, fuels); n < 1500 {
		t.Errorf("%d programs of plain statements alone were held against the model", n)
	}
}

// writer makes programs by a fixed row of numbers.
type writer struct {
	*rand.Rand
	strings.Builder
	loops []string // indices that are in use
}

func (w *writer) pick(l ...string) string { return l[w.IntN(len(l))] }

func (w *writer) expression(deep int) string {
	if deep == 0 || w.IntN(3) == 0 {
		return w.pick("0", "1", "2", "3", "i", "j", "k", "x", "y", "-x", "a(1)", "b(2, 3)", "9223372036854775807")
	}
	a, b := w.expression(deep-1), w.expression(deep-1)
	return w.pick("("+a+" + "+b+")", "("+a+" - "+b+")", a+" * ("+b+")", "("+a+") / "+w.mostly("2", "-3", "("+b+")"), "-("+a+")", w.element(), w.element())
}

// mostly takes the last one but seldom, so that runs come further.
func (w *writer) mostly(l ...string) string {
	if w.IntN(12) == 0 {
		return l[len(l)-1]
	}
	return w.pick(l[:len(l)-1]...)
}

func (w *writer) subscript() string {
	indices := strings.Join(w.loops, " + ")
	if indices == "" {
		indices = "1"
	}
	return w.mostly("1", "2", "3", indices, w.expression(0)+" - 1")
}

func (w *writer) element() string {
	return w.pick("a("+w.subscript()+")", "b("+w.subscript()+", "+w.subscript()+")")
}

func (w *writer) free() string {
	name := w.pick("i", "j", "k", "x", "y")
	for _, used := range w.loops {
		if name == used {
			return "a(2)"
		}
	}
	return name
}

func (w *writer) target() string {
	return w.pick(w.free(), w.element())
}

func (w *writer) statements(deep int) {
	for range w.IntN(5) {
		w.statement(deep)
	}
}

func (w *writer) statement(deep int) {
	switch kind := w.IntN(8); {
	case kind < 3:
		w.WriteString(w.target() + " = " + w.expression(2) + w.pick("\n", " ! note\n", "\n\n"))
	case kind == 3:
		w.WriteString("read " + w.target() + "\n")
	case kind == 4:
		w.WriteString("print " + w.expression(2) + "\n")
	case deep == 0:
	case kind == 5:
		w.WriteString("if (" + w.expression(1) + w.pick(" < ", " <= ", " > ", " >= ", " == ", " /= ") + w.expression(1) + ") then\n")
		w.statements(deep - 1)
		if w.IntN(2) == 0 {
			w.WriteString("else\n")
			w.statements(deep - 1)
		}
		w.WriteString("end if\n")
	default:
		w.loop(deep)
	}
}

func (w *writer) loop(deep int) {
	name := w.free()
	if name == "a(2)" {
		return
	}
	w.WriteString("do " + name + " = " + w.pick("1", "0", "-1", w.expression(1)) + ", " + w.pick("2", "3", w.expression(1)) + w.pick("", "", ", 2", ", -1", ", 9223372036854775807") + "\n")
	w.loops = append(w.loops, name)
	w.statements(deep - 1)
	w.loops = w.loops[:len(w.loops)-1]
	w.WriteString("end do\n")
}

func TestLongerPrograms(t *testing.T) {
	ins := [][]int64{nil, {1, 2, 3, 1, 2, 3, 0, -1, 2}, {math.MaxInt64, 1, 1, 1, 1, 1, 1, 1, 1, 1, 1, 1, 1, 1}}
	count := 0
	for seed := range uint64(1500) {
		w := writer{Rand: rand.New(rand.NewPCG(seed, 10))}
		w.WriteString("integer i, j, k\ninteger x, a(9), b(5, 6), y\nx = 1\na(2) = 3\n")
		for range 4 {
			w.statements(4)
		}
		if held(t, w.String(), ins, []int{w.IntN(9), w.IntN(40), 300}) {
			count++
		}
	}
	if count < 1200 {
		t.Errorf("%d programs alone were held against the model", count)
	}
}
