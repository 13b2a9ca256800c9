package expr

import (
	"math"
	"slices"
	"strconv"
	"strings"
)

// least stands for the one number whose size no word can tell.
const least = "(-9223372036854775807 - 1)"

// piece is a text, or an expression whose text is still to be made.
type piece struct {
	text string
	e    *Expr
}

// Text keeps a list of what is left to be told, the next one last: sums and subscripts may go deeper than calls can.
func Text(e Expr) string {
	var made strings.Builder
	left := []piece{{e: &e}}
	for len(left) > 0 {
		last := len(left) - 1
		p := left[last]
		left = left[:last]
		if p.e == nil {
			made.WriteString(p.text)
			continue
		}
		left = appendPieces(left, p.e)
		slices.Reverse(left[last:])
	}
	return made.String()
}

func CondText(c Cond) string {
	return Text(c.A) + " " + c.Op + " " + Text(c.B)
}

// appendPieces goes over whatever parts there are, so that a tree that is none has some text too.
func appendPieces(l []piece, e *Expr) []piece {
	ahead, between, behind := frame(e)
	l = append(l, piece{text: ahead})
	for i := range e.A {
		if i > 0 {
			l = append(l, piece{text: between})
		}
		part := piece{e: &e.A[i]}
		if bracketed(e, i) {
			l = append(l, piece{text: "("}, part, piece{text: ")"})
		} else {
			l = append(l, part)
		}
	}
	return append(l, piece{text: behind})
}

// frame tells what stands ahead of an expression's parts, between them, and behind.
func frame(e *Expr) (ahead, between, behind string) {
	switch e.Kind {
	case Num:
		ahead = number(e.N)
	case Elem:
		ahead, between, behind = "(", ", ", ")"
		fallthrough
	case Var:
		ahead = e.Name + ahead
	case Neg:
		ahead = "-"
	case Add:
		between = " + "
	case Sub:
		between = " - "
	case Mul:
		between = " * "
	case Div:
		between = " / "
	}
	return ahead, between, behind
}

// number puts what is below 0 in brackets wherever it stands, since it is read again as an operation.
func number(n int64) string {
	s := strconv.FormatInt(n, 10)
	switch {
	case n == math.MinInt64:
		return least
	case n < 0:
		return "(" + s + ")"
	}
	return s
}

// bracketed tells whether the part i of e stands in brackets: a first part that binds less closely than e,
// a second one that binds no closer, or is a Neg. Subscripts never do.
func bracketed(e *Expr, i int) bool {
	whole, part := binds(e.Kind), binds(e.A[i].Kind)
	switch {
	case whole == 0 || part == 0:
		return false
	case i == 0:
		return part < whole
	}
	return part <= whole || e.A[i].Kind == Neg
}
