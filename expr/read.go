package expr

import (
	"furrow/api"
	"furrow/tok"
)

// round is the kind of an open bracket that stands round an expression; no answer has it.
const round = 0

// reader goes over words from the left. What has begun and not yet ended stands in open, the outermost first,
// and not in calls within calls: subscripts may be in one another without a bound.
type reader struct {
	words []tok.Tok
	at    int
	open  []Expr
	deep  int // how many of open are a Neg or a bracket round an expression
}

// read answers the expression that begins at the word from, and the place behind it.
func read(words []tok.Tok, from int) (Expr, int, error) {
	r := reader{words: words, at: from}
	for {
		e, err := r.begin()
		ended := false
		if err == nil {
			e, ended, err = r.finish(e)
		}
		switch {
		case err != nil:
			return Expr{}, 0, &api.Fault{Part: "expr", At: r.at, Err: err}
		case ended:
			return e, r.at, nil
		}
	}
}

// begin opens what stands ahead of a Number or a Name, and answers that one.
func (r *reader) begin() (Expr, error) {
	for r.at < len(r.words) {
		t := r.words[r.at]
		var err error
		switch {
		case t.Kind == tok.Number:
			r.at++
			return Expr{Kind: Num, N: t.N}, nil
		case t.Kind == tok.Name && signAt(r.words, r.at+1) == "(":
			r.at += 2
			r.open = append(r.open, Expr{Kind: Elem, Name: t.Text})
		case t.Kind == tok.Name:
			r.at++
			return Expr{Kind: Var, Name: t.Text}, nil
		case r.sign() == "-":
			err = r.nest(Neg)
		case r.sign() == "(":
			err = r.nest(round)
		default:
			return Expr{}, api.ErrForm
		}
		if err != nil {
			return Expr{}, err
		}
	}
	return Expr{}, api.ErrForm
}

// nest opens what counts toward MaxNest; the bracket of subscripts does not.
func (r *reader) nest(kind int) error {
	if r.deep == api.MaxNest {
		return api.ErrLong
	}
	r.deep++
	r.at++
	r.open = append(r.open, Expr{Kind: kind})
	return nil
}

// finish ends what ends with e. True: that is all, and it is answered; else another part is to follow.
func (r *reader) finish(e Expr) (Expr, bool, error) {
	for {
		next := kindOf(r.sign())
		for r.operationEnds(next) {
			e = r.end(e)
		}
		switch {
		case next != 0:
			r.at++
			r.open = append(r.open, Expr{Kind: next, A: []Expr{e}})
			return Expr{}, false, nil
		case len(r.open) == 0:
			return e, true, nil
		case r.sign() == ")":
			r.at++
			e = r.end(e)
		case r.sign() == ",":
			return Expr{}, false, r.comma(e)
		default:
			return Expr{}, false, api.ErrForm
		}
	}
}

// operationEnds tells whether the innermost that is open is an operation that a next one (0: none) leaves its part.
// One that binds as closely leaves it too: equals go from the left.
func (r *reader) operationEnds(next int) bool {
	if len(r.open) == 0 {
		return false
	}
	n := binds(r.open[len(r.open)-1].Kind)
	return n > 0 && n >= binds(next)
}

// end takes off the innermost that is open, e its last part, and answers it whole.
func (r *reader) end(e Expr) Expr {
	last := len(r.open) - 1
	whole := r.open[last]
	r.open = r.open[:last]
	switch whole.Kind {
	case round:
		r.deep--
		return e
	case Neg:
		r.deep--
		fallthrough
	default:
		whole.A = append(whole.A, e)
	}
	return whole
}

// comma lays a subscript to those ahead of it, where the innermost bracket is one of subscripts and has room for one more.
func (r *reader) comma(e Expr) error {
	elem := &r.open[len(r.open)-1]
	if elem.Kind != Elem {
		return api.ErrForm
	}
	if len(elem.A)+1 == api.MaxRank {
		return api.ErrLong
	}
	elem.A = append(elem.A, e)
	r.at++
	return nil
}

func (r *reader) sign() string { return signAt(r.words, r.at) }

// signAt tells the sign at a place; empty: no sign stands there. It asks the kind, since a text alone makes no sign.
func signAt(words []tok.Tok, at int) string {
	if at >= len(words) || words[at].Kind != tok.Sign {
		return ""
	}
	return words[at].Text
}

// kindOf tells what a sign between two parts makes of them; 0: it stands between none.
func kindOf(sign string) int {
	switch sign {
	case "+":
		return Add
	case "-":
		return Sub
	case "*":
		return Mul
	case "/":
		return Div
	}
	return 0
}

func compares(sign string) bool {
	switch sign {
	case "<", "<=", ">", ">=", "==", "/=":
		return true
	}
	return false
}
