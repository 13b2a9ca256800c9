package stmt

import (
	"errors"

	"furrow/api"
	"furrow/expr"
	"furrow/tok"
)

// reader goes over the words of a line from the left. The first fault stays in err: from it on no word is seen,
// so that what is asked for behind it needs no question of its own.
type reader struct {
	words []tok.Tok
	at    int
	err   error
}

// statement fills the fields that the Kind has; the words that tell the Kind are taken by then.
func (r *reader) statement() Stmt {
	x := Stmt{Kind: r.kind()}
	switch x.Kind {
	case Decl:
		x.Items = r.items()
	case Do:
		x.Name = r.name()
		r.must("=")
		x.Lo = r.expression(len(r.words))
		r.must(",")
		x.Hi = r.expression(len(r.words))
		x.Step = r.step()
	case If:
		r.must("(")
		x.Cond = r.cond()
		r.must(")")
		r.must("then")
	case Read:
		x.To = r.target()
	case Set:
		x.To = r.target()
		r.must("=")
		fallthrough
	case Print:
		x.E = r.expression(len(r.words))
	}
	return x
}

// kind takes what begins with no Key of a statement for a Set: where it is none, its To is what is missing.
func (r *reader) kind() int {
	switch {
	case len(r.words) == 0:
		return Empty
	case r.takes("integer"):
		return Decl
	case r.takes("do"):
		return Do
	case r.takes("end"):
		return r.ended()
	case r.takes("if"):
		return If
	case r.takes("else"):
		return Else
	case r.takes("read"):
		return Read
	case r.takes("print"):
		return Print
	}
	return Set
}

func (r *reader) ended() int {
	if r.takes("do") {
		return EndDo
	}
	r.must("if")
	return EndIf
}

func (r *reader) items() []Item {
	var l []Item
	for {
		l = append(l, Item{Name: r.name(), Dims: r.dims()})
		if !r.takes(",") {
			return l
		}
	}
}

// dims refuses the `,` ahead of one too many, whatever stands behind it, as expr does with subscripts.
func (r *reader) dims() []int64 {
	if !r.takes("(") {
		return nil
	}
	l := []int64{r.dim()}
	for r.sees(",") {
		if len(l) == api.MaxRank {
			r.fail(api.ErrLong)
			return nil
		}
		r.at++
		l = append(l, r.dim())
	}
	r.must(")")
	return l
}

func (r *reader) dim() int64 {
	if r.seesKind(tok.Number) && r.words[r.at].N == 0 {
		r.fail(api.ErrArg)
	}
	return r.number()
}

func (r *reader) step() int64 {
	if !r.takes(",") {
		return 1
	}
	if r.takes("-") {
		return -r.number()
	}
	return r.number()
}

// target hands expr the words of the Var or Elem alone: more would be read as an operation with it.
func (r *reader) target() expr.Expr {
	if !r.seesKind(tok.Name) {
		r.fail(api.ErrForm)
		return expr.Expr{}
	}
	return r.expression(r.targetEnd())
}

// targetEnd is the place behind the Name here, or behind the bracket that ends its subscripts.
// Of a bracket that does not end it is the end of all: expr tells what is missing.
func (r *reader) targetEnd() int {
	end := r.at + 1
	if end == len(r.words) || r.words[end].Text != "(" {
		return end
	}
	open := 0
	for end < len(r.words) {
		switch r.words[end].Text {
		case "(":
			open++
		case ")":
			open--
		}
		end++
		if open == 0 {
			return end
		}
	}
	return end
}

// expression reads the longest that stands here and ends at the place end at the latest.
func (r *reader) expression(end int) expr.Expr {
	if r.err != nil {
		return expr.Expr{}
	}
	e, n, err := expr.Parse(r.words[r.at:end])
	r.took(n, err)
	return e
}

func (r *reader) cond() expr.Cond {
	if r.err != nil {
		return expr.Cond{}
	}
	c, n, err := expr.ParseCond(r.words[r.at:])
	r.took(n, err)
	return c
}

// took goes behind what expr has read, or to the word that it refuses: it counts from where it began.
func (r *reader) took(n int, err error) {
	if err == nil {
		r.at += n
		return
	}
	var f *api.Fault
	if errors.As(err, &f) {
		r.at += f.At
	}
	r.fail(err)
}

func (r *reader) name() string {
	if !r.seesKind(tok.Name) {
		r.fail(api.ErrForm)
		return ""
	}
	r.at++
	return r.words[r.at-1].Text
}

func (r *reader) number() int64 {
	if !r.seesKind(tok.Number) {
		r.fail(api.ErrForm)
		return 0
	}
	r.at++
	return r.words[r.at-1].N
}

func (r *reader) end() {
	if r.at < len(r.words) {
		r.fail(api.ErrForm)
	}
}

func (r *reader) must(text string) {
	if !r.takes(text) {
		r.fail(api.ErrForm)
	}
}

func (r *reader) takes(text string) bool {
	if !r.sees(text) {
		return false
	}
	r.at++
	return true
}

// sees asks for the text alone: of tok.Line's words none but a Key is written as a Key, none but a Sign as a Sign.
func (r *reader) sees(text string) bool {
	return r.err == nil && r.at < len(r.words) && r.words[r.at].Text == text
}

func (r *reader) seesKind(kind int) bool {
	return r.err == nil && r.at < len(r.words) && r.words[r.at].Kind == kind
}

// fail keeps the first fault, which is the leftmost.
func (r *reader) fail(err error) {
	if r.err == nil {
		r.err = &api.Fault{Part: "stmt", At: r.at, Err: err}
	}
}
