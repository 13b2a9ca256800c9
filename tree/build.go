package tree

import (
	"furrow/api"
	"furrow/stmt"
)

// builder takes lines from the first on. A block stays in open till its end comes, and only then goes into the one
// round it, so that what is done is whole.
type builder struct {
	done []Node
	open []Node // each within the one ahead of it
}

func (b *builder) take(at int, s string) error {
	x, err := stmt.Parse(s)
	if err != nil {
		return err
	}
	n := Node{Line: at, End: at, Stmt: x, Mid: -1}
	switch x.Kind {
	case stmt.Empty:
		return nil
	case stmt.Do, stmt.If:
		return b.begin(n)
	case stmt.Else:
		return b.middle(at)
	case stmt.EndDo:
		return b.end(stmt.Do, at)
	case stmt.EndIf:
		return b.end(stmt.If, at)
	case stmt.Decl:
		if !b.atHead() {
			return api.ErrForm
		}
	}
	b.add(n)
	return nil
}

func (b *builder) begin(n Node) error {
	if len(b.open) == api.MaxDeep {
		return api.ErrLong
	}
	b.open = append(b.open, n)
	return nil
}

func (b *builder) middle(at int) error {
	n := b.innermost()
	if n == nil || n.Stmt.Kind != stmt.If || n.Mid >= 0 {
		return api.ErrEnd
	}
	n.Mid = at
	return nil
}

func (b *builder) end(kind, at int) error {
	n := b.innermost()
	if n == nil || n.Stmt.Kind != kind {
		return api.ErrEnd
	}
	n.End = at
	b.open = b.open[:len(b.open)-1]
	b.add(*n)
	return nil
}

// add puts a statement, or a block that has its end, where the next one belongs.
func (b *builder) add(n Node) {
	round := b.innermost()
	switch {
	case round == nil:
		b.done = append(b.done, n)
	case round.Mid >= 0:
		round.Else = append(round.Else, n)
	default:
		round.Body = append(round.Body, n)
	}
}

// atHead tells whether nothing but Decls has come yet. The last one tells it of all, since no Decl is taken behind another kind.
func (b *builder) atHead() bool {
	last := len(b.done) - 1
	return len(b.open) == 0 && (last < 0 || b.done[last].Stmt.Kind == stmt.Decl)
}

// innermost is nil where no block is open.
func (b *builder) innermost() *Node {
	if len(b.open) == 0 {
		return nil
	}
	return &b.open[len(b.open)-1]
}
