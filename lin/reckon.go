package lin

import "furrow/num"

// reckoner keeps in mind whether anything that it worked out was beyond 64 bits, so that it is asked once, behind all.
type reckoner struct {
	over bool
}

func (r *reckoner) add(a, b int64) int64 {
	return r.kept(num.Add(a, b))
}

func (r *reckoner) mul(a, b int64) int64 {
	return r.kept(num.Mul(a, b))
}

func (r *reckoner) kept(n int64, ok bool) int64 {
	r.over = r.over || !ok
	return n
}
