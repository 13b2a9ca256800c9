package run_test

import (
	"errors"
	"fmt"
	"math"
	"testing"

	"furrow/api"
	"furrow/eval"
	"furrow/run"
	"furrow/sema"
)

func table(t *testing.T, s string) sema.Table {
	t.Helper()
	_, x := parsed(t, s)
	return x
}

// same asks both ways round.
func same(t *testing.T, a, b run.Result, names []string, ta, tb sema.Table, want bool) {
	t.Helper()
	if run.Same(a, b, names, ta, tb) != want || run.Same(b, a, names, tb, ta) != want {
		t.Errorf("P1001: Same of %s and %s by %q: not %v", told(a), told(b), names, want)
	}
}

// runs are held against each other with enough fuel and some numbers to be read.
func runs(t *testing.T, a, b string, names []string, want bool) {
	t.Helper()
	in := []int64{7, 8, 9}
	same(t, ran(t, a, in, plenty), ran(t, b, in, plenty), names, table(t, a), table(t, b), want)
}

func TestSameOut(t *testing.T) {
	runs(t, "", "integer x\nx = 5\n", nil, true)
	runs(t, "print 1\nprint 2", "integer i\ndo i = 1, 2\nprint i\nend do", []string{"i"}, true)
	runs(t, "print 1\nprint 2", "print 1", nil, false)
	runs(t, "print 1\nprint 2", "print 2\nprint 1", nil, false)
	runs(t, "print 1\nprint 2", "print 1\nprint 3", nil, false)
	runs(t, "print 0", "", nil, false)
	runs(t, "print 1\nprint 1 / 0", "print 2\nprint 1 / 0", nil, false)
	runs(t, "print 1 / 0", "print 2\nprint 1 / 0", nil, false)
}

func TestSameRead(t *testing.T) {
	runs(t, "integer x\nread x", "integer y, x\nread y\nx = y", []string{"x"}, true)
	runs(t, "integer x\nread x", "", nil, false)
	runs(t, "integer x\nread x\nread x\nx = 0", "integer x\nread x\nx = 0", []string{"x"}, false)
	runs(t, "integer x\nread x\nx = 1 / 0", "integer x\nx = 1 / 0", nil, false)
}

// Where it trapped, by which steps and with which cells, is not asked; nor are cells of names that are not asked for.
func TestSameTraps(t *testing.T) {
	runs(t, "print 1 / 0", "integer x\nx = 5\n\nx = x / 0", []string{"x"}, true)
	runs(t, "integer x\nx = 1\nx = 1 / 0", "integer x\nx = 2\nprint 3 / 0", []string{"x"}, true)
	runs(t, "integer a(2)\na(0) = 1", "integer b(2, 2), a(2)\na(1) = 7\nprint b(1, 3)", []string{"a"}, true)
	runs(t, "print 1 / 0", "integer a(1)\nprint a(2)", nil, false)
	runs(t, "print 1 / 0", "print 1", nil, false)
	runs(t, "integer x\nx = 1 / 0", "integer x", []string{"x"}, false)
	four := "integer x\nread x\nread x\nread x\nread x"
	runs(t, four, "integer i, x\ndo i = 1, 9\nread x\nend do", []string{"x", "i"}, true)
	runs(t, four, "integer x\nread x\nread x\nread x", nil, false)
}

func TestSameFuel(t *testing.T) {
	x := sema.Table{}
	r := ran(t, "print 1", nil, 0)
	same(t, r, r, nil, x, x, false)
	same(t, r, run.Result{Line: -1}, nil, x, x, false)
	same(t, r, run.Result{Err: &api.Fault{Part: "line", Err: api.ErrZero}}, nil, x, x, false)
	same(t, r, run.Result{Err: api.ErrFuel}, nil, x, x, false)
}

type wrapped struct{ error }

func (w wrapped) Unwrap() error { return w.error }

// The Errno alone counts, however it is wrapped; an error without one is alike to none.
func TestSameErrno(t *testing.T) {
	x := sema.Table{}
	wraps := func(e error) []error {
		return []error{e, wrapped{e}, &api.Fault{Err: e}, &api.Fault{Part: "line", At: 7, Err: wrapped{&api.Fault{Part: "div", Err: e}}}, fmt.Errorf("deep: %w", e)}
	}
	for n := api.ErrArg; n <= api.ErrUndo; n++ {
		for m := api.ErrArg; m <= api.ErrUndo; m++ {
			for i, a := range wraps(n) {
				for j, b := range wraps(m) {
					same(t, run.Result{Err: a, Line: i, Steps: j}, run.Result{Err: b, Line: j, Steps: i}, nil, x, x, n == m && n != api.ErrFuel)
				}
			}
		}
		for _, other := range []error{nil, errors.New("zero"), &api.Fault{Part: "line"}, wrapped{errors.New("zero")}} {
			same(t, run.Result{Err: n}, run.Result{Err: other}, nil, x, x, false)
			same(t, run.Result{Err: other}, run.Result{Err: other}, nil, x, x, other == nil)
		}
	}
}

func TestSameCells(t *testing.T) {
	runs(t, "integer x\nx = 5", "integer y, x\nx = 5\ny = 6", []string{"x", "y", "z"}, true)
	runs(t, "integer x\nx = 5", "integer x\nx = 6", []string{"x"}, false)
	runs(t, "integer x\nx = 5", "integer x\nx = 6", nil, true)
	runs(t, "integer x, y\nx = 5", "integer x, y\nx = 6", []string{"y"}, true)
	runs(t, "integer x, y\nx = 5", "integer x, y\nx = 6", []string{"y", "z", "x"}, false)
	runs(t, "integer x\nx = 5", "integer y\ny = 6", []string{"x", "y"}, true)
	runs(t, "integer x, y, z\nx = 1\ny = 2\nz = 3", "integer z, x, y\ny = 2\nz = 3\nx = 1", []string{"x", "y", "z", "x"}, true)
	runs(t, "integer x, y\nx = 1\ny = 2", "integer y, x\nx = 2\ny = 1", []string{"y"}, false)
}

// Arrays of other Dims, or a scalar and an array, are let be.
func TestSameDims(t *testing.T) {
	for _, other := range []string{"x", "x(1)", "x(3)", "x(5)", "x(6)", "x(6, 1)", "x(3, 2)", "x(2, 3, 1)", "x(1, 2, 3)"} {
		runs(t, "integer x(2, 3)\nx(1, 1) = 5", "integer "+other, []string{"x"}, true)
	}
	runs(t, "integer x\nx = 5", "integer x(1)\nx(1) = 6", []string{"x"}, true)
	runs(t, "integer x(2, 3)\nx(1, 3) = 5", "integer q, x(2, 3)\nx(1, 3) = 5", []string{"x", "q"}, true)
	runs(t, "integer x(2, 3)\nx(1, 3) = 5", "integer x(2, 3)\nx(2, 3) = 5", []string{"x"}, false)
	runs(t, "integer x(2, 3), y\ny = 5", "integer x(2, 3), y", []string{"x"}, true)
	runs(t, "integer y, x(2, 3)\ny = 5", "integer y, x(2, 3)", []string{"x"}, true)
	first := "integer p, x(2, 3), q\n"
	for i := 1; i <= 2; i++ {
		for j := 1; j <= 3; j++ {
			set := fmt.Sprintf("x(%d, %d) = -1\n", i, j)
			runs(t, first+set, "integer x(2, 3)\n", []string{"x"}, false)
			runs(t, first+set, "integer x(2, 3)\n"+set, []string{"x"}, true)
			runs(t, first+set, "integer x(3, 2)\n", []string{"x"}, true)
		}
	}
	runs(t, "integer x(4096)\nx(4096) = 1", "integer x(4096)\nx(4096) = 1", []string{"x"}, true)
	runs(t, "integer x(4096)\nx(4096) = 1", "integer x(4096)\nx(4096) = 2", []string{"x"}, false)
	runs(t, "integer x(4096)\nx(1) = 1", "integer x(4096)", []string{"x"}, false)
}

// Same is alike to itself, whatever was run, but for want of fuel.
func TestSameItself(t *testing.T) {
	for _, s := range []string{"", "print 1", "integer x, a(3)\nread x\na(x) = x\nprint a(1)", "integer x\nread x\nprint x / 0", "integer a(2)\na(1) = a(3)"} {
		r := ran(t, s, []int64{2}, plenty)
		x := table(t, s)
		same(t, r, r, []string{"x", "a", "b", ""}, x, x, true)
		same(t, r, ran(t, s, []int64{2}, plenty), []string{"x", "a"}, x, x, true)
	}
}

// P1, P9: tables that fit no Store end it all the same, and cells that are not there are alike to none.
func TestSameTablesThatAreNone(t *testing.T) {
	good := sema.Table{Syms: []sema.Sym{{Name: "x", At: 1, Size: 2, Dims: []int64{2}}}, Cells: 3}
	r := run.Result{Line: -1, Store: eval.Store{1, 2, 3}}
	same(t, r, r, []string{"x"}, good, good, true)
	for _, n := range []int{0, 1, 2} {
		same(t, r, run.Result{Line: -1, Store: r.Store[:n:n]}, []string{"x"}, good, good, false)
		same(t, r, run.Result{Line: -1, Store: r.Store[:n]}, []string{"x"}, good, good, false) // nor those in its spare room
	}
	for _, at := range []int{-1, 2, 3, 4, math.MinInt, math.MaxInt} {
		for _, size := range []int64{2, 3, math.MaxInt64} {
			bad := sema.Table{Syms: []sema.Sym{{Name: "x", At: at, Size: size, Dims: []int64{2}}}}
			same(t, r, r, []string{"x"}, good, bad, false)
			same(t, r, r, []string{"x"}, bad, bad, false)
			same(t, r, r, []string{"y"}, bad, bad, true)
		}
	}
	for _, size := range []int64{-1, 3, math.MinInt64, math.MaxInt64} {
		bad := sema.Table{Syms: []sema.Sym{{Name: "x", At: 1, Size: size}}}
		same(t, r, r, []string{"x"}, bad, bad, false)
		same(t, run.Result{}, run.Result{}, []string{"x"}, bad, bad, false)
	}
	same(t, r, r, []string{"x"}, sema.Table{}, good, true)
	same(t, run.Result{}, run.Result{}, []string{"", "x"}, sema.Table{}, sema.Table{}, true)
	same(t, run.Result{}, run.Result{Out: []int64{}, Store: eval.Store{}}, nil, sema.Table{}, sema.Table{Syms: []sema.Sym{}}, true)
}
